import PyProof.Rows.All
import Wide.All
import OpenK.AllK
import Wide.FinOn
import Lean
import PyProof.EqAt
import PyProof.EqKinds
import PyProof.TupleCall
import KE.KRevIter
import PyProof.AttrMissHeap
import KE.KDictOf
import KE.KxText
import PyProof.DictIter
import PyProof.DictWalks
import PyProof.EnumMake
import PyProof.EnumFor
import PyProof.Rows.SetFrom
import PyProof.SetRoads
import PyProof.DictStraight
import KE.KRevSl
import KE.KDictList
import PyProof.NeKinds
import PyProof.Rows.EqBoolInt
import PyProof.ExcClass3
import PyProof.ExcQuiet
import PyProof.ExcAttrAll.ValueError
import PyProof.ExcArgsOwn
import PyProof.RaisesMany
import PyProof.InstStoreFacts
import PyProof.InstLoad
import PyProof.ExcInit
import OpenK.KOwn
import PyProof.AssignAttr
import PyProof.RulesAs
import PyProof.RulesDel
import PyProof.IsiBase
import PySem.Challenge.RW_formferry_k10_ferries_looked_at
set_option Elab.async false
set_option linter.all false
set_option maxRecDepth 100000
set_option compiler.extract_closed false
set_option compiler.postponeCompile true
set_option bootstrap.genMatcherCode false
set_option genSizeOfSpec false
namespace PySem.W.Fast
def tw10500220006732128617:Unit:=()
def tw2326526202950724616:Unit:=()
def tw11713364527077445197:Unit:=()
def tw17375676906782317231:Unit:=()
def tw1230929500420025224:Unit:=()
def tw17172468836619814118:Unit:=()
def tw5821663213141798861:Unit:=()
def tw17463633501103124649:Unit:=()
def tw11668020896547509575:Unit:=()
def tw10362024872337432253:Unit:=()
def tw16542376472226377350:Unit:=()
def tw16007424018386401270:Unit:=()
def tw15709842958353601702:Unit:=()
def tw14402827033395077003:Unit:=()
def tw8633490988466650921:Unit:=()
def tw2550784825113810299:Unit:=()
def tw18191855451400797128:Unit:=()
def tw2693562815069436115:Unit:=()
def tw279835399294142906:Unit:=()
def tw6074026075068535920:Unit:=()
def tw7990064196842795972:Unit:=()
def tw1408051874767379189:Unit:=()
def tw907091409243753397:Unit:=()
def tw11203434625495401290:Unit:=()
def tw1968145425657788417:Unit:=()
def tw5503951110590857375:Unit:=()
def tw8718609148246338915:Unit:=()
def tw12067723191841225309:Unit:=()
def tw14403881789707265195:Unit:=()
def tw3825048444115231564:Unit:=()
def tw5159848924271675962:Unit:=()
def tw11628882341829099607:Unit:=()
def tw10704549661941948352:Unit:=()
def tw14177470273551362620:Unit:=()
def tw8992167031843504015:Unit:=()
def tw7394188058321040571:Unit:=()
def tw9800858386411825257:Unit:=()
def tw12764754698915631052:Unit:=()
def tw17266933611261512535:Unit:=()
def tw10144228883748447911:Unit:=()
def tw8100387091662479247:Unit:=()
def tw8502912590862178363:Unit:=()
def tw8670975696423556622:Unit:=()
def tw7169394905758520809:Unit:=()
def tw10327843583198236194:Unit:=()
def tw15304753349370624138:Unit:=()
def tw5947990323020823204:Unit:=()
def tw10570498611962444325:Unit:=()
def tw5453784970024430730:Unit:=()
def tw4656597413633267665:Unit:=()
def tw8199146058859661806:Unit:=()
def tw17705531148253400631:Unit:=()
def tw16513909643417216958:Unit:=()
def tw13025109215358288263:Unit:=()
def tw6939354691393815633:Unit:=()
def tw830516565519100426:Unit:=()
def tw267989106515166963:Unit:=()
def tw6009636353891073958:Unit:=()
def tw14510037463928330356:Unit:=()
def tw7432702246010416542:Unit:=()
def tw3262522076969766282:Unit:=()
def tw17310116239173847793:Unit:=()
def tw2825842457178094331:Unit:=()
def tw2011313355000102228:Unit:=()
def tw15327811914653736291:Unit:=()
def tw2703989744997454941:Unit:=()
def tw154820725614128094:Unit:=()
def tw4214153365506499798:Unit:=()
def tw12730104416201031963:Unit:=()
def tw3914183626914115318:Unit:=()
def tw11100512710321573217:Unit:=()
def tw8531030404322784575:Unit:=()
def tw16390049953550880504:Unit:=()
def tw15848259204748076204:Unit:=()
def tw9942989487738233284:Unit:=()
def tw5871013276948291055:Unit:=()
def tw11912947271114317932:Unit:=()
def tw7981073840065501135:Unit:=()
def tw13627952650888534952:Unit:=()
def tw5649698774210314742:Unit:=()
def tw2632141028607169872:Unit:=()
def tw2758678418094384584:Unit:=()
def tw18243774410581007328:Unit:=()
def tw16989017647069812845:Unit:=()
def tw9519719916935051996:Unit:=()
def tw8247035016946947684:Unit:=()
def tw2759800532726257912:Unit:=()
def tw15373530137120191851:Unit:=()
def tw13403030132513412175:Unit:=()
def tw12853450391534687742:Unit:=()
def tw18112153864895696809:Unit:=()
def tw5063292383642594367:Unit:=()
def tw13825665813050883130:Unit:=()
def tw1023633168660202223:Unit:=()
def tw15953444751620900975:Unit:=()
def tw13983540409524794699:Unit:=()
def tw10913359588631271905:Unit:=()
def tw16868170830398788583:Unit:=()
def tw15182718327892871485:Unit:=()
def tw9625896951268818122:Unit:=()
def tw15815939082253913129:Unit:=()
def tw17503203126778787409:Unit:=()
def tw4259893366309273933:Unit:=()
def tw2918199869722347701:Unit:=()
def tw12716307363708649088:Unit:=()
def tw15378316347631563811:Unit:=()
def tw5152710973436484451:Unit:=()
def tw264879633996605818:Unit:=()
def tw17315672307266695543:Unit:=()
def tw10314281582709177881:Unit:=()
def tw18277900548044636484:Unit:=()
def tw6744061703272088682:Unit:=()
def tw2310011327064581239:Unit:=()
def tw903101674519292736:Unit:=()
def tw2419203156431512201:Unit:=()
def tw3111142394488982991:Unit:=()
def tw10000923614378348270:Unit:=()
def tw10906038986886053614:Unit:=()
def tw110115298330918206:Unit:=()
def tw17461748297378143740:Unit:=()
def tw2873892723761064351:Unit:=()
def tw14676855392260710102:Unit:=()
def tw15122264954354013295:Unit:=()
def tw10640816125914725768:Unit:=()
def tw9192024127168166374:Unit:=()
def tw12944395927869602139:Unit:=()
def tw14991500298966917674:Unit:=()
def tw11214562168158786276:Unit:=()
def tw4349804177272524191:Unit:=()
def tw10765653114802793713:Unit:=()
def tw8090916413153886249:Unit:=()
def tw3475828088416711030:Unit:=()
def tw5308716444746394208:Unit:=()
def tw17461638596537218552:Unit:=()
def tw4272473386270065202:Unit:=()
def tw13943034848456962945:Unit:=()
def tw2492247234137224367:Unit:=()
def tw6547061728605650202:Unit:=()
def tw14316405477477322885:Unit:=()
def tw13141303562750750941:Unit:=()
def tw16469283483455865671:Unit:=()
def tw1042487716456332851:Unit:=()
def tw8522044869934170706:Unit:=()
def tw10056054903193465109:Unit:=()
def tw11764047634328692260:Unit:=()
def tw827904746394874678:Unit:=()
def tw12349852819931070600:Unit:=()
def tw16842891802738606809:Unit:=()
def tw5709060917076823829:Unit:=()
def tw806252172262602729:Unit:=()
def tw14110636721031105503:Unit:=()
def tw14745995620596859022:Unit:=()
def tw9528543326741117042:Unit:=()
def tw11771832770216635322:Unit:=()
def tw2489664059927119011:Unit:=()
def tw10874882930026635141:Unit:=()
def tw4711400835161824074:Unit:=()
def tw4965029258275635232:Unit:=()
def tw3011739579056428764:Unit:=()
def tw3240221424511599128:Unit:=()
def tw5180498480124123924:Unit:=()
def tw10678164839207109933:Unit:=()
def tw8645712676961631075:Unit:=()
def tw9478326700545970310:Unit:=()
def tw6071042364744954963:Unit:=()
def tw12775408620335706330:Unit:=()
def tw12903669878069352838:Unit:=()
def tw9328749583280161224:Unit:=()
def tw11041555481703336239:Unit:=()
def tw15281209831075700760:Unit:=()
def tw186123775910856838:Unit:=()
def tw14215151988654223142:Unit:=()
def tw15150482132029733476:Unit:=()
def tw4253060084465509004:Unit:=()
def tw14198902592072832975:Unit:=()
def tw13790034556626280234:Unit:=()
def tw210865191215839083:Unit:=()
def tw3203273708807794591:Unit:=()
def tw337309294758263648:Unit:=()
def tw6985954778601384911:Unit:=()
def tw15325208755770478190:Unit:=()
def tw5589382078895525849:Unit:=()
def tw1878137902636993028:Unit:=()
def tw11036455286272415082:Unit:=()
def tw6883476238399751487:Unit:=()
def tw8245263956216052866:Unit:=()
def tw13658358457545747575:Unit:=()
def tw9672755455730362321:Unit:=()
def tw18058313079812131473:Unit:=()
def tw14092997291097391580:Unit:=()
def tw14922164606748942247:Unit:=()
def tw9594811376362494788:Unit:=()
def tw5361716669432257173:Unit:=()
def tw7969577817614526879:Unit:=()
def tw4875349767871424948:Unit:=()
def tw12114441085062375074:Unit:=()
def tw11722988126973263343:Unit:=()
def tw6580902212412753100:Unit:=()
def tw9371696651602587339:Unit:=()
def tw14472046810499969363:Unit:=()
def tw16042649939139513466:Unit:=()
def tw5725484528980888105:Unit:=()
def tw12673386412919251677:Unit:=()
def tw12684153733473494683:Unit:=()
def tw14646396197083749162:Unit:=()
def tw17136819413378924367:Unit:=()
def tw9248461039471489732:Unit:=()
def tw11876658563832263822:Unit:=()
def tw4855271887682945548:Unit:=()
def tw2797988891041755914:Unit:=()
def tw352420871913714656:Unit:=()
def tw6039955638327628034:Unit:=()
def tw6206650425872883843:Unit:=()
def tw9688817598810916610:Unit:=()
def tw17323438574708581376:Unit:=()
def tw12076913450539025649:Unit:=()
def tw12551054619870210102:Unit:=()
def tw4570738141632706540:Unit:=()
def tw11850585854497694298:Unit:=()
def tw11694820454138623512:Unit:=()
def tw353219868273484266:Unit:=()
def tw7596251732065678503:Unit:=()
def tw14513357453224807587:Unit:=()
def tw3505290493319266873:Unit:=()
def tw16789567577529578136:Unit:=()
def tw11708413946505844380:Unit:=()
def tw8585605617317861014:Unit:=()
def tw11676345643226727747:Unit:=()
def tw1228843106225775458:Unit:=()
def tw17230136803912357799:Unit:=()
def tw245164075536222717:Unit:=()
def tw14387643667937231753:Unit:=()
def tw11166551999215711019:Unit:=()
def tw11655469098575755581:Unit:=()
def tw8353900632441782809:Unit:=()
def tw13338190879243449095:Unit:=()
def tw13130692369482516365:Unit:=()
def tw10108621825662505870:Unit:=()
def tw13231152631042366422:Unit:=()
def tw16651568563358677666:Unit:=()
def tw6916003080244638749:Unit:=()
def tw17599887137712250281:Unit:=()
def tw13019724199105209373:Unit:=()
def tw10430642681299764357:Unit:=()
def tw16500280932166722450:Unit:=()
def tw7546531936427773027:Unit:=()
def tw1073895661362434978:Unit:=()
def tw14635031977713141788:Unit:=()
def tw3257094263399837433:Unit:=()
def tw5458863346071815523:Unit:=()
def tw7775492115877811023:Unit:=()
def tw16329493852335366319:Unit:=()
def tw16801084538920659449:Unit:=()
def tw3794317485171461274:Unit:=()
def tw205006415296952492:Unit:=()
def tw12814387853414094744:Unit:=()
def tw13374047386195816754:Unit:=()
def tw9767588699436746398:Unit:=()
def tw11133734094439438749:Unit:=()
def tw2857733185963508104:Unit:=()
def tw16999572181105095065:Unit:=()
def tw1191207552538165328:Unit:=()
def tw9558283310498959171:Unit:=()
def tw6444972477243711012:Unit:=()
def tw1043986100146006058:Unit:=()
def tw7336685174929141057:Unit:=()
def tw17846949151549690708:Unit:=()
def tw13254010314118323202:Unit:=()
def tw1766054696204055197:Unit:=()
def tw18223476382462564975:Unit:=()
def tw6607102761000100721:Unit:=()
def tw12388343423393288096:Unit:=()
def tw2621301841401811389:Unit:=()
def tw12765445190652898877:Unit:=()
def tw16976940750292247335:Unit:=()
def tw1557397075108321910:Unit:=()
def tw396680191423821023:Unit:=()
def tw6620245474793104166:Unit:=()
def tw18011462369336833403:Unit:=()
def tw2410655352696087983:Unit:=()
def tw12155400384094013724:Unit:=()
def tw11447977412871267111:Unit:=()
def tw754267177363354506:Unit:=()
def tw10227976923077596711:Unit:=()
def tw925400971898350272:Unit:=()
def tw8207862608406425858:Unit:=()
def tw6963623844289663158:Unit:=()
def tw2681553050403637406:Unit:=()
def tw10197646624620592663:Unit:=()
def tw15497287486100558084:Unit:=()
def tw14627025155011348253:Unit:=()
def tw17897263301762698457:Unit:=()
def tw10732137284810058571:Unit:=()
def tw162649504851031943:Unit:=()
def tw6757517483085298534:Unit:=()
def tw2142474566618221522:Unit:=()
def tw1829825009388151300:Unit:=()
def tw15753449873505672634:Unit:=()
def tw16100919863206856161:Unit:=()
def tw308318202039365651:Unit:=()
def tw3115678751140249508:Unit:=()
def tw8530621409640965759:Unit:=()
def tw6783207761949451442:Unit:=()
def tw17661011859708972354:Unit:=()
def tw5575193190859316399:Unit:=()
def tw16453327196464529559:Unit:=()
def tw10335588107794640672:Unit:=()
def tw11226920830088274385:Unit:=()
def tw15627962256895125481:Unit:=()
def tw14139586763714451438:Unit:=()
def tw49163656183907806:Unit:=()
def tw5720072031281955666:Unit:=()
def tw12101174525472480180:Unit:=()
def tw8957711142111219946:Unit:=()
def tw17506505462487551346:Unit:=()
def tw13618250070269226542:Unit:=()
def tw4393473128466166424:Unit:=()
def tw16135032673194634741:Unit:=()
def tw1750064471295669853:Unit:=()
def tw7977407422980384249:Unit:=()
def tw10462122494400251491:Unit:=()
def tw17918065124249435753:Unit:=()
def tw17027157750486400140:Unit:=()
def tw4375268515004840338:Unit:=()
def tw9951860907293498430:Unit:=()
def tw11958123685260931983:Unit:=()
def tw3485490565885670991:Unit:=()
def tw12510472048517341357:Unit:=()
def tw16136055218769332870:Unit:=()
def tw15666907062239088705:Unit:=()
def tw14782028279527338120:Unit:=()
def tw7367722864733182034:Unit:=()
def tw1991502609589171049:Unit:=()
def tw11170841688324803323:Unit:=()
def tw4878066601470339427:Unit:=()
def tw17166738058137762529:Unit:=()
def tw3678262557058169138:Unit:=()
def tw2926457920179801611:Unit:=()
def tw4590932663435772705:Unit:=()
def tw8815772969890168567:Unit:=()
def tw14160206386515143092:Unit:=()
def tw8304520713277093110:Unit:=()
def tw16696514332447960535:Unit:=()
def tw18286892569424213766:Unit:=()
def tw3117980781401554295:Unit:=()
def tw4677769991548280597:Unit:=()
def tw923265265364569475:Unit:=()
def tw9698478053199269534:Unit:=()
def tw1455842395299263184:Unit:=()
def tw2996430600008542646:Unit:=()
def tw13012194660651517923:Unit:=()
def tw15532093271027525377:Unit:=()
def tw4155196518958128216:Unit:=()
def tw3403885106975807909:Unit:=()
def tw18315896728448578733:Unit:=()
def tw11887601171875732919:Unit:=()
def tw10202541881378038999:Unit:=()
def tw16406773273859805779:Unit:=()
def tw9060258793416349049:Unit:=()
def tw13777451965383755260:Unit:=()
def tw257794479659514776:Unit:=()
def tw16993124094078490853:Unit:=()
def tw16936182939297694737:Unit:=()
def tw1181084448896620988:Unit:=()
def tw18263646237830825539:Unit:=()
def tw2536093366003361637:Unit:=()
def tw5126335056738928978:Unit:=()
def tw3259586793442323455:Unit:=()
def tw4253418607821704163:Unit:=()
def tw14619084044628943929:Unit:=()
def tw7591873562065972300:Unit:=()
def tw16242927467930318807:Unit:=()
def tw5549080801024951126:Unit:=()
def tw11258340467732291135:Unit:=()
def tw14720686117494889700:Unit:=()
def tw4288439177663730383:Unit:=()
def tw16101509843073019012:Unit:=()
def tw16839319725532323064:Unit:=()
def tw1972291665117261150:Unit:=()
def tw9178889258797279592:Unit:=()
def tw1566615511993273538:Unit:=()
def tw14639385065918390199:Unit:=()
def tw11456367629333608537:Unit:=()
def tw562794257545078250:Unit:=()
def tw6274257432500019994:Unit:=()
def tw6490893954838495214:Unit:=()
def tw18144289118219440378:Unit:=()
def tw17744211936250156:Unit:=()
def tw12996538811164496040:Unit:=()
def tw5449651964636693123:Unit:=()
def tw15003257319637648244:Unit:=()
def tw5388962672006466319:Unit:=()
def tw17591840039436871487:Unit:=()
def tw1294969303541123336:Unit:=()
def tw11997373341674716441:Unit:=()
def tw15226084222258435905:Unit:=()
def tw6753146788091072386:Unit:=()
def tw7935616576049432399:Unit:=()
def tw3935828916170763933:Unit:=()
def tw2034012760223494503:Unit:=()
def tw10381889978206979653:Unit:=()
def tw910193933643082101:Unit:=()
def tw16433161748645416020:Unit:=()
def tw18185334874255476199:Unit:=()
def tw18346550098972490842:Unit:=()
def tw4816670332318260888:Unit:=()
def tw11110969496381241022:Unit:=()
def tw17017496243624541220:Unit:=()
def tw10481726480519891917:Unit:=()
def tw9839018328140509530:Unit:=()
def tw18372102305390139770:Unit:=()
def tw15435822755641355057:Unit:=()
def tw16308743888590203386:Unit:=()
def tw11404489353753858613:Unit:=()
def tw16226350388110044817:Unit:=()
def tw18180894707753299222:Unit:=()
def tw17926423005451675971:Unit:=()
def tw13244709150802301733:Unit:=()
def tw10688357366697632782:Unit:=()
def tw15045930978394449252:Unit:=()
def tw5792095648048379454:Unit:=()
def tw2370611373386542906:Unit:=()
def tw15662100811412588878:Unit:=()
def tw15887665843090749334:Unit:=()
def tw10395380796350096500:Unit:=()
def tw3582833787366764414:Unit:=()
def tw9400415156655056988:Unit:=()
def tw7069472346425729116:Unit:=()
end PySem.W.Fast
set_option maxHeartbeats 800000
namespace L2
open PySem PySem.Spec PyProof.Rows
abbrev Key:=Sum Int Str
def y5k:Key→Value→Bool
 |.inl k,v=>Value.isInt k v
 |.inr x,v=>Value.isStrOf x v
def keyH (w:World):Key→Int
 |.inl k=>hashInt k
 |.inr x=>hashStr w x
theorem z1x:∀ {k:Key}{v:Value},y5k k v=true→(∃ i t,k=Sum.inl i∧v=Value.int i t)∨(∃ x t,k=Sum.inr x∧v=Value.str x t)
 |.inl i,v,h=>by
  obtain ⟨t,e⟩:=Value.isInt_shape (k:=i) (v:=v) h
  exact .inl ⟨i,t,rfl,e⟩
 |.inr x,v,h=>by
  obtain ⟨t,e⟩:=Value.isStrOf_shape (x:=x) (v:=v) h
  exact .inr ⟨x,t,rfl,e⟩
theorem keyIs_int (i:Int) (t:Tok):y5k (.inl i) (.int i t)=true:=by simp [y5k,Value.isInt]
theorem keyIs_str (x:Str) (t:Tok):y5k (.inr x) (.str x t)=true:=by simp [y5k,Value.isStrOf]
theorem key_ll (a b:Int):decide ((Sum.inl a:Key)=Sum.inl b)=(a == b):=by
 by_cases e:a=b
 ·subst e;simp
 ·have h:¬ (Sum.inl a:Key)=Sum.inl b:=fun q=>e (Sum.inl.inj q)
  rw [decide_eq_false h]
  exact (beq_eq_false_iff_ne.mpr e).symm
theorem key_rr (a b:Str):decide ((Sum.inr a:Key)=Sum.inr b)=decide (a=b):=by
 by_cases e:a=b
 ·subst e;simp
 ·have h:¬ (Sum.inr a:Key)=Sum.inr b:=fun q=>e (Sum.inr.inj q)
  rw [decide_eq_false h,decide_eq_false e]
theorem key_lr (a:Int) (b:Str):decide ((Sum.inl a:Key)=Sum.inr b)=false:=decide_eq_false (fun q=>nomatch q)
theorem key_rl (a:Str) (b:Int):decide ((Sum.inr a:Key)=Sum.inl b)=false:=decide_eq_false (fun q=>nomatch q)
def z1t (prog:Program) (w:World):PySem.KeyKind prog w Key where
 is:=y5k
 hash:=keyH w
 inj:=fun v a b ha hb=>by
  rcases z1x ha with ⟨i,t,rfl,rfl⟩|⟨x,t,rfl,rfl⟩
  ·rcases z1x hb with ⟨j,u,rfl,e⟩|⟨y,u,rfl,e⟩
   ·injection e with e1 _;rw [e1]
   ·exact nomatch e
  ·rcases z1x hb with ⟨j,u,rfl,e⟩|⟨y,u,rfl,e⟩
   ·exact nomatch e
   ·injection e with e1 _;rw [e1]
 byValue:=fun k v h=>by
  rcases z1x h with ⟨i,t,rfl,rfl⟩|⟨x,t,rfl,rfl⟩ <;> rfl
 pyHash:=fun hv h=>by
  rcases z1x hv with ⟨i,t,rfl,rfl⟩|⟨x,t,rfl,rfl⟩
  ·exact wpAny_pyHash_int h
  ·exact wpAny_pyHash_str h
 eqBool:=fun hu hv h=>by
  rcases z1x hu with ⟨i,t,rfl,rfl⟩|⟨x,t,rfl,rfl⟩
  ·rcases z1x hv with ⟨j,u,rfl,rfl⟩|⟨y,u,rfl,rfl⟩
   ·rw [key_ll] at h;exact wpAny_eqBool_int h
   ·rw [key_lr] at h;exact SeqAt.EqAt.int_str i t y u _ _ _ _ h
  ·rcases z1x hv with ⟨j,u,rfl,rfl⟩|⟨y,u,rfl,rfl⟩
   ·rw [key_rl] at h;exact SeqAt.EqAt.str_int x t j u _ _ _ _ h
   ·rw [key_rr] at h;exact wpAny_eqBool_str h
 «strs»:=fun k x t v h=>by
  rcases z1x h with ⟨i,u,rfl,e⟩|⟨y,u,rfl,e⟩
  ·exact nomatch e
  ·injection e with e1 _
   subst e1
   cases v <;> rfl
theorem y4p (prog:Program) (w:World) (i:Int) (t:Tok):(z1t prog w).is (.inl i) (.int i t)=true:=keyIs_int i t
theorem y4u (prog:Program) (w:World) (x:Str) (t:Tok):(z1t prog w).is (.inr x) (.str x t)=true:=keyIs_str x t
end L2
namespace L2
open PySem PySem.Spec PyProof.Rows
inductive V where
 |non|bl (b:Bool)|int (i:Int)|str (x:Str)|byt (b:Array UInt8)|flt (b:UInt64)|ref (a:Addr)|ty (n:String)
 deriving DecidableEq
def RelV:V→Value→Prop
 |.non,u=>u=Value.none
 |.bl b,u=>u=Value.bool b
 |.int i,u=>∃ t,u=Value.int i t
 |.str x,u=>∃ t,u=Value.str x t
 |.byt b,u=>∃ t,u=Value.bytes b t
 |.flt b,u=>∃ t,u=Value.float b t
 |.ref a,u=>u=Value.ref a
 |.ty n,u=>u=Value.type n
abbrev Vals:List V→List Value→Prop:=Paired RelV
theorem Vals.length {xs:List V}{us:List Value}(r:Vals xs us):xs.length=us.length:=Paired.length r
theorem Vals.get:∀ {xs:List V}{us:List Value}{i:Nat}{x:V},Vals xs us→xs[i]? = some x→∃ u,us[i]? = some u∧RelV x u
 |_,_,_,_,.nil,e=>by simp at e
 |_,_,0,_,.cons r _,e=>by simp at e;subst e;exact ⟨_,rfl,r⟩
 |_,_,i+1,x,.cons _ t,e=>by
  obtain ⟨u,h1,h2⟩:=Vals.get (i:=i) (x:=x) t (by simpa using e)
  exact ⟨u,by simpa using h1,h2⟩
theorem Vals.set {x:V}{u:Value}(r:RelV x u):∀ {xs:List V}{us:List Value}(i:Nat),Vals xs us→Vals (xs.set i x) (us.set i u)
 |_,_,_,.nil=>.nil
 |_,_,0,.cons _ t=>.cons r t
 |_,_,i+1,.cons q t=>.cons q (Vals.set r i t)
theorem Vals.append:∀ {xs ys:List V}{us ws:List Value},Vals xs us→Vals ys ws→Vals (xs ++ ys) (us ++ ws)
 |_,_,_,_,.nil,s=>s
 |_,_,_,_,.cons r t,s=>.cons r (Vals.append t s)
theorem Vals.take:∀ {xs:List V}{us:List Value}(n:Nat),Vals xs us→Vals (xs.take n) (us.take n)
 |_,_,0,_=>.nil
 |_,_,_+1,.nil=>.nil
 |_,_,n+1,.cons r t=>.cons r (Vals.take n t)
theorem Vals.drop:∀ {xs:List V}{us:List Value}(n:Nat),Vals xs us→Vals (xs.drop n) (us.drop n)
 |_,_,0,r=>r
 |_,_,_+1,.nil=>.nil
 |_,_,n+1,.cons _ t=>Vals.drop n t
theorem Vals.none_of:∀ {xs:List V}{us:List Value}{i:Nat},Vals xs us→xs[i]? = none→us[i]? = none:=fun {xs us i} r e=>by
 have h1:=r.length
 have h2:xs.length≤i:=List.getElem?_eq_none_iff.mp e
 exact List.getElem?_eq_none_iff.mpr (by omega)
def RelO:Option V→Option Value→Prop
 |some v,some u=>RelV v u
 |none,none=>True
 |_,_=>False
def KV {κ:Type}:List (κ × V)→List (κ × Value)→Prop:=Paired fun (p:κ × V) (q:κ × Value)=>p.1=q.1∧RelV p.2 q.2
def kV:Key→V
 |.inl i=>.int i
 |.inr x=>.str x
inductive HO where
 |lst (xs:List V)
 |tup (xs:List V)
 |dK (kvs:List (Key × V))|dT (kvs:List (List Key × V))
 |set (S:Int→Bool) (n:Nat)
 |ins (C dx:Addr) (fs:List (Str × V))
 |own (x:Addr)
 |xd (fs:List (Str × V))
 |met (f x:Addr)
 |rng (lo hi:Int)
 |frz (o:Obj) (u:HO)
 |tbl (ps:Array Value)
 |ext (φ:Heap→Prop)
abbrev Hp:=Addr→Option HO
def upd (H:Hp) (a:Addr) (o:HO):Hp:=fun b=>if b=a then some o else H b
theorem z0d {H:Hp}{a:Addr}{o:HO}:upd H a o a=some o:=by unfold upd;rw [if_pos rfl]
theorem z0f {H:Hp}{a b:Addr}{o:HO}(h:b≠a):upd H a o b=H b:=by unfold upd;rw [if_neg h]
theorem upd_upd {H:Hp}{a:Addr}{o u:HO}:upd (upd H a o) a u=upd H a u:=by
 funext b;unfold upd;split <;> rfl
theorem z6c {H:Hp}{a b:Addr}{o u:HO}(h:H a=some o) (h':H b=some u) (d:o≠u):a≠b:=by
 intro e;subst e;rw [h] at h';exact d (Option.some.inj h')
theorem z0l {H:Hp}{a b:Addr}{o:HO}(h:H a=some o) (h':H b=none):a≠b:=by
 intro e;subst e;rw [h] at h';cases h'
section
variable (P:Program) (w:World)
def ObjOk (H:Hp) (h:Heap) (a:Addr):HO→Prop
 |.lst xs=>xs.length≤sizeLine∧∃ (its:List Value) (n:Nat),Vals xs its∧h.get? a=some { cls:=.type "list",data:=.seq its.toArray n }
 |.tup xs=>xs.length≤sizeLine∧∃ its:List Value,Vals xs its∧IsTup h a its.toArray
 |.dK kvs=>kvs.length≤sizeLine∧(a == sysModules)=false∧∃ vs,KV kvs vs∧h.DictOf (z1t P w) a vs
 |.dT kvs=>kvs.length≤sizeLine∧(a == sysModules)=false∧∃ xs:List (List Key × Addr × Value),
   Paired (fun (p:List Key × V) (q:List Key × Addr × Value)=>p.1=q.1∧H q.2.1=some (.tup (p.1.map kV))∧RelV p.2 q.2.2) kvs xs ∧
   ∃ o es ep,h.get? a=some o∧o.ExactDict∧o.data = .dict es ep∧es.toList=xs.map (entryOfKey (tupleKind (z1t P w)))∧(xs.map (·.1)).Nodup
 |.set S n=>h.SetOf (intKind P w) a S n
 |.ins C dx fs=>H dx=some (.own a)∧fs.length≤1000∧dx≠a∧h.get? a=some (PySem.W.instObj C dx) ∧
   ∃ mA,h.Ns1 dx mA∧(∀ f,RelO (fs.lookup f) (mA f))∧PySem.Within mA (fs.map (·.1))
 |.own _=>∃ o,h.get? a=some o
 |.xd fs=>∃ mA,h.Ns1 a mA∧∀ f,RelO (fs.lookup f) (mA f)
 |.rng lo hi=>∃ t u v,h.get? a=some { cls:=.type "range",data:=.fields #[.int lo t,.int hi u,.int 1 v] }
 |.frz o u=>h.get? a=some o∧ObjOk H h a u
 |.tbl ps=>h.get? a=some { cls:=.none,data:=.fields ps }
 |.met f x=>h.get? a=some (PySem.W.methodObj (.ref f) (.ref x))
 |.ext φ=>φ h∧(∃ o,h.get? a=some o)∧∀ h1 h2:Heap,φ h1→(∀ o,h1.get? a=some o→h2.get? a=some o)→φ h2
def HOk (H:Hp) (h:Heap):Prop:=∀ a o,H a=some o→ObjOk P w H h a o
end
section
variable {P:Program}{w:World}{H H':Hp}{h h':Heap}{a:Addr}{o:HO}
theorem ObjOk.lt (x:ObjOk P w H h a o):a < h.objs.size:=by
 cases o with
 |lst xs=>obtain ⟨_,_,_,_,e⟩:=x;exact Heap.lt_size e
 |tup xs=>obtain ⟨_,_,_,p⟩:=x;exact p.lt
 |dK kvs=>obtain ⟨_,_,_,_,o,_,_,e,_⟩:=x;exact Heap.lt_size e
 |dT kvs=>obtain ⟨_,_,_,_,o,_,_,e,_⟩:=x;exact Heap.lt_size e
 |set S n=>obtain ⟨o,_,_,_,e,_⟩:=x;exact Heap.lt_size e
 |ins C dx fs=>obtain ⟨_,_,_,e,_⟩:=x;exact Heap.lt_size e
 |own y=>obtain ⟨_,e⟩:=x;exact Heap.lt_size e
 |xd fs=>obtain ⟨_,⟨_,_,_,e,_⟩,_⟩:=x;exact Heap.lt_size e
 |rng lo hi=>obtain ⟨_,_,_,e⟩:=x;exact Heap.lt_size e
 |frz ob u=>obtain ⟨e,_⟩:=x;exact Heap.lt_size e
 |tbl ps=>exact Heap.lt_size (show h.get? a=some _ from x)
 |met f y=>exact Heap.lt_size (show h.get? a=some _ from x)
 |ext φ=>obtain ⟨_,⟨_,e⟩,_⟩:=x;exact Heap.lt_size e
theorem Paired.mapP {α β:Type}{F G:α→β→Prop}:∀ {l₁:List α}{l₂:List β},Paired F l₁ l₂→(∀ a b,F a b→G a b)→Paired G l₁ l₂
 |_,_,.nil,_=>.nil
 |_,_,.cons r t,f=>.cons (f _ _ r) (Paired.mapP t f)
theorem ObjOk.stay (x:ObjOk P w H h a o) (k:∀ b u,(b=a∨H b=some (.own a))→h.get? b=some u→h'.get? b=some u)
  (ho:∀ b,H b=some (.own a)→H' b=some (.own a)) (ht:∀ b xs,H b=some (.tup xs)→H' b=some (.tup xs)):ObjOk P w H' h' a o:=by
 induction o with
 |lst xs=>obtain ⟨z,its,n,r,e⟩:=x;exact ⟨z,its,n,r,k _ _ (.inl rfl) e⟩
 |tup xs=>obtain ⟨z,its,r,ob,e,c⟩:=x;exact ⟨z,its,r,ob,k _ _ (.inl rfl) e,c⟩
 |dK kvs=>obtain ⟨z,y,vs,r,ob,es,ep,e,c⟩:=x;exact ⟨z,y,vs,r,ob,es,ep,k _ _ (.inl rfl) e,c⟩
 |dT kvs =>
  obtain ⟨z,y,xs,r,ob,es,ep,e,c⟩:=x
  exact ⟨z,y,xs,Paired.mapP r fun p q z=>⟨z.1,ht _ _ z.2.1,z.2.2⟩,ob,es,ep,k _ _ (.inl rfl) e,c⟩
 |set S n=>obtain ⟨ob,es,ep,t,e,c⟩:=x;exact ⟨ob,es,ep,t,k _ _ (.inl rfl) e,c⟩
 |ins C dx fs =>
  obtain ⟨d,z,ne,e,mA,⟨od,es,ep,e2,c⟩,r⟩:=x
  exact ⟨ho _ d,z,ne,k _ _ (.inl rfl) e,mA,⟨od,es,ep,k _ _ (.inr d) e2,c⟩,r⟩
 |own y=>obtain ⟨ob,e⟩:=x;exact ⟨ob,k _ _ (.inl rfl) e⟩
 |xd fs=>obtain ⟨mA,⟨od,es,ep,e,c⟩,r⟩:=x;exact ⟨mA,⟨od,es,ep,k _ _ (.inl rfl) e,c⟩,r⟩
 |rng lo hi=>obtain ⟨t,u,v,e⟩:=x;exact ⟨t,u,v,k _ _ (.inl rfl) e⟩
 |frz ob u ih=>obtain ⟨e,q⟩:=x;exact ⟨k _ _ (.inl rfl) e,ih q⟩
 |tbl ps =>
  have e:h.get? a=some { cls:=.none,data:=.fields ps }:=x
  show h'.get? a=some { cls:=.none,data:=.fields ps }
  exact k a _ (.inl rfl) e
 |met f y =>
  have e:h.get? a=some (PySem.W.methodObj (.ref f) (.ref y)):=x
  show h'.get? a=some (PySem.W.methodObj (.ref f) (.ref y))
  exact k a _ (.inl rfl) e
 |ext φ=>obtain ⟨p,⟨o,e⟩,st⟩:=x;exact ⟨st _ _ p fun o q=>k _ _ (.inl rfl) q,⟨o,k _ _ (.inl rfl) e⟩,st⟩
theorem HOk.lt (x:HOk P w H h) (e:H a=some o):a < h.objs.size:=(x a o e).lt
theorem HOk.fresh (x:HOk P w H h) (e:h.objs.size≤a):H a=none:=by
 cases q:H a with
 |none=>rfl
 |some u=>exact absurd (Nat.lt_of_lt_of_le (x.lt q) e) (Nat.lt_irrefl _)
theorem HOk.kept (x:HOk P w H h) (k:∀ b u,h.get? b=some u→h'.get? b=some u):HOk P w H h':=fun a o e =>
 (x a o e).stay (fun b u _ q=>k b u q) (fun _ q=>q) fun _ _ q=>q
theorem HOk.laid (x:HOk P w H h) (k:∀ b u,h.get? b=some u→h'.get? b=some u) (hp:h.objs.size≤a) (new:ObjOk P w (upd H a o) h' a o):HOk P w (upd H a o) h':=fun b u e=>by
 have hn:=x.fresh hp
 by_cases hb:b=a
 ·subst hb;rw [z0d] at e;cases e;exact new
 ·rw [z0f hb] at e
  exact (x b u e).stay (fun c v _ q=>k c v q) (fun c q=>by rw [z0f (z0l q hn)];exact q) fun c xs q=>by rw [z0f (z0l q hn)];exact q
end
def Rd (H:Hp) (a:Addr) (u:HO):Prop:=H a=some u ∨ ∃ o,H a=some (.frz o u)
theorem Rd.ok {P:Program}{w:World}{H:Hp}{h:Heap}{a:Addr}{u:HO}(r:Rd H a u) (x:HOk P w H h):ObjOk P w H h a u:=by
 rcases r with r|⟨o,r⟩
 ·exact x a u r
 ·obtain ⟨_,q⟩:=x a _ r
  exact q
def Mut:Option HO→Prop
 |some (.lst _)=>True
 |some (.dK _)=>True
 |some (.dT _)=>True
 |some (.set _ _)=>True
 |some (.ins _ _ _)=>True
 |some (.ext _)=>True
 |_=>False
section
variable {P:Program}{w:World}{H:Hp}{h h':Heap}{x e:Addr}{o':HO}
theorem HOk.write (ok:HOk P w H h) (mu:Mut (H x)) (he:e=x∨H e=some (.own x)) (k:∀ b u,b≠e→h.get? b=some u→h'.get? b=some u) (heo:∃ u,h'.get? e=some u)
  (new:ObjOk P w (upd H x o') h' x o'):HOk P w (upd H x o') h':=fun b u q=>by
 have nown:∀ c y,H c=some (.own y)→c≠x:=fun c y r z=>by subst z;rw [r] at mu;exact mu
 have ntup:∀ c xs,H c=some (.tup xs)→c≠x:=fun c xs r z=>by subst z;rw [r] at mu;exact mu
 by_cases hb:b=x
 ·subst hb;rw [z0d] at q;cases q;exact new
 ·rw [z0f hb] at q
  by_cases hbe:b=e
  ·have q':H b=some (.own x):=by
    rcases he with z|z
    ·exact absurd (hbe.trans z) hb
    ·rw [hbe];exact z
   rw [q] at q';cases q'
   obtain ⟨v,hv⟩:=heo
   exact ⟨v,by rw [hbe];exact hv⟩
  ·refine (ok b u q).stay (fun c v hc r=>k c v ?_ r) (fun c r=>by rw [z0f (nown c b r)];exact r) fun c xs r=>by rw [z0f (ntup c xs r)];exact r
   rcases hc with rfl|hc
   ·exact hbe
   ·rintro rfl
    rcases he with z|z
    ·exact nown c b hc z
    ·rw [hc] at z;cases z;exact hb rfl
end
structure Un (fs ex:List Addr) (H H':Hp) (h h':Heap):Prop where
 keep:∀ b o,h.get? b=some o→H b=none→b∉fs→b∉ex→h'.get? b=some o
 slot:∀ b o,h.get? b=some o→H b=none→b∈fs→b∉ex→∃ sl,h'.get? b=some { o with slots:=sl }
 free:∀ b o,h.get? b=some o→H b=none→b∉ex→H' b=none
 there:∀ b o,h.get? b=some o→b∉ex→∃ o',h'.get? b=some o'
 tups:∀ b xs,H b=some (.tup xs)→H' b=some (.tup xs)
 frzs:∀ b o u,H b=some (.frz o u)→H' b=some (.frz o u)
 tbls:∀ b ps,H b=some (.tbl ps)→∃ more,H' b=some (.tbl (ps ++ more))
section
variable {fs fs' ex ex':List Addr}{H H1 H2:Hp}{h h1 h2 h':Heap}{a x e:Addr}{o:HO}
theorem Un.any (u:Un fs ex H H1 h h1) {b:Addr}{ob:Obj}(q:h.get? b=some ob) (n:H b=none) (hx:b∉ex):∃ sl,h1.get? b=some { ob with slots:=sl }:=by
 by_cases hb:b∈fs
 ·exact u.slot b ob q n hb hx
 ·exact ⟨ob.slots,u.keep b ob q n hb hx⟩
theorem Un.kept (k:∀ b u,h.get? b=some u→h'.get? b=some u):Un fs ex H H h h' :=
 ⟨fun b ob q _ _ _=>k b ob q,fun b ob q _ _ _=>⟨ob.slots,k b ob q⟩,fun _ _ _ n _=>n,fun b ob q _=>⟨ob,k b ob q⟩,fun _ _ q=>q,fun _ _ _ q=>q,fun _ ps q=>⟨#[],by rw [q];simp⟩⟩
theorem Un.refl:Un fs ex H H h h:=Un.kept fun _ _ q=>q
theorem Un.laid (k:∀ b u,h.get? b=some u→h'.get? b=some u) (hp:h.objs.size≤a) (hn:H a=none):Un fs ex H (upd H a o) h h' where
 keep:=fun b u q _ _ _=>k b u q
 slot:=fun b u q _ _ _=>⟨u.slots,k b u q⟩
 free:=fun b u q n _=>by rw [z0f (Nat.ne_of_lt (Nat.lt_of_lt_of_le (Heap.lt_size q) hp))];exact n
 there:=fun b u q _=>⟨u,k b u q⟩
 tups:=fun b xs q=>by rw [z0f (z0l q hn)];exact q
 frzs:=fun b u xs q=>by rw [z0f (z0l q hn)];exact q
 tbls:=fun b ps q=>⟨#[],by rw [z0f (z0l q hn),q];simp⟩
theorem Un.write (mu:Mut (H x)) (he:e=x∨H e=some (.own x)) (k:∀ b u,b≠e→h.get? b=some u→h'.get? b=some u) (heo:∃ u,h'.get? e=some u):Un fs ex H (upd H x o) h h':=by
 have hx:∀ b,H b=none→b≠x:=fun b n z=>by subst z;rw [n] at mu;exact mu
 have hb:∀ b,H b=none→b≠e:=fun b n z=>by
  subst z
  rcases he with r|r
  ·exact hx b n r
  ·rw [n] at r;cases r
 have hm:∀ b u,H b=some u→¬ Mut (some u)→b≠x:=fun b u q nm z=>by subst z;rw [q] at mu;exact nm mu
 refine ⟨fun b u q n _ _=>k b u (hb b n) q,fun b u q n _ _=>⟨u.slots,k b u (hb b n) q⟩,fun b u q n _=>by rw [z0f (hx b n)];exact n,fun b u q _=>?_,
  fun b xs q=>by rw [z0f (hm b _ q fun z=>z)];exact q,fun b u xs q=>by rw [z0f (hm b _ q fun z=>z)];exact q,fun b ps q=>⟨#[],by rw [z0f (hm b _ q fun z=>z),q];simp⟩⟩
 by_cases hbe:b=e
 ·subst hbe;exact heo
 ·exact ⟨u,k b u hbe q⟩
end
def trk (h:Heap) (H:Hp):List Addr:=(List.range h.objs.size).filter fun a=>(H a).isSome
def hidT (h:Heap) (H:Hp):Heap:=PySem.W.hideAll h (trk h H)
theorem hidT_size (h:Heap) (H:Hp):(hidT h H).objs.size=h.objs.size:=PySem.W.hideAll_size _ _
theorem hidT_get {h:Heap}{H:Hp}{b:Addr}{o:Obj}(e:h.get? b=some o) (n:H b=none):(hidT h H).get? b=some o :=
 PySem.W.hideAll_get _ e fun hm=>by
  have q:(H b).isSome=true:=(List.mem_filter.mp hm).2
  rw [n] at q;simp at q
theorem of_hidT {h:Heap}{H:Hp}{b:Addr}{o:Obj}(e:(hidT h H).get? b=some o):h.get? b=some o∧H b=none:=by
 have e':h.get? b=some o:=PySem.W.of_hideAll (trk h H) e
 refine ⟨e',?_⟩
 cases q:H b with
 |none=>rfl
 |some x =>
  have hm:b∈trk h H:=List.mem_filter.mpr ⟨List.mem_range.mpr (Heap.lt_size e'),by simp [q]⟩
  have z:(hidT h H).get? b=none:=PySem.W.hideAll_none (trk h H) hm
  rw [z] at e;cases e
def allNews (g h:Heap) (L:Addr):List (Addr × Obj):=(List.range h.objs.size).filterMap fun a=>if a=L∨(g.get? a).isSome=true then none else (h.get? a).map fun o=>(a,o)
def rest (g h:Heap) (L d:Addr):List (Addr × Obj):=(allNews g h L).filter fun p=>decide (p.1≠d)
end L2
namespace L2
open PySem PySem.Spec PyProof.Rows
structure Mod (K:PySem.W.Frag) (mg:Str→Option Value) (base:Heap):Prop where
 kin:K.In base
 glob:base.Ns mainGlobals mg
 blt:∃ mb,base.Ns builtinsNs mb∧∀ x:Str,x ≠ "__name__"→mb x=bootBuiltins x
 nolimit:base.NoLimit
structure Cx where
 prog:Program
 w:World
 K:PySem.W.Frag
 mg:Str→Option Value
 base:Heap
 A:Around
 N:List Str
 s₀:Shared
 H₀:Hp
 env:Env
 outer:List Env
 stack:List Env
 ex:List Addr
 fn:Str→Bool
 calm:Bool
 pn:List (Addr × Obj)
 xe:Value→Shared→Prop
def frs (l:List Env):List Addr:=l.filterMap (·.frame)
abbrev Cx.fs (X:Cx):List Addr:=frs X.outer
def Vis (sc:Scope) (x:Str):Prop:=sc.names.lookup x=some .local∨sc.names.lookup x=some .cell∨sc.names.lookup x=some .free
def Loc (sc:Scope) (x:Str):Prop:=sc.names.lookup x=some .local∨sc.names.lookup x=some .cell
def Look (env:Env) (h:Heap) (m:Str→Option Value) (x:Str) (u:Value):Prop :=
 (env.kindOf x=some .local∧m x=some u)∨((env.kindOf x=some .cell∨env.kindOf x=some .free)∧∃ c,env.cells.lookup x=some c∧h.IsCell c (some u))
structure Cx.Ok (X:Cx):Prop where
 mod:Mod X.K X.mg X.base
 kind:X.env.scope.kind = .function
 glob:X.env.globals=mainGlobals
 blt:X.env.builtins=builtinsNs
 above:X.s₀.heap.objs.size≤X.env.locals
 inj:∀ x y c,X.env.cells.lookup x=some c→X.env.cells.lookup y=some c→x=y
 has:∀ x,(X.env.kindOf x=some .cell∨X.env.kindOf x=some .free)→∃ c,X.env.cells.lookup x=some c
 cab:∀ x c,X.fn x=true→X.env.cells.lookup x=some c→X.s₀.heap.objs.size≤c
 hd:X.calm=true→X.A.handled=none
 frames:X.A.frames=some X.stack
 stk:X.stack=X.outer∨(X.stack=X.env::X.outer∧X.env.frame=some X.env.locals)
 exf:∀ b∈X.ex,b≠X.env.locals∧∀ x c,X.env.cells.lookup x=some c→c≠b
 bs:∀ b o,X.base.get? b=some o→X.s₀.heap.get? b=some o∧X.H₀ b=none
 bsz:X.base.objs.size≤X.s₀.heap.objs.size
 noex:∀ b o,X.base.get? b=some o→b∉X.ex
 exfs:∀ b∈X.ex,b∉X.fs
 funs:X.s₀.heap.FunFrames X.base X.outer
 frf:∀ b∈X.fs,X.H₀ b=none
structure Inv (X:Cx) (pins:List (Addr × Obj)) (σ:List (Option V)) (H:Hp) (s:Shared):Prop where
 ok:X.Ok
 os:s.os=X.s₀.os
 bare:AllBare s.gens
 base:Un X.fs X.ex X.H₀ H X.s₀.heap s.heap
 loc:∃ m,s.heap.Ns X.env.locals m∧∀ (i:Nat) (x:Str) (v:V),X.N[i]? = some x→σ[i]? = some (some v)→Vis X.env.scope x→∃ u,RelV v u∧Look X.env s.heap m x u
 cell:∀ x c,X.env.cells.lookup x=some c→∃ v,s.heap.IsCell c v
 free:H X.env.locals=none
 freeC:∀ x c,X.env.cells.lookup x=some c→H c=none
 pin:∀ p∈X.pn ++ pins,s.heap.get? p.1=some p.2∧H p.1=none∧p.1≠X.env.locals∧p.1∉X.fs∧∀ v,p.2.data ≠ .cell v
 hok:HOk X.prog X.w H s.heap
 len:σ.length=X.N.length
section
variable {X:Cx}{pins:List (Addr × Obj)}{σ:List (Option V)}{H H':Hp}{s:Shared}{h':Heap}
theorem Cx.Ok.nofr (ok:X.Ok) {b:Addr}{o:Obj}(e:X.base.get? b=some o):b∉X.fs:=fun hb=>by
 have:=(ok.funs.mem hb).1
 rw [e] at this;cases this
theorem Inv.bs (I:Inv X pins σ H s):∀ b o,X.base.get? b=some o→s.heap.get? b=some o∧H b=none:=fun b o e =>
 ⟨I.base.keep b o (I.ok.bs b o e).1 (I.ok.bs b o e).2 (I.ok.nofr e) (I.ok.noex b o e),I.base.free b o (I.ok.bs b o e).1 (I.ok.bs b o e).2 (I.ok.noex b o e)⟩
theorem Inv.bk (I:Inv X pins σ H s):∀ b o,X.base.get? b=some o→s.heap.get? b=some o:=fun b o e=>(I.bs b o e).1
theorem Inv.mod (I:Inv X pins σ H s):Mod X.K X.mg X.base:=I.ok.mod
theorem Inv.kIn (I:Inv X pins σ H s):X.K.In s.heap:=I.ok.mod.kin.keeps I.bk
theorem Inv.lt (I:Inv X pins σ H s):X.env.locals < s.heap.objs.size:=let ⟨_,hn,_⟩:=I.loc;hn.lt
theorem Inv.sz (I:Inv X pins σ H s):X.s₀.heap.objs.size≤s.heap.objs.size:=Nat.le_trans I.ok.above (Nat.le_of_lt I.lt)
theorem Inv.nofs (I:Inv X pins σ H s) {a:Addr}(h:s.heap.objs.size≤a):a∉X.fs:=fun hb=>by
 obtain ⟨_,o,ho,_⟩:=I.ok.funs.mem hb
 exact absurd (Nat.lt_of_lt_of_le (Heap.lt_size ho) (Nat.le_trans I.sz h)) (Nat.lt_irrefl _)
theorem Inv.cne (I:Inv X pins σ H s):∀ x c,X.env.cells.lookup x=some c→c≠X.env.locals:=fun x c e z=>by
 obtain ⟨v,o,ho,hd⟩:=I.cell x c e
 obtain ⟨m,⟨o',es,ep,ho',hd',_⟩,_⟩:=I.loc
 rw [z,ho'] at ho;cases ho;rw [hd'] at hd;cases hd
theorem Inv.funs (I:Inv X pins σ H s):s.heap.FunFrames X.base X.outer:=by
 have all:∀ (l:List Env),(∀ b∈frs l,b∈X.fs)→X.s₀.heap.FunFrames X.base l→s.heap.FunFrames X.base l:=by
  intro l
  induction l with
  |nil=>intro _ _;trivial
  |cons env r ih =>
   intro hs hl
   obtain ⟨hk,⟨L,o,hf,hn,ho,hd⟩,hr⟩:=hl
   have hL:L∈X.fs:=hs L (by unfold frs;rw [List.filterMap_cons,hf];exact List.mem_cons_self)
   obtain ⟨sl,e⟩:=I.base.slot L o ho (I.ok.frf L hL) hL fun z=>I.ok.exfs L z hL
   exact ⟨hk,⟨L,_,hf,hn,e,hd⟩,ih (fun b hb=>hs b (by unfold frs;rw [List.filterMap_cons,hf];exact List.mem_cons_of_mem _ hb)) hr⟩
 exact all X.outer (fun _ hb=>hb) I.ok.funs
theorem Inv.stack (I:Inv X pins σ H s):s.heap.FunFrames X.base X.stack:=by
 rcases I.ok.stk with e|⟨e,hf⟩
 ·rw [e];exact I.funs
 ·rw [e]
  obtain ⟨m,hn,_⟩:=I.loc
  refine .cons (by rw [I.ok.kind];decide) hf hn ?_ I.funs
  exact Heap.get?_none_of_le (Nat.le_trans I.ok.bsz I.ok.above)
theorem Inv.stkSub (I:Inv X pins σ H s):∀ b∈frs X.stack,b∈X.env.locals::X.fs:=fun b hb=>by
 rcases I.ok.stk with e|⟨e,hf⟩
 ·rw [e] at hb;exact List.mem_cons_of_mem _ hb
 ·rw [e] at hb
  unfold frs at hb
  rw [List.filterMap_cons,hf] at hb
  exact hb
theorem Inv.stkFree (I:Inv X pins σ H s):∀ b∈frs X.stack,H b=none:=fun b hb=>by
 rcases List.mem_cons.mp (I.stkSub b hb) with e|hb
 ·rw [e];exact I.free
 ·obtain ⟨_,o,ho,_⟩:=I.ok.funs.mem hb
  exact I.base.free b o ho (I.ok.frf b hb) fun z=>I.ok.exfs b z hb
theorem Inv.step {g':Array GenState}{t':Nat}{d':Drawn}{ch:List Addr}(I:Inv X pins σ H s)
  (hch:∀ b∈ch,(b∈X.ex∨X.s₀.heap.objs.size≤b)∧b≠X.env.locals∧(∀ x c,X.env.cells.lookup x=some c→c≠b)∧∀ p∈X.pn ++ pins,p.1≠b)
  (keep:∀ b o,b≠X.env.locals→b∉X.fs→b∉ch→s.heap.get? b=some o→H b=none→h'.get? b=some o)
  (slot:∀ b o,b≠X.env.locals→b∈X.fs→b∉ch→s.heap.get? b=some o→H b=none→∃ sl,h'.get? b=some { o with slots:=sl }) (free:∀ b o,b∉ch→s.heap.get? b=some o→H b=none→H' b=none)
  (there:∀ b o,b∉ch→s.heap.get? b=some o→∃ o',h'.get? b=some o')
  (tups:∀ b xs,H b=some (.tup xs)→H' b=some (.tup xs)) (frzs:∀ b o u,H b=some (.frz o u)→H' b=some (.frz o u)) (tbls:∀ b ps,H b=some (.tbl ps)→∃ more,H' b=some (.tbl (ps ++ more)))
  (ns:∀ m,s.heap.Ns X.env.locals m→h'.Ns X.env.locals m) (hok:HOk X.prog X.w H' h') (hg:AllBare g') :
  Inv X pins σ H' { s with heap:=h',gens:=g',drawn:=d',toks:=t' }:=by
 have neL:∀ b o,X.s₀.heap.get? b=some o→b≠X.env.locals:=fun b o e=>Nat.ne_of_lt (Nat.lt_of_lt_of_le (Heap.lt_size e) I.ok.above)
 have neC:∀ b o,X.s₀.heap.get? b=some o→b∉X.ex→b∉ch:=fun b o e hx hb=>by
  rcases (hch b hb).1 with z|z
  ·exact hx z
  ·exact absurd (Nat.lt_of_lt_of_le (Heap.lt_size e) z) (Nat.lt_irrefl _)
 have cellK:∀ x c,X.env.cells.lookup x=some c→∀ v,s.heap.IsCell c v→h'.IsCell c v:=fun x c e v ⟨o,ho,hd⟩=>by
  have nch:c∉ch:=fun z=>(hch c z).2.2.1 x c e rfl
  by_cases hc:c∈X.fs
  ·obtain ⟨sl,q⟩:=slot c o (I.cne x c e) hc nch ho (I.freeC x c e)
   exact ⟨_,q,hd⟩
  ·exact ⟨o,keep c o (I.cne x c e) hc nch ho (I.freeC x c e),hd⟩
 refine ⟨I.ok,I.os,hg,⟨fun b o e n hb hx=>?_,fun b o e n hb hx=>?_,fun b o e n hx=>?_,fun b o e hx=>?_,fun b xs e=>tups b xs (I.base.tups b xs e),fun b o xs e=>frzs b o xs (I.base.frzs b o xs e),fun b ps e=>?_⟩,?_,fun x c e=>?_,?_,fun x c e=>?_,fun p hp=>?_,hok,I.len⟩
 ·exact keep b o (neL b o e) hb (neC b o e hx) (I.base.keep b o e n hb hx) (I.base.free b o e n hx)
 ·obtain ⟨sl,e1⟩:=I.base.slot b o e n hb hx
  obtain ⟨sl',e2⟩:=slot b _ (neL b o e) hb (neC b o e hx) e1 (I.base.free b o e n hx)
  exact ⟨sl',e2⟩
 ·obtain ⟨o',e1⟩:=I.base.there b o e hx
  exact free b o' (neC b o e hx) e1 (I.base.free b o e n hx)
 ·obtain ⟨o',e1⟩:=I.base.there b o e hx
  exact there b o' (neC b o e hx) e1
 ·obtain ⟨m1,e1⟩:=I.base.tbls b ps e
  obtain ⟨m2,e2⟩:=tbls b _ e1
  exact ⟨m1 ++ m2,by rw [e2,Array.append_assoc]⟩
 ·obtain ⟨m,hn,hl⟩:=I.loc
  refine ⟨m,ns m hn,fun i x v e1 e2 e3=>?_⟩
  obtain ⟨u,r,l⟩:=hl i x v e1 e2 e3
  refine ⟨u,r,?_⟩
  rcases l with l|⟨k,c,e,z⟩
  ·exact .inl l
  ·exact .inr ⟨k,c,e,cellK x c e _ z⟩
 ·obtain ⟨v,z⟩:=I.cell x c e
  exact ⟨v,cellK x c e v z⟩
 ·obtain ⟨m,⟨o,_,_,ho,_⟩,_⟩:=I.loc
  exact free _ o (fun z=>(hch _ z).2.1 rfl) ho I.free
 ·obtain ⟨v,o,ho,hd⟩:=I.cell x c e
  exact free c o (fun z=>(hch c z).2.2.1 x c e rfl) ho (I.freeC x c e)
 ·obtain ⟨e,n,ne,nf,d⟩:=I.pin p hp
  have nch:p.1∉ch:=fun z=>(hch p.1 z).2.2.2 p hp rfl
  exact ⟨keep p.1 p.2 ne nf nch e n,free p.1 p.2 nch e n,ne,nf,d⟩
theorem Inv.un {t':Nat}(I:Inv X pins σ H s) (u:Un X.fs [] H H' s.heap h') (hok:HOk X.prog X.w H' h'):Inv X pins σ H' { s with heap:=h',toks:=t' }:=by
 obtain ⟨m,⟨o,es,ep,ho,r⟩,_⟩:=id I.loc
 obtain ⟨sl,hL⟩:=u.any ho I.free (by simp)
 exact I.step (g':=s.gens) (d':=s.drawn) (ch:=[]) (fun _ z=>nomatch z) (fun b o _ hb _ e n=>u.keep b o e n hb (by simp)) (fun b o _ hb _ e n=>u.slot b o e n hb (by simp)) (fun b o _ e n=>u.free b o e n (by simp)) (fun b o _ e=>u.there b o e (by simp)) u.tups u.frzs u.tbls (fun m' hm=>by
  obtain ⟨o',es',ep',ho',r'⟩:=hm
  rw [ho] at ho';cases ho'
  exact ⟨_,es',ep',hL,r'⟩) hok I.bare
theorem Inv.call {g':Array GenState}{t':Nat}{d':Drawn}{ch:List Addr}(I:Inv X pins σ H s) (u:Un (frs X.stack) ch H H' s.heap h') (hok:HOk X.prog X.w H' h') (hg:AllBare g')
  (hch:∀ b∈ch,(b∈X.ex∨X.s₀.heap.objs.size≤b)∧b≠X.env.locals∧(∀ x c,X.env.cells.lookup x=some c→c≠b)∧∀ p∈X.pn ++ pins,p.1≠b) :
  Inv X pins σ H' { s with heap:=h',gens:=g',drawn:=d',toks:=t' }:=by
 obtain ⟨m,⟨o,es,ep,ho,r⟩,_⟩:=id I.loc
 obtain ⟨sl,hL⟩:=u.any ho I.free fun z=>(hch _ z).2.1 rfl
 exact I.step (ch:=ch) hch (fun b o hL hb hc e n=>u.keep b o e n (fun z=>(List.mem_cons.mp (I.stkSub b z)).elim hL hb) hc) (fun b o _ _ hc e n=>u.any e n hc) (fun b o hc e n=>u.free b o e n hc) (fun b o hc e=>u.there b o e hc) u.tups u.frzs u.tbls (fun m' hm=>by
  obtain ⟨o',es',ep',ho',r'⟩:=hm
  rw [ho] at ho';cases ho'
  exact ⟨_,es',ep',hL,r'⟩) hok hg
theorem Inv.turned {t':Nat}{it:Addr}(I:Inv X pins σ H s) (k:∀ b o,b≠it→s.heap.get? b=some o→h'.get? b=some o) (hn:H it=none) (hL:it≠X.env.locals)
  (h1:it∈X.ex∨X.s₀.heap.objs.size≤it) (h2:∀ x c,X.env.cells.lookup x=some c→c≠it) (h3:∀ p∈X.pn ++ pins,p.1≠it):Inv X pins σ H { s with heap:=h',toks:=t' }:=by
 have nit:∀ b u,H b=some u→b≠it:=fun b u e z=>by rw [z,hn] at e;cases e
 refine I.step (g':=s.gens) (d':=s.drawn) (ch:=[it]) (fun b hb=>?_) (fun b o _ _ hc e _=>k b o (fun z=>hc (by simp [z])) e) (fun b o _ _ hc e _=>⟨o.slots,k b o (fun z=>hc (by simp [z])) e⟩) (fun _ _ _ _ n=>n)
  (fun b o hc e=>⟨o,k b o (fun z=>hc (by simp [z])) e⟩) (fun _ _ e=>e) (fun _ _ _ e=>e) (fun b ps e=>⟨#[],by rw [e];simp⟩) (fun m hm=>?_) (fun b u e=>?_) I.bare
 ·have e:b=it:=by simpa using hb
  subst e
  exact ⟨h1,hL,h2,h3⟩
 ·obtain ⟨o,es,ep,ho,r⟩:=hm
  exact ⟨o,es,ep,k _ o (Ne.symm hL) ho,r⟩
 ·refine (I.hok b u e).stay (fun c v hc q=>k c v ?_ q) (fun _ q=>q) fun _ _ q=>q
  rcases hc with z|z
  ·rw [z];exact nit b u e
  ·exact nit c _ z
theorem Inv.tok (I:Inv X pins σ H s) (t:Nat):Inv X pins σ H { s with toks:=t }:=I.un (h':=s.heap) (t':=t) Un.refl I.hok
theorem Inv.kept {t':Nat}(I:Inv X pins σ H s) (k:∀ b u,s.heap.get? b=some u→h'.get? b=some u):Inv X pins σ H { s with heap:=h',toks:=t' }:=I.un (Un.kept k) (I.hok.kept k)
theorem Inv.laid {a:Addr}{o:HO}{t':Nat}(I:Inv X pins σ H s) (k:∀ b u,s.heap.get? b=some u→h'.get? b=some u) (hp:s.heap.objs.size≤a) (new:ObjOk X.prog X.w (upd H a o) h' a o) :
  Inv X pins σ (upd H a o) { s with heap:=h',toks:=t' }:=I.un (Un.laid k hp (I.hok.fresh hp)) (I.hok.laid k hp new)
theorem Inv.write {x e:Addr}{o:HO}{t':Nat}(I:Inv X pins σ H s) (mu:Mut (H x)) (he:e=x∨H e=some (.own x)) (k:∀ b u,b≠e→s.heap.get? b=some u→h'.get? b=some u) (heo:∃ u,h'.get? e=some u)
  (new:ObjOk X.prog X.w (upd H x o) h' x o):Inv X pins σ (upd H x o) { s with heap:=h',toks:=t' }:=I.un (Un.write mu he k heo) (I.hok.write mu he k heo new)
theorem Inv.pins_of {pins':List (Addr × Obj)}(I:Inv X pins σ H s) (h:∀ p∈pins',s.heap.get? p.1=some p.2∧H p.1=none∧p.1≠X.env.locals∧p.1∉X.fs∧∀ v,p.2.data ≠ .cell v):Inv X pins' σ H s :=
 ⟨I.ok,I.os,I.bare,I.base,I.loc,I.cell,I.free,I.freeC,fun p hp=>(List.mem_append.mp hp).elim (fun z=>I.pin p (List.mem_append_left _ z)) (h p),I.hok,I.len⟩
theorem y1k {N:List Str}(hN:N.Nodup) {i j:Nat}{x:Str}(a:N[i]? = some x) (b:N[j]? = some x):i=j:=by
 obtain ⟨h1,e1⟩:=List.getElem?_eq_some_iff.mp a
 obtain ⟨h2,e2⟩:=List.getElem?_eq_some_iff.mp b
 exact (List.getElem_inj hN).mp (e1.trans e2.symm)
theorem y2i {M:Model}{A:Around}{E:Value→Shared→Prop}{i:Nat}{x:Str}{v:V}{u:Value}{Q:Unit→Shared→Prop}(I:Inv X pins σ H s) (hN:X.N.Nodup) (hi:X.N[i]? = some x) (hx:Loc X.env.scope x) (r:RelV v u)
  (h:∀ s',Inv X pins (σ.set i (some v)) H s'→(∃ a,Heap.SameBut a s.heap s'.heap∧(a=X.env.locals∨X.env.cells.lookup x=some a))→Q () s') (hf:X.fn x=true∨X.env.scope.names.lookup x=some .local:=by first|exact .inl rfl|exact .inr rfl|assumption):wpAny M A (storeName X.env x u) Q E s:=by
 obtain ⟨m,hn,hl⟩:=id I.loc
 have hcls:(X.env.scope.kind == .class || (X.env.scope.kind == .module && X.env.locals != X.env.globals))=false:=by rw [I.ok.kind];rfl
 have hiσ:i < σ.length:=by rw [I.len];exact (List.getElem?_eq_some_iff.mp hi).1
 have cne:=I.cne
 have tracked:∀ {a:Addr}{h':Heap},(∃ o,s.heap.get? a=some o∧H a=none)→Heap.SameBut a s.heap h'→HOk X.prog X.w H h':=fun {a h'} ha hs b ob e=>by
  obtain ⟨_,_,hfree⟩:=ha
  refine (I.hok b ob e).stay (fun c w' hc q=>(hs.2 c ?_).trans q) (fun _ q=>q) fun _ _ q=>q
  rintro rfl
  rcases hc with rfl|hc
  ·rw [hfree] at e;cases e
  ·rw [hfree] at hc;cases hc
 rcases hx with hk|hk
 ·refine wpAny_storeName_local hk hn (fun h' hn' hs=>?_) hcls
  obtain ⟨oL,_,_,hoL,_⟩:=id hn
  refine h _ ⟨I.ok,I.os,I.bare,⟨fun b o e n hb hx=>?_,fun b o e n hb hx=>?_,I.base.free,fun b o e hx=>?_,I.base.tups,I.base.frzs,I.base.tbls⟩,⟨_,hn',fun j y v' e1 e2 e3=>?_⟩,fun y c e=>?_,I.free,I.freeC,fun p hp=>?_,tracked ⟨oL,hoL,I.free⟩ hs,by simpa using I.len⟩ ⟨_,hs,.inl rfl⟩
  ·exact (hs.2 b (Nat.ne_of_lt (Nat.lt_of_lt_of_le (Heap.lt_size e) I.ok.above))).trans (I.base.keep b o e n hb hx)
  ·obtain ⟨sl,e1⟩:=I.base.slot b o e n hb hx
   exact ⟨sl,(hs.2 b (Nat.ne_of_lt (Nat.lt_of_lt_of_le (Heap.lt_size e) I.ok.above))).trans e1⟩
  ·obtain ⟨o',e1⟩:=I.base.there b o e hx
   exact ⟨o',(hs.2 b (Nat.ne_of_lt (Nat.lt_of_lt_of_le (Heap.lt_size e) I.ok.above))).trans e1⟩
  ·by_cases hj:j=i
   ·subst hj
    rw [hi] at e1;cases e1
    rw [List.getElem?_set_self hiσ] at e2
    cases e2
    exact ⟨u,r,.inl ⟨hk,by simp⟩⟩
   ·rw [List.getElem?_set_ne (Ne.symm hj)] at e2
    obtain ⟨u',r',q⟩:=hl j y v' e1 e2 e3
    refine ⟨u',r',?_⟩
    rcases q with ⟨k,e⟩|⟨k,c,e,z⟩
    ·refine .inl ⟨k,?_⟩
     have:y≠x:=fun e=>hj (y1k hN e1 (e ▸ hi))
     simp [this,e]
    ·exact .inr ⟨k,c,e,z.sameBut hs (cne y c e)⟩
  ·obtain ⟨w',z⟩:=I.cell y c e
   exact ⟨w',z.sameBut hs (cne y c e)⟩
  ·obtain ⟨e,n,ne,nf,d⟩:=I.pin p hp
   exact ⟨(hs.2 p.1 ne).trans e,n,ne,nf,d⟩
 ·have hfn:X.fn x=true:=by
   rcases hf with z|z
   ·exact z
   ·rw [z] at hk;cases hk
  obtain ⟨c,hc⟩:=I.ok.has x (.inl hk)
  obtain ⟨w',z⟩:=I.cell x c hc
  refine wpAny_storeName_cell I.ok.kind hk hc z (fun h' hc' hs=>?_)
  obtain ⟨oc,hoc,hocd⟩:=id z
  refine h { s with heap:=h' } ⟨I.ok,I.os,I.bare,⟨fun b o e n hb hx=>?_,fun b o e n hb hx=>?_,I.base.free,fun b o e hx=>?_,I.base.tups,I.base.frzs,I.base.tbls⟩,⟨m,hn.sameBut hs (Ne.symm (cne x c hc)),fun j y v' e1 e2 e3=>?_⟩,fun y c' e=>?_,I.free,I.freeC,fun p hp=>?_,tracked ⟨oc,hoc,I.freeC x c hc⟩ hs,by simpa using I.len⟩ ⟨c,hs,.inr hc⟩
  ·exact (hs.2 b (Nat.ne_of_lt (Nat.lt_of_lt_of_le (Heap.lt_size e) (I.ok.cab x c hfn hc)))).trans (I.base.keep b o e n hb hx)
  ·obtain ⟨sl,e1⟩:=I.base.slot b o e n hb hx
   exact ⟨sl,(hs.2 b (Nat.ne_of_lt (Nat.lt_of_lt_of_le (Heap.lt_size e) (I.ok.cab x c hfn hc)))).trans e1⟩
  ·obtain ⟨o',e1⟩:=I.base.there b o e hx
   exact ⟨o',(hs.2 b (Nat.ne_of_lt (Nat.lt_of_lt_of_le (Heap.lt_size e) (I.ok.cab x c hfn hc)))).trans e1⟩
  ·by_cases hj:j=i
   ·subst hj
    rw [hi] at e1;cases e1
    rw [List.getElem?_set_self hiσ] at e2
    cases e2
    exact ⟨u,r,.inr ⟨.inl hk,c,hc,hc'⟩⟩
   ·rw [List.getElem?_set_ne (Ne.symm hj)] at e2
    obtain ⟨u',r',q⟩:=hl j y v' e1 e2 e3
    refine ⟨u',r',?_⟩
    rcases q with q|⟨k,c',e,z'⟩
    ·exact .inl q
    ·refine .inr ⟨k,c',e,z'.sameBut hs ?_⟩
     rintro rfl
     exact hj (y1k hN e1 (I.ok.inj _ _ _ e hc ▸ hi))
  ·by_cases hcc:c' = c
   ·subst hcc;exact ⟨_,hc'⟩
   ·obtain ⟨w2,z2⟩:=I.cell y c' e
    exact ⟨w2,z2.sameBut hs hcc⟩
  ·obtain ⟨e,n,ne,nf,d⟩:=I.pin p hp
   refine ⟨(hs.2 p.1 ?_).trans e,n,ne,nf,d⟩
   intro q
   rw [q,hoc] at e
   have q':oc=p.2:=Option.some.inj e
   exact d w' (by rw [← q'];exact hocd)
theorem z7p {M:Model}{A:Around}{E:Value→Shared→Prop}{i:Nat}{x:Str}{v:V}{u:Value}{Q:Unit→Shared→Prop}(I:Inv X pins σ H s) (hN:X.N.Nodup) (hi:X.N[i]? = some x) (hx:Loc X.env.scope x) (r:RelV v u)
  (h:∀ s',Inv X pins (σ.set i (some v)) H s'→Q () s') (hf:X.fn x=true∨X.env.scope.names.lookup x=some .local:=by first|exact .inl rfl|exact .inr rfl|assumption):wpAny M A (storeName X.env x u) Q E s :=
 y2i I hN hi hx r (fun s' I' _=>h s' I') hf
theorem Inv.call' {s':Shared}{ch:List Addr}(I:Inv X pins σ H s) (ho:s'.os=s.os) (u:Un (frs X.stack) ch H H' s.heap s'.heap) (hok:HOk X.prog X.w H' s'.heap) (hg:AllBare s'.gens)
  (hch:∀ b∈ch,(b∈X.ex∨X.s₀.heap.objs.size≤b)∧b≠X.env.locals∧(∀ x c,X.env.cells.lookup x=some c→c≠b)∧∀ p∈X.pn ++ pins,p.1≠b):Inv X pins σ H' s':=by
 obtain ⟨h',g',d',t',o'⟩:=s'
 have e:o' = s.os:=ho
 subst e
 exact I.call (g':=g') (t':=t') (d':=d') u hok hg hch
end
abbrev XK:=Value→Option Addr→Hp→Prop
abbrev St:=List (Option V)
abbrev VK:=V→Hp→Prop
abbrev TE:=St→Hp→VK→Prop
abbrev TT:=St→Hp→(Bool→Hp→Prop)→Prop
abbrev TA:=St→Hp→(List V→Hp→Prop)→Prop
structure Ends where
 nx:St→Hp→Prop
 rt:VK
 bk:St→Hp→Prop:=fun _ _=>False
 ct:St→Hp→Prop:=fun _ _=>False
abbrev TS:=Ends→St→Hp→Prop
def EP (X:Cx) (pins:List (Addr × Obj)) (σ:St) (Q:VK) (u:Value) (s':Shared):Prop:=∃ v H',Inv X pins σ H' s'∧RelV v u∧Q v H'
def TP (X:Cx) (pins:List (Addr × Obj)) (σ:St) (Q:Bool→Hp→Prop) (b:Bool) (s':Shared):Prop:=∃ H',Inv X pins σ H' s'∧Q b H'
def AP (X:Cx) (pins:List (Addr × Obj)) (σ:St) (Q:List V→Hp→Prop) (us:List Value) (s':Shared):Prop:=∃ vs H',Inv X pins σ H' s'∧Vals vs us∧Q vs H'
def SP (X:Cx) (pins:List (Addr × Obj)) (D:Ends) (f:Flow) (s':Shared):Prop :=
 match f with
 |.next=>∃ σ' H',Inv X pins σ' H' s'∧D.nx σ' H'
 |.brk=>∃ σ' H',Inv X pins σ' H' s'∧D.bk σ' H'
 |.cont=>∃ σ' H',Inv X pins σ' H' s'∧D.ct σ' H'
 |.ret u=>∃ v σ' H',Inv X pins σ' H' s'∧RelV v u∧D.rt v H'
def PE (X:Cx) (e:Expr) (t:TE):Prop :=
 ∀ (pins:List (Addr × Obj)) (s:Shared) (σ:St) (H:Hp) (Q:VK),Inv X pins σ H s→t σ H Q→wpAny (model X.prog X.w) X.A (eval e X.env) (EP X pins σ Q) X.xe s
def PT (X:Cx) (e:Expr) (t:TT):Prop :=
 ∀ (pins:List (Addr × Obj)) (s:Shared) (σ:St) (H:Hp) (Q:Bool→Hp→Prop),Inv X pins σ H s→t σ H Q→wpAny (model X.prog X.w) X.A (isTrue e X.env (eval e X.env)) (TP X pins σ Q) X.xe s
def PW (X:Cx) (e:Expr) (t:TT):Prop :=
 ∀ (whole:Sem Value) (pins:List (Addr × Obj)) (s:Shared) (σ:St) (H:Hp) (Q:Bool→Hp→Prop),Inv X pins σ H s→t σ H Q→wpAny (model X.prog X.w) X.A (isTrue e X.env whole) (TP X pins σ Q) X.xe s
theorem PW.pt {X:Cx}{e:Expr}{t:TT}(h:PW X e t):PT X e t:=h _
def PA (X:Cx) (es:List Expr) (t:TA):Prop :=
 ∀ (pos:Pos) (pins:List (Addr × Obj)) (s:Shared) (σ:St) (H:Hp) (Q:List V→Hp→Prop),Inv X pins σ H s→t σ H Q→wpAny (model X.prog X.w) X.A (spliced (backTo pos (starEach es X.env))) (AP X pins σ Q) X.xe s
def PS (X:Cx) (st:Stmt) (t:TS):Prop :=
 ∀ (pins:List (Addr × Obj)) (s:Shared) (σ:St) (H:Hp) (D:Ends),Inv X pins σ H s→t D σ H→wpAny (model X.prog X.w) X.A (exec st X.env) (SP X pins D) X.xe s
def PSs (X:Cx) (st:List Stmt) (t:TS):Prop :=
 ∀ (pins:List (Addr × Obj)) (s:Shared) (σ:St) (H:Hp) (D:Ends),Inv X pins σ H s→t D σ H→wpAny (model X.prog X.w) X.A (execs st X.env) (SP X pins D) X.xe s
theorem thn {α:Type}{t:Sem α}{Q Q':α→Shared→Prop}{M:Model}{A:Around}{E:Value→Shared→Prop}{s:Shared}(h:wpAny M A t Q E s) (hQ:∀ a s,Q a s→Q' a s):wpAny M A t Q' E s:=wpAny_mono h hQ fun _ _ x=>x
end L2
namespace L2
open PySem PySem.Spec PyProof.Rows
section
variable {X:Cx}
def tVar (i:Nat):TE:=fun σ H Q=>∃ v,σ[i]? = some (some v)∧Q v H
def tC (v:V):TE:=fun _ H Q=>Q v H
theorem y0g {i:Nat}{x:Str}{pos:Pos}(hN:X.N[i]? = some x) (hv:Vis X.env.scope x) (hd:(x == ("__debug__":Str))=false:=by decide) (hcd:(x == ("__classdict__":Str))=false:=by decide):PE X (.Name x pos) (tVar i):=by
 intro pins s σ H Q I h
 obtain ⟨v,e,h⟩:=h
 obtain ⟨m,hn,hl⟩:=I.loc
 obtain ⟨u,r,l⟩:=hl i x v hN e hv
 have fin:EP X pins σ Q u s:=⟨v,H,I,r,h⟩
 rcases l with ⟨hk,hm⟩|⟨hk,c,hc,hcell⟩
 ·exact wpAny_Name (wpAny_loadName_local I.ok.kind hk hn hm fin) hd
 ·rcases hk with hk|hk
  ·exact wpAny_Name (wpAny_loadName_cell I.ok.kind hk hc hcell fin) hd
  ·exact wpAny_Name (wpAny_loadName_free I.ok.kind hk hc hcell fin hcd) hd
theorem z1e {i j pos}:PE X (.Constant (.int i) j pos) (tC (.int i)):=fun _ _ _ H _ I h=>wpAny_Constant_int ⟨.int i,H,I.tok _,⟨_,rfl⟩,h⟩
theorem pe_bl {b j pos}:PE X (.Constant (.bool b) j pos) (tC (.bl b)):=fun _ _ _ H _ I h=>Constant_bool ⟨.bl b,H,I,rfl,h⟩
theorem z8u {j pos}:PE X (.Constant .none j pos) (tC .non):=fun _ _ _ H _ I h=>Constant_none ⟨.non,H,I,rfl,h⟩
theorem z2v {x j pos}:PE X (.Constant (.str x) j pos) (tC (.str x)):=fun _ _ _ H _ I h=>Calls.Constant_str ⟨.str x,H,I.tok _,⟨_,rfl⟩,h⟩
def Gl (X:Cx) (x:Str):Prop:=X.env.kindOf x=some .globalImplicit
theorem z7d {E:Value→Shared→Prop}{pins:List (Addr × Obj)}{s:Shared}{σ:St}{H:Hp}{x:Str}{u:Value}{pos:Pos}{Q:Value→Shared→Prop}(I:Inv X pins σ H s) (hg:Gl X x) (hm:X.mg x=some u) (h:Q u s)
  (hd:(x == ("__debug__":Str))=false:=by decide):wpAny (model X.prog X.w) X.A (eval (.Name x pos) X.env) Q E s :=
 Calls.Name_function_global I.ok.kind hg (Calls.loadGlobal_global (by rw [I.ok.glob];exact I.mod.glob.keeps I.bk) hm h) hd
theorem z4t {E:Value→Shared→Prop}{pins:List (Addr × Obj)}{s:Shared}{σ:St}{H:Hp}{x:Str}{u:Value}{pos:Pos}{Q:Value→Shared→Prop}(I:Inv X pins σ H s) (hg:Gl X x) (hm:X.mg x=none) (hv:bootBuiltins x=some u) (h:Q u s)
  (hn:x ≠ "__name__":=by decide) (hd:(x == ("__debug__":Str))=false:=by decide):wpAny (model X.prog X.w) X.A (eval (.Name x pos) X.env) Q E s:=by
 obtain ⟨mb,h1,h2⟩:=I.mod.blt
 exact Calls.Name_function_global I.ok.kind hg (Calls.loadGlobal_builtin (by rw [I.ok.glob];exact I.mod.glob.keeps I.bk) hm (by rw [I.ok.blt];exact h1.keeps I.bk) ((h2 x hn).trans hv) h) hd
theorem pe_glob {x:Str}{v:V}{u:Value}{pos:Pos}(hg:Gl X x) (hm:X.mg x=some u) (r:RelV v u) (hd:(x == ("__debug__":Str))=false:=by decide):PE X (.Name x pos) (tC v) :=
 fun _ _ _ H _ I h=>z7d I hg hm ⟨v,H,I,r,h⟩ hd
theorem y0s {x:Str}{v:V}{u:Value}{pos:Pos}(hg:Gl X x) (hm:X.mg x=none) (hv:bootBuiltins x=some u) (r:RelV v u) (hn:x ≠ "__name__":=by decide) (hd:(x == ("__debug__":Str))=false:=by decide):PE X (.Name x pos) (tC v) :=
 fun _ _ _ H _ I h=>z4t I hg hm hv ⟨v,H,I,r,h⟩ hn hd
variable {a b:Expr}{ta tb:TE}{pos:Pos}
def PC (X:Cx) (op:CmpOp) (a b:Expr) (t:TE):Prop :=
 ∀ (pins:List (Addr × Obj)) (s:Shared) (σ:St) (H:Hp) (Q:VK),Inv X pins σ H s→t σ H Q →
  wpAny (model X.prog X.w) X.A (eval a X.env) (fun v s₁=>wpAny (model X.prog X.w) X.A (eval b X.env) (fun u s₂=>wpAny (model X.prog X.w) X.A (compareOp op v u) (EP X pins σ Q) X.xe s₂) X.xe s₁) X.xe s
theorem y6e (b:Expr) {op:CmpOp}(h:op ≠ .In) (h2:op ≠ .NotIn):behindInMarks op b=false:=by
 have e1:(op == CmpOp.In)=false:=by cases op <;> first|rfl|exact absurd rfl h
 have e2:(op == CmpOp.NotIn)=false:=by cases op <;> first|rfl|exact absurd rfl h2
 cases b <;> simp [behindInMarks,e1,e2]
def tB (t:TE):TT:=fun σ H Q=>t σ H fun x H1=>∃ c,x = .bl c∧Q c H1
theorem pe_cmp {op:CmpOp}{t:TE}(h:PC X op a b t) (h1:behindInMarks op b=false:=by first|exact y6e _ (by decide) (by decide)|rfl):PE X (.Compare a [op] [b] pos) t:=fun pins s σ H Q I hw=>wpAny_Compare1 (h pins s σ H Q I hw) h1
theorem z9o {op:CmpOp}{t:TE}(h:PC X op a b t) (h1:behindInMarks op b=false:=by first|exact y6e _ (by decide) (by decide)|rfl):PT X (.Compare a [op] [b] pos) (tB t):=by
 intro pins s σ H Q I hw
 refine wpAny_isTrue_Compare1 (thn (h pins s σ H _ I hw) fun v s1 h1=>thn h1 fun u s2 h2=>thn h2 fun c s3 ⟨x,H1,I1,r1,q1⟩=>?_) h1
 obtain ⟨d,rfl,q⟩:=q1
 cases r1
 exact wpAny_truthy_bool ⟨H1,I1,q⟩
theorem z5b {e:Expr}{t:TE}(h:PE X e t) (he:∀ whole,isTrue e X.env whole=(do let v ← whole;standAt e.pos;holding [v] (truthy v)):=by intro _;rfl):PT X e (tB t):=by
 intro pins s σ H Q I hw
 refine isTrue_plain (thn (h pins s σ H _ I hw) fun v s1 ⟨x,H1,I1,r1,q1⟩=>?_) (he _)
 obtain ⟨d,rfl,q⟩:=q1
 cases r1
 exact wpAny_truthy_bool ⟨H1,I1,q⟩
variable {tA tB':TT}{rest:List Expr}
def tAnd (t u:TT):TT:=fun σ H Q=>t σ H fun c H1=>if c=true then u σ H1 Q else Q false H1
def tOr (t u:TT):TT:=fun σ H Q=>t σ H fun c H1=>if c=true then Q true H1 else u σ H1 Q
def tNot (t:TT):TT:=fun σ H Q=>t σ H fun c H1=>Q (!c) H1
theorem y1q (ha:PT X a tA):PW X (.BoolOp .And [a] pos) tA:=by
 intro wh pins s σ H Q I h
 refine isTrue_and (thn (ha pins s σ H Q I h) fun c s1 e=>?_)
 cases c with
 |true=>exact isTrue_and_nil e
 |false=>exact e
theorem pw_or1 (ha:PT X a tA):PW X (.BoolOp .Or [a] pos) tA:=by
 intro wh pins s σ H Q I h
 refine isTrue_or (thn (ha pins s σ H Q I h) fun c s1 e=>?_)
 cases c with
 |false=>exact isTrue_or_nil e
 |true=>exact e
theorem y5z (ha:PT X a tA) (hb:PW X (.BoolOp .And (b::rest) pos) tB'):PW X (.BoolOp .And (a::b::rest) pos) (tAnd tA tB'):=by
 intro wh pins s σ H Q I h
 refine isTrue_and (thn (ha pins s σ H _ I h) fun c s1 ⟨H1,I1,q1⟩=>?_)
 cases c with
 |true=>exact hb wh pins s1 σ H1 Q I1 q1
 |false=>exact ⟨H1,I1,q1⟩
theorem pw_or (ha:PT X a tA) (hb:PW X (.BoolOp .Or (b::rest) pos) tB'):PW X (.BoolOp .Or (a::b::rest) pos) (tOr tA tB'):=by
 intro wh pins s σ H Q I h
 refine isTrue_or (thn (ha pins s σ H _ I h) fun c s1 ⟨H1,I1,q1⟩=>?_)
 cases c with
 |true=>exact ⟨H1,I1,q1⟩
 |false=>exact hb wh pins s1 σ H1 Q I1 q1
theorem pt_not (ha:PT X a tA):PT X (.UnaryOp .Not a pos) (tNot tA):=by
 intro pins s σ H Q I h
 exact isTrue_not (ha pins s σ H (fun c H1=>Q (!c) H1) I h)
def y4e (ta tb:TE):TE:=fun σ H Q=>ta σ H fun x H1=>∃ c,x = .bl c∧if c=true then tb σ H1 Q else Q (.bl false) H1
def y4f (ta:TE):TE:=fun σ H Q=>ta σ H fun x H1=>∃ c,x = .bl c∧Q (.bl (!c)) H1
theorem pe_one {op} {t:TE}(h:PE X a t):PE X (.BoolOp op [a] pos) t:=fun pins s σ H Q I hw=>BoolOp_one (h pins s σ H Q I hw)
theorem y5x (ha:PE X a ta) (hb:PE X (.BoolOp .And (b::rest) pos) tb):PE X (.BoolOp .And (a::b::rest) pos) (y4e ta tb):=by
 intro pins s σ H Q I h
 refine BoolOp_and (thn (ha pins s σ H _ I h) fun v s1 ⟨x,H1,I1,r1,q1⟩=>?_)
 obtain ⟨c,rfl,q1⟩:=q1
 cases r1
 refine wpAny_truthy_bool ?_
 cases c with
 |true=>exact hb pins s1 σ H1 Q I1 q1
 |false=>exact ⟨.bl false,H1,I1,rfl,q1⟩
theorem pe_not (ha:PE X a ta):PE X (.UnaryOp .Not a pos) (y4f ta):=by
 intro pins s σ H Q I h
 refine UnaryOp_ (thn (ha pins s σ H _ I h) fun v s1 ⟨x,H1,I1,r1,q1⟩=>?_)
 obtain ⟨c,rfl,q1⟩:=q1
 cases r1
 exact not_of (wpAny_truthy_bool ⟨.bl (!c),H1,I1,rfl,q1⟩)
def tIf (t:TT) (ta tb:TE):TE:=fun σ H Q=>t σ H fun c H1=>if c=true then ta σ H1 Q else tb σ H1 Q
theorem pe_ifExp {c:Expr}(hc:PT X c tA) (ha:PE X a ta) (hb:PE X b tb):PE X (.IfExp c a b pos) (tIf tA ta tb):=by
 intro pins s σ H Q I h
 refine wpAny_IfExp (thn (hc pins s σ H _ I h) fun d s1 ⟨H1,I1,q1⟩=>?_)
 cases d with
 |true=>exact ha pins s1 σ H1 Q I1 q1
 |false=>exact hb pins s1 σ H1 Q I1 q1
end
end L2
namespace L2
open PySem PySem.Spec PyProof.Rows
def SqL (K:PySem.W.Frag) (H:Hp) (a:Addr) (xs:List V):Prop :=
 Rd H a (.lst xs) ∨
  ∃ (o:Obj) (its:Array Value) (n:Nat),K.lookup a=some o∧o.cls = .type "list"∧o.dict=none∧o.data = .seq its n∧its.size≤sizeLine∧Vals xs its.toList
def SqT (K:PySem.W.Frag) (H:Hp) (a:Addr) (xs:List V):Prop :=
 Rd H a (.tup xs) ∨
  ∃ (o:Obj) (its:Array Value) (n:Nat),K.lookup a=some o∧o.cls = .type "tuple"∧o.data = .seq its n∧its.size≤sizeLine∧Vals xs its.toList
def absV:Value→Option V
 |.none=>some .non
 |.bool b=>some (.bl b)
 |.int i _=>some (.int i)
 |.str x _=>some (.str x)
 |.bytes b _=>some (.byt b)
 |.float b _=>some (.flt b)
 |.ref a=>some (.ref a)
 |.type n=>some (.ty n)
 |_=>none
theorem RelV.abs {x:V}{u:Value}(r:RelV x u):absV u=some x:=by
 cases x with
 |non=>cases r;rfl
 |bl _=>cases r;rfl
 |int _=>obtain ⟨t,rfl⟩:=r;rfl
 |str _=>obtain ⟨t,rfl⟩:=r;rfl
 |byt _=>obtain ⟨t,rfl⟩:=r;rfl
 |flt _=>obtain ⟨t,rfl⟩:=r;rfl
 |ref _=>cases r;rfl
 |ty _=>cases r;rfl
theorem RelV.inj {x y:V}{u:Value}(r:RelV x u) (q:RelV y u):x=y:=Option.some.inj (r.abs.symm.trans q.abs)
theorem Vals.inj:∀ {xs ys:List V}{us:List Value},Vals xs us→Vals ys us→xs=ys
 |_,_,_,.nil,.nil=>rfl
 |_,_,_,.cons r t,.cons r' t'=>by rw [r.inj r',Vals.inj t t']
section
variable {X:Cx}{pins:List (Addr × Obj)}{σ:St}{H:Hp}{s:Shared}{a:Addr}{xs ys:List V}
theorem SqL.of {K:PySem.W.Frag}(h:H a=some (.lst xs)):SqL K H a xs:=.inl (.inl h)
theorem SqT.of {K:PySem.W.Frag}(h:H a=some (.tup xs)):SqT K H a xs:=.inl (.inl h)
theorem Inv.list (I:Inv X pins σ H s) (h:SqL X.K H a xs):∃ its:List Value,Vals xs its∧PlainL s.heap a its.toArray∧xs.length≤sizeLine:=by
 rcases h with h|⟨o,its,n,hk,hc,hd,hs,hz,r⟩
 ·obtain ⟨z,its,n,r,e⟩:=h.ok I.hok
  exact ⟨its,r,⟨_,n,e,rfl,rfl,rfl⟩,z⟩
 ·refine ⟨its.toList,r,⟨o,n,I.kIn a o hk,hc,hd,by simpa using hs⟩,?_⟩
  have e:=r.length
  simp only [Array.length_toList] at e
  omega
theorem Inv.tuple (I:Inv X pins σ H s) (h:SqT X.K H a xs):∃ its:List Value,Vals xs its∧IsTup s.heap a its.toArray∧xs.length≤sizeLine:=by
 rcases h with h|⟨o,its,n,hk,hc,hs,hz,r⟩
 ·obtain ⟨z,its,r,p⟩:=h.ok I.hok
  exact ⟨its,r,p,z⟩
 ·refine ⟨its.toList,r,⟨o,I.kIn a o hk,hc,n,by simpa using hs⟩,?_⟩
  have e:=r.length
  simp only [Array.length_toList] at e
  omega
theorem Inv.list_inj (I:Inv X pins σ H s) (h:SqL X.K H a xs) (h':SqL X.K H a ys):xs=ys:=by
 obtain ⟨its,r,⟨o,n,e,_,_,d⟩,_⟩:=I.list h
 obtain ⟨its',r',⟨o',n',e',_,_,d'⟩,_⟩:=I.list h'
 rw [e] at e';cases e'
 rw [d] at d'
 injection d' with d1 _
 have:its=its':=by simpa using congrArg Array.toList d1
 subst this
 exact r.inj r'
end
abbrev Cx.wish (X:Cx) (E:Value→Shared→Prop):Cx:={ X with xe:=E }
abbrev Cx.nox (X:Cx):Cx:=X.wish fun _ _=>False
theorem Cx.Ok.wish {X:Cx}(ok:X.Ok) (E:Value→Shared→Prop):(X.wish E).Ok :=
 ⟨ok.mod,ok.kind,ok.glob,ok.blt,ok.above,ok.inj,ok.has,ok.cab,ok.hd,ok.frames,ok.stk,ok.exf,ok.bs,ok.bsz,ok.noex,ok.exfs,ok.funs,ok.frf⟩
theorem Cx.Ok.unwish {X:Cx}{E:Value→Shared→Prop}(ok:(X.wish E).Ok):X.Ok :=
 ⟨ok.mod,ok.kind,ok.glob,ok.blt,ok.above,ok.inj,ok.has,ok.cab,ok.hd,ok.frames,ok.stk,ok.exf,ok.bs,ok.bsz,ok.noex,ok.exfs,ok.funs,ok.frf⟩
section
variable {X:Cx}{pins:List (Addr × Obj)}{σ:St}{H:Hp}{s:Shared}{E:Value→Shared→Prop}
theorem Inv.wish (I:Inv X pins σ H s) (E:Value→Shared→Prop):Inv (X.wish E) pins σ H s:=⟨I.ok.wish E,I.os,I.bare,I.base,I.loc,I.cell,I.free,I.freeC,I.pin,I.hok,I.len⟩
theorem Inv.unwish (I:Inv (X.wish E) pins σ H s):Inv X pins σ H s:=⟨I.ok.unwish,I.os,I.bare,I.base,I.loc,I.cell,I.free,I.freeC,I.pin,I.hok,I.len⟩
theorem SP.unwish {D:Ends}{f:Flow}{s':Shared}(h:SP (X.wish E) pins D f s'):SP X pins D f s':=by
 cases f with
 |next=>obtain ⟨σ',H',I,q⟩:=h;exact ⟨σ',H',I.unwish,q⟩
 |brk=>obtain ⟨σ',H',I,q⟩:=h;exact ⟨σ',H',I.unwish,q⟩
 |cont=>obtain ⟨σ',H',I,q⟩:=h;exact ⟨σ',H',I.unwish,q⟩
 |ret u=>obtain ⟨v,σ',H',I,r,q⟩:=h;exact ⟨v,σ',H',I.unwish,r,q⟩
theorem PSs.nox {st:List Stmt}{t:TS}(h:PSs X.nox st t):PSs X st t:=fun pins s σ H D I hw =>
 wpAny_mono (h pins s σ H D (I.wish _) hw) (fun _ _ q=>q.unwish) fun _ _ z=>False.elim z
end
section
variable {X:Cx}{st:Stmt}{rest:List Stmt}{t u:TS}{e:Expr}{te:TE}{pos:Pos}
def y1a:TS:=fun D σ H=>D.nx σ H
def tSeq (t u:TS):TS:=fun D σ H=>t { D with nx:=u D } σ H
theorem z0t:PSs X [] y1a:=fun _ _ σ H _ I h=>wpAny_execs_nil ⟨σ,H,I,h⟩
theorem z0h (h1:PS X st t) (h2:PSs X rest u):PSs X (st::rest) (tSeq t u):=by
 intro pins s σ H D I h
 refine wpAny_execs_cons (thn (h1 pins s σ H { D with nx:=u D } I h) fun f s1 q=>?_)
 cases f with
 |next =>
  obtain ⟨σ',H',I',q⟩:=q
  exact h2 pins s1 σ' H' D I' q
 |ret v=>exact q
 |brk=>exact q
 |cont=>exact q
theorem z0m (h1:PS X st t):PSs X [st] t:=by
 intro pins s σ H D I h
 refine wpAny_execs_cons (thn (h1 pins s σ H D I h) fun f s1 q=>?_)
 cases f with
 |next=>exact wpAny_execs_nil q
 |ret v=>exact q
 |brk=>exact q
 |cont=>exact q
theorem Inv.quiet {pins:List (Addr × Obj)}{σ:St}{H:Hp}{s:Shared}(I:Inv X pins σ H s):interactive X.env=false:=by simp [interactive,I.ok.kind]
def z9k (te:TE):TS:=fun D σ H=>te σ H fun _ H1=>D.nx σ H1
theorem z1n (he:PE X e te) (hs:swapsWith e none pos.line X.env=pure false:=by rfl):PS X (.Expr e pos) (z9k te):=by
 intro pins s σ H D I h
 exact wpAny_Expr_any (thn (he pins s σ H _ I h) fun v s1 ⟨x,H1,I1,r1,q1⟩=>⟨σ,H1,I1,q1⟩) I.quiet hs
def tRet (te:TE):TS:=fun D σ H=>te σ H D.rt
theorem z1q (he:PE X e te):PS X (.Return (some e) pos) (tRet te):=by
 intro pins s σ H D I h
 exact wpAny_Return_some (thn (he pins s σ H _ I h) fun v s1 ⟨x,H1,I1,r1,q1⟩=>⟨x,σ,H1,I1,r1,q1⟩)
def tIfS (c:TT) (t u:TS):TS:=fun D σ H=>c σ H fun b H1=>if b=true then t D σ H1 else u D σ H1
theorem z2d {c:Expr}{a b:List Stmt}{tc:TT}(hc:PT X c tc) (ha:PSs X a t) (hb:PSs X b u):PS X (.If c a b pos) (tIfS tc t u):=by
 intro pins s σ H D I h
 refine wpAny_If (thn (hc pins s σ H _ I h) fun d s1 ⟨H1,I1,q1⟩=>?_)
 cases d with
 |true=>exact ha pins s1 σ H1 D I1 q1
 |false=>exact hb pins s1 σ H1 D I1 q1
def z9t:TS:=fun _ _ _=>False
theorem z1z:PS X st z9t:=fun _ _ _ _ _ _ h=>h.elim
theorem z5d {sts:List Stmt}:PSs X sts z9t:=fun _ _ _ _ _ _ h=>h.elim
end
abbrev TG:=V→St→Hp→(St→Hp→Prop)→Prop
abbrev TGs:=List V→St→Hp→(St→Hp→Prop)→Prop
def PG (X:Cx) (target:Expr) (t:TG):Prop :=
 ∀ (pins:List (Addr × Obj)) (s:Shared) (σ:St) (H:Hp) (v:V) (u:Value) (Q:St→Hp→Prop),Inv X pins σ H s→RelV v u→t v σ H Q →
  wpAny (model X.prog X.w) X.A (assign target X.env u) (fun _ s'=>∃ σ' H',Inv X pins σ' H' s'∧Q σ' H') X.xe s
def PGs (X:Cx) (ts:List Expr) (t:TGs):Prop :=
 ∀ (pins:List (Addr × Obj)) (s:Shared) (σ:St) (H:Hp) (vs:List V) (us:List Value) (Q:St→Hp→Prop),Inv X pins σ H s→Vals vs us→t vs σ H Q →
  wpAny (model X.prog X.w) X.A (assignInOrder ((assignEach ts X.env).map (·.2)) us) (fun _ s'=>∃ σ' H',Inv X pins σ' H' s'∧Q σ' H') X.xe s
abbrev TSet:=V→V→V→Hp→(Hp→Prop)→Prop
def PSet (X:Cx) (t:TSet):Prop :=
 ∀ (pins:List (Addr × Obj)) (s:Shared) (σ:St) (H:Hp) (o i v:V) (ov iv u:Value) (Q:Hp→Prop),Inv X pins σ H s→RelV o ov→RelV i iv→RelV v u→t o i v H Q →
  wpAny (model X.prog X.w) X.A (setItem ov iv u) (fun _ s'=>∃ H',Inv X pins σ H' s'∧Q H') X.xe s
section
variable {X:Cx}{pos:Pos}
def z7n (i:Nat):TG:=fun v σ H Q=>Q (σ.set i (some v)) H
theorem z4b {i:Nat}{x:Str}(hN:X.N.Nodup) (hi:X.N[i]? = some x) (hx:Loc X.env.scope x) (hf:X.fn x=true∨X.env.scope.names.lookup x=some .local:=by first|exact .inl rfl|exact .inr rfl|assumption):PG X (.Name x pos) (z7n i):=by
 intro pins s σ H v u Q I r h
 exact wpAny_assign_Name (z7p I hN hi hx r (fun s' I'=>⟨_,H,I',h⟩) hf)
def gNil:TGs:=fun vs σ H Q=>vs=[]∧Q σ H
def y5b (t:TG) (u:TGs):TGs:=fun vs σ H Q=>∃ v r,vs=v::r∧t v σ H fun σ' H'=>u r σ' H' Q
theorem z7v:PGs X [] gNil:=by
 intro pins s σ H vs us Q I r h
 obtain ⟨e,h⟩:=h
 subst e
 cases r
 exact assignInOrder_nil ⟨σ,H,I,h⟩
theorem z3x {e:Expr}{es:List Expr}{t:TG}{u:TGs}(h1:PG X e t) (h2:PGs X es u)
  (hs:(assignEach (e::es) X.env).map (·.2)=assign e X.env::(assignEach es X.env).map (·.2):=by rfl):PGs X (e::es) (y5b t u):=by
 intro pins s σ H vs us Q I r h
 obtain ⟨v,vr,e1,h⟩:=h
 subst e1
 cases r with
 |cons r rr =>
  rw [hs]
  refine assignInOrder_cons (thn (h1 pins s σ H _ _ _ I r h) fun _ s1 ⟨σ1,H1,I1,q1⟩=>?_)
  exact h2 pins s1 σ1 H1 _ _ Q I1 rr q1
def gTup (K:PySem.W.Frag) (n:Nat) (t:TGs):TG:=fun v σ H Q=>∃ a xs,v = .ref a∧SqT K H a xs∧xs.length=n∧t xs σ H Q
theorem y2q {es:List Expr}{k:Nat}{t:TGs}{n:Nat}(hc:X.calm=true) (h:PGs X es t)
  (hn:(assignEach es X.env).length=n:=by rfl) (hst:(assignEach es X.env).findIdx? (·.1)=none:=by rfl):PG X (.Tuple es k pos) (gTup X.K n t):=by
 intro pins s σ H v u Q I r hw
 obtain ⟨a,xs,e1,hq,hl,hw⟩:=hw
 subst e1
 cases r
 obtain ⟨its,rv,ht,hz⟩:=I.tuple hq
 refine assign_Tuple_tuple (I.ok.hd hc) ht (by simp [hn,← hl,rv.length]) hst fun h' hx=>?_
 have I1:Inv X pins σ H { s with heap:=h' }:=I.kept (t':=s.toks) fun b o e=>hx b o (Nat.ne_of_lt (Heap.lt_size e)) e
 exact h pins _ σ H xs _ Q I1 (by simpa using rv) hw
def gSub (to ti:TE) (t:TSet):TG:=fun v σ H Q=>to σ H fun o H1=>ti σ H1 fun i H2=>t o i v H2 fun H3=>Q σ H3
theorem pg_sub {o i:Expr}{to ti:TE}{t:TSet}(ho:PE X o to) (hi:PE X i ti) (hs:PSet X t)
  (ha:∀ v,assign (.Subscript o i pos) X.env v=(do
   let ov ← holding [v] (eval o X.env)
   let iv ← holding [v,ov] (eval i X.env)
   standAt pos
   holding [v,ov,iv] (setItem ov iv v)
   release [v,ov,iv] []):=by intro _;rfl):PG X (.Subscript o i pos) (gSub to ti t):=by
 intro pins s σ H v u Q I r h
 rw [ha]
 refine wpAny_bind (wpAny_holding (thn (ho pins s σ H _ I h) fun ov s1 ⟨x,H1,I1,r1,q1⟩=>?_))
 refine wpAny_bind (wpAny_holding (thn (hi pins s1 σ H1 _ I1 q1) fun iv s2 ⟨y,H2,I2,r2,q2⟩=>?_))
 refine wpAny_bind (wpAny_standAt (wpAny_bind (wpAny_holding (thn (hs pins s2 σ H2 x y v ov iv u _ I2 r1 r2 r q2) fun _ s3 ⟨H3,I3,q3⟩=>?_))))
 exact wpAny_release ⟨σ,H3,I3,q3⟩
def tAsg (te:TE) (g:TG):TS:=fun D σ H=>te σ H fun x H1=>g x σ H1 D.nx
theorem ps_asg {tg e:Expr}{te:TE}{g:TG}(he:PE X e te) (hg:PG X tg g) (hs:swapsWithSole [tg] e pos.line X.env=pure false:=by rfl) (hw:swappedStores [tg] e X.env=pure none:=by rfl)
  (h1:(assignEach [tg] X.env).map (·.2)=[assign tg X.env]:=by rfl):PS X (.Assign [tg] e pos) (tAsg te g):=by
 intro pins s σ H D I h
 refine wpAny_Assign_stores (thn (he pins s σ H _ I h) fun v s1 ⟨x,H1,I1,r1,q1⟩=>?_) hs hw
 rw [h1]
 exact thn (hg pins s1 σ H1 x v _ I1 r1 q1) fun _ s2 q=>q
theorem z2f {i:Nat}{x:Str}{e:Expr}{te:TE}{pos':Pos}(hN:X.N.Nodup) (hi:X.N[i]? = some x) (hx:Loc X.env.scope x) (he:PE X e te) (hs:swapsWith e (some (.Name x pos')) pos.line X.env=pure false:=by rfl) (hf:X.fn x=true∨X.env.scope.names.lookup x=some .local:=by first|exact .inl rfl|exact .inr rfl|assumption) :
  PS X (.Assign [.Name x pos'] e pos) (tAsg te (z7n i)):=by
 intro pins s σ H D I h
 refine wpAny_Assign_Name (thn (he pins s σ H _ I h) fun v s1 ⟨y,H1,I1,r1,q1⟩=>?_) hs
 exact z7p I1 hN hi hx r1 (fun s2 I2=>⟨_,H1,I2,q1⟩) hf
end
section
variable {X:Cx}{pos:Pos}
def tWhile (c:TT) (tb:TS):TS:=fun D σ H=>∃ W:Nat→St→Hp→Prop,(∃ m,W m σ H)∧∀ m σ H,W m σ H →
 c σ H fun b H1=>if b=true then ∃ N:St→Hp→Prop,(∀ σ' H',N σ' H'→∃ m',m' < m∧W m' σ' H')∧tb { D with nx:=N,ct:=N,bk:=D.nx } σ H1 else D.nx σ H1
theorem y1x {c:Expr}{body:List Stmt}{tc:TT}{tb:TS}(hp:PassesOwn (model X.prog X.w) X.A X.env X.xe) (hc:PT X c tc) (hb:PSs X body tb):PS X (.While c body [] pos) (tWhile tc tb):=by
 intro pins s σ H D I h
 obtain ⟨W,⟨m0,w0⟩,turn⟩:=h
 refine wpAny_While (codeAny_whileLoop (fun n s'=>∃ σ' H',Inv X pins σ' H' s'∧W n σ' H') ?_ m0 ⟨σ,H,I,w0⟩)
 rintro n s1 ⟨σ1,H1,I1,w1⟩
 refine wpAny_passesOwn hp (thn (hc pins s1 σ1 H1 _ I1 (turn n σ1 H1 w1)) fun b s2 ⟨H2,I2,q2⟩=>?_)
 cases b with
 |true =>
  obtain ⟨N,hN,q2⟩:=q2
  rw [if_pos rfl]
  refine wpAny_passesOwn hp (thn (hb pins s2 σ1 H2 _ I2 q2) fun f s3 q3=>?_)
  cases f with
  |next =>
   obtain ⟨σ3,H3,I3,n3⟩:=q3
   obtain ⟨m',hm,w3⟩:=hN σ3 H3 n3
   exact ⟨m',hm,σ3,H3,I3,w3⟩
  |cont =>
   obtain ⟨σ3,H3,I3,n3⟩:=q3
   obtain ⟨m',hm,w3⟩:=hN σ3 H3 n3
   exact ⟨m',hm,σ3,H3,I3,w3⟩
  |brk=>exact q3
  |ret v=>exact q3
 |false =>
  rw [if_neg Bool.false_ne_true]
  exact wpAny_execs_nil ⟨σ1,H2,I2,q2⟩
end
structure It where
 go:Nat→Hp→Prop
 yld:Nat→Hp→V→Hp→Prop
 stop:Nat→Hp→Prop
def FpOk (X:Cx) (pins:List (Addr × Obj)) (H:Hp) (b:Addr):Prop :=
 H b=none∧b≠X.env.locals∧b∉X.fs∧(b∈X.ex∨X.s₀.heap.objs.size≤b)∧(∀ x c,X.env.cells.lookup x=some c→c≠b)∧∀ p∈X.pn ++ pins,p.1≠b
theorem Inv.fpOk {X:Cx}{pins:List (Addr × Obj)}{σ:St}{H H':Hp}{s:Shared}{b:Addr}(I:Inv X pins σ H s) (hb:s.heap.objs.size≤b) (hn:H' b=none):FpOk X pins H' b:=by
 refine ⟨hn,Nat.ne_of_gt (Nat.lt_of_lt_of_le I.lt hb),I.nofs hb,.inr (Nat.le_trans I.sz hb),fun x c e z=>?_,fun p hp z=>?_⟩
 ·obtain ⟨v,q⟩:=I.cell x c e
  exact absurd (Nat.lt_of_lt_of_le q.lt (by rw [z];exact hb)) (Nat.lt_irrefl _)
 ·exact absurd (Nat.lt_of_lt_of_le (Heap.lt_size (I.pin p hp).1) (by rw [z];exact hb)) (Nat.lt_irrefl _)
structure Turn (P:Program) (w:World) (K:PySem.W.Frag) (tg:Expr) (J:It) (fp:List Addr) (it:Addr) (tn:Nat→Heap→Prop):Prop where
 mem:it∈fp
 obj:∀ i h,tn i h→∀ b∈fp,∃ o,h.get? b=some o∧∀ v,o.data ≠ .cell v
 keep:∀ i h h',tn i h→(∀ b∈fp,∀ o,h.get? b=some o→h'.get? b=some o)→tn i h'
 item:∀ (X:Cx),X.prog=P→X.w=w→X.K=K→X.calm=true→∀ (i:Nat) (pins:List (Addr × Obj)) (s:Shared) (σ:St) (H:Hp) (E:Value→Shared→Prop),Inv X pins σ H s→(∀ b∈fp,FpOk X pins H b)→tn i s.heap→J.go i H →
  wpAny (model P w) X.A (pyNext (.ref it)) (fun r s1=>∃ u,r=some u ∧
   wpAny (model P w) X.A (letOwnedTupleGo tg (.ref it) u) (fun _ s2=>∃ x H',Inv X pins σ H' s2∧RelV x u∧J.yld i H x H'∧tn (i+1) s2.heap∧∀ b∈fp,H' b=none) E s1) E s
 done:∀ (X:Cx),X.prog=P→X.w=w→X.K=K→X.calm=true→∀ (i:Nat) (pins:List (Addr × Obj)) (s:Shared) (σ:St) (H:Hp) (E:Value→Shared→Prop),Inv X pins σ H s→(∀ b∈fp,FpOk X pins H b)→tn i s.heap→J.stop i H →
  wpAny (model P w) X.A (pyNext (.ref it)) (fun r s1=>r=none∧Inv X pins σ H s1) E s
 self:∀ (A:Around) (i:Nat) (s:Shared) (Q:Value→Shared→Prop) (E:Value→Shared→Prop),tn i s.heap→Q (.ref it) s→wpAny (model P w) A (pyIter (.ref it)) Q E s
abbrev TI:=St→Hp→(It→Hp→Prop)→Prop
def PIE (X:Cx) (pins:List (Addr × Obj)) (σ:St) (tg:Expr) (R:It→Hp→Prop) (itv:Value) (s2:Shared):Prop :=
 ∃ (it:Addr) (fp:List Addr) (tn:Nat→Heap→Prop) (J:It) (H':Hp),itv = .ref it∧Inv X pins σ H' s2∧Turn X.prog X.w X.K tg J fp it tn∧tn 0 s2.heap∧(∀ b∈fp,FpOk X pins H' b)∧R J H'
def PI (X:Cx) (tg iter:Expr) (wi:TI):Prop :=
 ∀ (pins:List (Addr × Obj)) (s:Shared) (σ:St) (H:Hp) (R:It→Hp→Prop),Inv X pins σ H s→wi σ H R →
  wpAny (model X.prog X.w) X.A (eval iter X.env) (fun v s1=>wpAny (model X.prog X.w) X.A (pyIter v) (PIE X pins σ tg R) X.xe s1) X.xe s
theorem go_of {M:Model}{A:Around}{E:Value→Shared→Prop}{s:Shared}{tg:Expr}{it:Addr}{u:Value}{o:Obj}{n:String}{vs:Array Value}{Q:Unit→Shared→Prop}(ho:s.heap.get? it=some o) (hc:o.cls = .type n) (hd:o.data = .fields vs)
  (hn:["enumerate","zip","dict_itemiterator","dict_reverseitemiterator","odict_iterator","itertools.zip_longest","itertools.pairwise"].contains n=false) (hQ:Q () s):wpAny M A (letOwnedTupleGo tg (.ref it) u) Q E s:=by
 unfold letOwnedTupleGo
 cases tg <;> first
  |exact wpAny_pure hQ
  |(cases u <;> first
    |exact wpAny_pure hQ
    |(refine wpAny_bind (wpAny_load ho ?_)
      rw [hc,hd]
      show wpAny M A (if (["enumerate","zip","dict_itemiterator","dict_reverseitemiterator","odict_iterator","itertools.zip_longest","itertools.pairwise"].contains n && vs[0]? == some (rawInt _))=true then _ else _) Q E s
      rw [if_neg (by intro h;rw [hn,Bool.false_and] at h;cases h)]
      exact wpAny_pure hQ))
def Itl (K:PySem.W.Frag) (a:Addr):It :=
 ⟨fun i H=>∃ xs x,SqL K H a xs∧xs[i]? = some x,fun i H x H'=>H' = H∧∀ xs,SqL K H a xs→xs[i]? = some x,fun i H=>∃ xs,SqL K H a xs∧xs.length≤i⟩
def Itr (lo:Int) (n:Nat):It:=⟨fun i _=>i < n,fun i H x H'=>H' = H∧x = .int (lo+i),fun i _=>n≤i⟩
theorem turn_list {P:Program}{w:World}{K:PySem.W.Frag}{tg:Expr}(a it:Addr):Turn P w K tg (Itl K a) [it] it (fun i h=>h.IsListIter it a i) where
 mem:=by simp
 obj:=fun i h st b hb=>by
  have e:b=it:=by simpa using hb
  subst e
  obtain ⟨o,e,c,d⟩:=st
  exact ⟨o,e,fun v z=>by rw [d] at z;cases z⟩
 keep:=fun i h h' st k=>st.at fun o e=>k it (by simp) o e
 item:=by
  intro X hP hw hK hc i pins s σ H E I hf st hg
  subst hP hw hK
  obtain ⟨xs,x,hq,hx⟩:=hg
  obtain ⟨its,rv,p,hz⟩:=I.list hq
  obtain ⟨u,hu,ru⟩:=rv.get hx
  obtain ⟨f0,f1,f2,f3,f4,f5⟩:=hf it (by simp)
  refine wpAny_pyNext_list_item st p.isList (x:=u) (by simpa using hu) fun h' st' sb=>?_
  have I1:Inv X pins σ H { s with heap:=h' }:=I.turned (t':=s.toks) (fun b o hb e=>(sb.2 b hb).trans e) f0 f1 f3 f4 f5
  obtain ⟨o,e,c,d⟩:=id st'
  exact ⟨u,rfl,go_of (s:={ s with heap:=h' }) e c d (by decide) ⟨x,H,I1,ru,⟨rfl,fun ys hy=>by rw [I.list_inj hy hq];exact hx⟩,st',fun b hb=>(hf b hb).1⟩⟩
 done:=by
  intro X hP hw hK hc i pins s σ H E I hf st hg
  subst hP hw hK
  obtain ⟨xs,hq,hx⟩:=hg
  obtain ⟨its,rv,p,hz⟩:=I.list hq
  obtain ⟨f0,f1,f2,f3,f4,f5⟩:=hf it (by simp)
  have hl:=rv.length
  exact wpAny_pyNext_list_end (I.ok.hd hc) st p.isList (by simp;omega) fun h' eb=>⟨rfl,I.turned (t':=s.toks) (fun b o hb e=>eb b o hb e) f0 f1 f3 f4 f5⟩
 self:=fun _ _ _ _ _ st h=>wpAny_pyIter_listiter st h
theorem turn_range {P:Program}{w:World}{K:PySem.W.Frag}{tg:Expr}(it:Addr) (lo:Int) (n:Nat):Turn P w K tg (Itr lo n) [it] it (fun i h=>IsRangeIter h it (lo+(i:Nat) * 1) ((n:Int) - (i:Nat)) 1) where
 mem:=by simp
 obj:=fun i h st b hb=>by
  have e:b=it:=by simpa using hb
  subst e
  exact ⟨_,st,fun v z=>by
   have z':Data.fields _=Data.cell v:=z
   cases z'⟩
 keep:=fun i h h' st k=>k it (by simp) _ st
 item:=by
  intro X hP hw hK hc i pins s σ H E I hf st hg
  subst hP hw hK
  obtain ⟨f0,f1,f2,f3,f4,f5⟩:=hf it (by simp)
  have W:=Walks.range (prog:=X.prog) (w:=X.w) (I.ok.hd hc) it lo 1 n
  refine W.item i s _ _ hg st fun v h' tk hv st' kk=>?_
  obtain ⟨t,rfl⟩:=hv
  have I1:Inv X pins σ H { s with heap:=h',toks:=tk }:=I.turned (fun b o hb e=>kk b o (by simpa using hb) e) f0 f1 f3 f4 f5
  refine ⟨_,rfl,go_of (s:={ s with heap:=h',toks:=tk }) (n:="range_iterator") st' rfl rfl (by decide) ⟨.int (lo+i),H,I1,⟨t,?_⟩,⟨rfl,rfl⟩,st',fun b hb=>(hf b hb).1⟩⟩
  rw [Int.mul_one]
 done:=by
  intro X hP hw hK hc i pins s σ H E I hf st hg
  subst hP hw hK
  obtain ⟨f0,f1,f2,f3,f4,f5⟩:=hf it (by simp)
  exact wpAny_pyNext_range_end (I.ok.hd hc) st (by have:n≤i:=hg;omega) fun h' eb=>⟨rfl,I.turned (t':=s.toks) (fun b o hb e=>eb b o hb e) f0 f1 f3 f4 f5⟩
 self:=fun _ _ _ _ _ st h=>wpAny_pyIter_rangeiter st h
end L2
namespace L2
open PySem PySem.Spec PyProof.Rows
section
variable {X:Cx}{tg:Expr}
def iList (K:PySem.W.Frag) (tl:TE):TI:=fun σ H R=>tl σ H fun x H1=>∃ a,x = .ref a∧(∃ xs,SqL K H1 a xs)∧R (Itl K a) H1
theorem z8f {l:Expr}{tl:TE}(hl:PE X l tl):PI X tg l (iList X.K tl):=by
 intro pins s σ H R I h
 refine thn (hl pins s σ H _ I h) fun v s1 ⟨x,H1,I1,r1,q1⟩=>?_
 obtain ⟨a,e,⟨xs,hq⟩,q⟩:=q1
 subst e
 cases r1
 obtain ⟨its,rv,p,hz⟩:=I1.list hq
 refine wpAny_pyIter_list p.isList ?_
 refine ⟨s1.heap.objs.size,[s1.heap.objs.size],_,_,H1,rfl,I1.kept (t':=s1.toks) fun b o e=>Heap.get?_push_of_some _ e,turn_list a _,⟨_,Heap.get?_push_size _ rfl,rfl,rfl⟩,fun b hb=>?_,q⟩
 have e:b=s1.heap.objs.size:=by simpa using hb
 subst e
 exact I1.fpOk (Nat.le_refl _) (I1.hok.fresh (Nat.le_refl _))
theorem range_it {pins:List (Addr × Obj)}{σ:St}{H:Hp}{s:Shared}{R:It→Hp→Prop}{E:Value→Shared→Prop}{lo hi:Int}{t u v:Tok}{tk:Nat}(I:Inv X pins σ H s) (h1:-(2 ^ 62)≤lo) (h2:lo < 2 ^ 62) (h3:-(2 ^ 62)≤hi) (h4:hi < 2 ^ 62)
  (q:R (Itr lo (hi - lo).toNat) H):wpAny (model X.prog X.w) X.A (pyIter (.ref s.heap.objs.size)) (PIE X pins σ tg R) E { s with heap:=s.heap.push { cls:=.type "range",data:=.fields #[.int lo t,.int hi u,.int 1 v] },toks:=tk }:=by
 refine wpAny_pyIter_range (IsRange.new ..) (small_one h1 h2 h3 h4) ?_
 have I1:Inv X pins σ H { s with heap:=s.heap.push { cls:=.type "range",data:=.fields #[.int lo t,.int hi u,.int 1 v] },toks:=tk }:=I.kept fun b o e=>Heap.get?_push_of_some _ e
 refine ⟨(s.heap.push { cls:=.type "range",data:=.fields #[.int lo t,.int hi u,.int 1 v] }).objs.size,[(s.heap.push { cls:=.type "range",data:=.fields #[.int lo t,.int hi u,.int 1 v] }).objs.size],_,_,H,rfl,
  I1.kept (t':=tk) fun b o e=>Heap.get?_push_of_some _ e,turn_range _ lo (hi - lo).toNat,?_,fun b hb=>?_,q⟩
 ·have e1:lo+((0:Nat):Int) * 1=lo:=by simp
  have e2:(((hi - lo).toNat:Nat):Int) - ((0:Nat):Int)=Builtin.Range.rangeSize lo hi 1:=by rw [rangeSize_one];split <;> omega
  show IsRangeIter _ _ (lo+((0:Nat):Int) * 1) ((((hi - lo).toNat:Nat):Int) - ((0:Nat):Int)) 1
  rw [e1,e2]
  exact Heap.get?_push_size _ rfl
 ·have e:b=(s.heap.push { cls:=.type "range",data:=.fields #[.int lo t,.int hi u,.int 1 v] }).objs.size:=by simpa using hb
  subst e
  exact I1.fpOk (Nat.le_refl _) (I1.hok.fresh (Nat.le_refl _))
def iRng1 (ta:TA):TI:=fun σ H R=>ta σ H fun vs H1=>∃ j:Int,vs=[.int j]∧-(2 ^ 62)≤j∧j < 2 ^ 62∧R (Itr 0 j.toNat) H1
theorem pi_range1 {a:Expr}{ta:TA}{p pos:Pos}(hg:Gl X "range") (hm:X.mg "range" = none) (ha:PA X [a] ta) (hs:starEach [a] X.env=[(false,eval a X.env)]:=by rfl):PI X tg (.Call (.Name "range" p) [a] [] pos) (iRng1 ta):=by
 intro pins s σ H R I h
 refine Call_ (z4t I hg hm boot_range (PyProof.Rows.callWith_type1 (thn (ha pos pins s σ H _ I h) fun us s1 ⟨vs,H1,I1,r1,q1⟩=>?_) hs rfl))
 obtain ⟨j,e,q1,q2,q⟩:=q1
 subst e
 cases r1 with
 |cons r rr =>
  cases rr
  obtain ⟨t,rfl⟩:=r
  exact call_range_1 (range_it I1 (by omega) (by omega) q1 q2 (by simpa using q))
def tFor (wi:TI) (g:TG) (tb:TS):TS:=fun D σ H=>wi σ H fun J H1=>∃ W:Nat→Nat→St→Hp→Prop,(∃ m,W 0 m σ H1)∧∀ i m σ H,W i m σ H →
 (J.stop i H∧D.nx σ H)∨(J.go i H∧∃ N:St→Hp→Prop,(∀ σ' H',N σ' H'→∃ m',m' < m∧W (i+1) m' σ' H')∧∀ x H',J.yld i H x H'→g x σ H' fun σ2 H2=>tb { D with nx:=N,ct:=N,bk:=D.nx } σ2 H2)
def z9l (fp:List Addr) (h:Heap):List (Addr × Obj):=fp.filterMap fun b=>(h.get? b).map fun o=>(b,o)
theorem z5q {fp:List Addr}{h:Heap}{b:Addr}{o:Obj}(hb:b∈fp) (e:h.get? b=some o):(b,o)∈z9l fp h:=List.mem_filterMap.mpr ⟨b,hb,by rw [e];rfl⟩
theorem of_pinsAt {fp:List Addr}{h:Heap}{p:Addr × Obj}(hp:p∈z9l fp h):p.1∈fp∧h.get? p.1=some p.2:=by
 obtain ⟨b,hb,e⟩:=List.mem_filterMap.mp hp
 cases q:h.get? b with
 |none=>rw [q] at e;cases e
 |some o =>
  rw [q] at e
  have e':(b,o)=p:=Option.some.inj e
  subst e'
  exact ⟨hb,q⟩
theorem Inv.pinned {pins:List (Addr × Obj)}{σ:St}{H:Hp}{s:Shared}{fp:List Addr}(I:Inv X pins σ H s) (hf:∀ b∈fp,FpOk X pins H b) (ho:∀ b∈fp,∃ o,s.heap.get? b=some o∧∀ v,o.data ≠ .cell v):Inv X (pins ++ z9l fp s.heap) σ H s :=
 I.pins_of fun p hp=>(List.mem_append.mp hp).elim (fun z=>I.pin p (List.mem_append_right _ z)) fun z=>by
  obtain ⟨hb,e⟩:=of_pinsAt z
  obtain ⟨f0,f1,f2,_⟩:=hf p.1 hb
  obtain ⟨o,e',d⟩:=ho p.1 hb
  rw [e] at e';cases e'
  exact ⟨e,f0,f1,f2,d⟩
theorem Inv.unpinned {pins pl:List (Addr × Obj)}{σ:St}{H:Hp}{s:Shared}(I:Inv X (pins ++ pl) σ H s):Inv X pins σ H s:=I.pins_of fun p hp=>I.pin p (List.mem_append_right _ (List.mem_append_left _ hp))
theorem ps_for {iter:Expr}{body:List Stmt}{wi:TI}{g:TG}{tb:TS}{pos:Pos}(hp:PassesOwn (model X.prog X.w) X.A X.env X.xe) (hc:X.calm=true) (hi:PI X tg iter wi) (hg:PG X tg g) (hb:PSs X body tb)
  (hs:∀ x,foldedSetIterable iter X.env x=pure x:=by intro _;rfl):PS X (.For tg iter body [] pos) (tFor wi g tb):=by
 intro pins s σ H D I h
 refine wpAny_For (thn (hi pins s σ H _ I h) fun v s1 h1=>thn h1 fun itv s2 h2=>?_) hs
 obtain ⟨it,fp,tn,J,H2,e,I2,T,st2,f2,W,⟨m0,w0⟩,turn⟩:=h2
 subst e
 have stat:∀ {H':Hp},(∀ b∈fp,H' b=none)→∀ b∈fp,FpOk X pins H' b:=fun hn b hb=>⟨hn b hb,(f2 b hb).2⟩
 refine codeAny_forLoop_any (fun n s'=>∃ i σ' H',Inv X pins σ' H' s'∧tn i s'.heap∧(∀ b∈fp,H' b=none)∧W i n σ' H') ?_ m0 ⟨0,σ,H2,I2,st2,fun b hb=>(f2 b hb).1,w0⟩
 rintro n s3 ⟨i,σ3,H3,I3,st3,fr3,w3⟩
 rcases turn i n σ3 H3 w3 with ⟨stop,qn⟩|⟨go,N,hN,step⟩
 ·refine wpAny_passesOwn hp (thn (T.done X rfl rfl rfl hc i pins s3 σ3 H3 X.xe I3 (stat fr3) st3 stop) fun r s4 ⟨hr,I4⟩=>?_)
  subst hr
  exact wpAny_execs_nil ⟨σ3,H3,I4,qn⟩
 ·refine wpAny_passesOwn hp (thn (T.item X rfl rfl rfl hc i pins s3 σ3 H3 X.xe I3 (stat fr3) st3 go) fun r s4 ⟨u,hr,h4⟩=>?_)
  subst hr
  refine wpAny_passesOwn hp (thn h4 fun _ s5 ⟨x,H5,I5,r5,y5,st5,fr5⟩=>?_)
  have I5':=I5.pinned (stat fr5) (T.obj _ _ st5)
  refine wpAny_passesOwn hp (thn (hg _ s5 σ3 H5 x u _ I5' r5 (step x H5 y5)) fun _ s6 ⟨σ6,H6,I6,q6⟩=>?_)
  refine wpAny_passesOwn hp (thn (hb _ s6 σ6 H6 _ I6 q6) fun f s7 q7=>?_)
  have again:∀ {σ7:St}{H7:Hp},Inv X (pins ++ z9l fp s5.heap) σ7 H7 s7→N σ7 H7→∃ m,m < n∧∃ i σ' H',Inv X pins σ' H' s7∧tn i s7.heap∧(∀ b∈fp,H' b=none)∧W i m σ' H':=fun {σ7 H7} I7 n7=>by
   obtain ⟨m',hm,w7⟩:=hN σ7 H7 n7
   refine ⟨m',hm,i+1,σ7,H7,I7.unpinned,T.keep _ _ _ st5 fun b hb o e=>(I7.pin (b,o) (List.mem_append_right _ (List.mem_append_right _ (z5q hb e)))).1,fun b hb=>?_,w7⟩
   obtain ⟨o,e,d⟩:=T.obj _ _ st5 b hb
   exact (I7.pin (b,o) (List.mem_append_right _ (List.mem_append_right _ (z5q hb e)))).2.1
  cases f with
  |next=>obtain ⟨σ7,H7,I7,n7⟩:=q7;exact again I7 n7
  |cont=>obtain ⟨σ7,H7,I7,n7⟩:=q7;exact again I7 n7
  |brk=>obtain ⟨σ7,H7,I7,q7⟩:=q7;exact ⟨σ7,H7,I7.unpinned,q7⟩
  |ret v=>obtain ⟨x7,σ7,H7,I7,r7,q7⟩:=q7;exact ⟨x7,σ7,H7,I7.unpinned,r7,q7⟩
end
theorem for_list {K:PySem.W.Frag}{a:Addr}{xs:List V}{g:TG}{tb:TS}{D:Ends}{σ:St}{H:Hp}(Pv:Nat→St→Hp→Prop) (h0:Pv 0 σ H) (hl:∀ i σ H,i≤xs.length→Pv i σ H→SqL K H a xs)
  (hs:∀ i x σ H,xs[i]? = some x→Pv i σ H→g x σ H fun σ2 H2=>tb { D with nx:=Pv (i+1),ct:=Pv (i+1),bk:=D.nx } σ2 H2) (hd:∀ σ H,Pv xs.length σ H→D.nx σ H) :
  ∃ W:Nat→Nat→St→Hp→Prop,(∃ m,W 0 m σ H)∧∀ i m σ H,W i m σ H →
   ((Itl K a).stop i H∧D.nx σ H)∨((Itl K a).go i H∧∃ N:St→Hp→Prop,(∀ σ' H',N σ' H'→∃ m',m' < m∧W (i+1) m' σ' H')∧∀ x H',(Itl K a).yld i H x H'→g x σ H' fun σ2 H2=>tb { D with nx:=N,ct:=N,bk:=D.nx } σ2 H2):=by
 refine ⟨fun i m σ H=>m=xs.length - i∧i≤xs.length∧Pv i σ H,⟨xs.length,by simp,Nat.zero_le _,h0⟩,?_⟩
 rintro i m σ H ⟨rfl,hi,p⟩
 have q:=hl i σ H hi p
 by_cases hlt:i < xs.length
 ·refine .inr ⟨⟨xs,xs[i],q,by simp [hlt]⟩,Pv (i+1),fun σ' H' p'=>⟨xs.length - (i+1),by omega,rfl,hlt,p'⟩,fun x H' y=>?_⟩
  obtain ⟨e,y⟩:=y
  subst e
  exact hs i x σ _ (y xs q) p
 ·have e:i=xs.length:=by omega
  subst e
  exact .inl ⟨⟨xs,q,Nat.le_refl _⟩,hd σ H p⟩
end L2
namespace L2
open PySem PySem.Spec PyProof.Rows
abbrev R2:=V→V→Hp→VK→Prop
def OpR (X:Cx) (f:Value→Value→Sem Value) (r:R2):Prop :=
 ∀ (pins:List (Addr × Obj)) (s:Shared) (σ:St) (H:Hp) (x y:V) (v u:Value) (Q:VK),Inv X pins σ H s→RelV x v→RelV y u→r x y H Q →
  wpAny (model X.prog X.w) X.A (f v u) (EP X pins σ Q) X.xe s
def UnR (X:Cx) (f:Value→Sem Value) (r:V→Hp→VK→Prop):Prop :=
 ∀ (pins:List (Addr × Obj)) (s:Shared) (σ:St) (H:Hp) (x:V) (v:Value) (Q:VK),Inv X pins σ H s→RelV x v→r x H Q →
  wpAny (model X.prog X.w) X.A (f v) (EP X pins σ Q) X.xe s
def z6d (X:Cx) (f:Value) (r:List V→Hp→VK→Prop):Prop :=
 ∀ (pins:List (Addr × Obj)) (s:Shared) (σ:St) (H:Hp) (xs:List V) (us:List Value) (Q:VK),Inv X pins σ H s→Vals xs us→r xs H Q →
  wpAny (model X.prog X.w) X.A (call f us) (EP X pins σ Q) X.xe s
def TruR (X:Cx) (r:V→Hp→(Bool→Hp→Prop)→Prop):Prop :=
 ∀ (pins:List (Addr × Obj)) (s:Shared) (σ:St) (H:Hp) (x:V) (v:Value) (Q:Bool→Hp→Prop),Inv X pins σ H s→RelV x v→r x H Q →
  wpAny (model X.prog X.w) X.A (truthy v) (TP X pins σ Q) X.xe s
def tOp (r:R2) (ta tb:TE):TE:=fun σ H Q=>ta σ H fun x H1=>tb σ H1 fun y H2=>r x y H2 Q
def tUn (r:V→Hp→VK→Prop) (ta:TE):TE:=fun σ H Q=>ta σ H fun x H1=>r x H1 Q
def rI (C:Int→Int→Prop) (g:Int→Int→V):R2:=fun x y H Q=>∃ i j,x = .int i∧y = .int j∧C i j∧Q (g i j) H
def rI0 (g:Int→Int→V):R2:=fun x y H Q=>∃ i j,x = .int i∧y = .int j∧Q (g i j) H
def rU (g:Int→V):V→Hp→VK→Prop:=fun x H Q=>∃ i,x = .int i∧Q (g i) H
section
variable {X:Cx}{a b c:Expr}{ta tb tc:TE}{pos:Pos}
theorem binT (ha:PE X a ta) (hb:PE X b tb) {pins:List (Addr × Obj)}{s:Shared}{σ:St}{H:Hp}{R:V→V→Hp→Prop}(I:Inv X pins σ H s)
  (h:ta σ H fun x H1=>tb σ H1 fun y H2=>R x y H2) {Q:Value→Shared→Prop}{f:Value→Value→Sem Value}
  (hf:∀ v u s2 x y H2,Inv X pins σ H2 s2→RelV x v→RelV y u→R x y H2→wpAny (model X.prog X.w) X.A (f v u) Q X.xe s2) :
  wpAny (model X.prog X.w) X.A (eval a X.env) (fun v s₁=>wpAny (model X.prog X.w) X.A (eval b X.env) (fun u s₂=>wpAny (model X.prog X.w) X.A (f v u) Q X.xe s₂) X.xe s₁) X.xe s:=by
 refine thn (ha pins s σ H _ I h) fun v s1 ⟨x,H1,I1,r1,q1⟩=>?_
 refine thn (hb pins s1 σ H1 _ I1 q1) fun u s2 ⟨y,H2,I2,r2,q2⟩=>?_
 exact hf v u s2 x y H2 I2 r1 r2 q2
theorem y5m {op:Operator}{r:R2}(ho:OpR X (binaryOp op) r) (ha:PE X a ta) (hb:PE X b tb):PE X (.BinOp a op b pos) (tOp r ta tb):=by
 intro pins s σ H Q I h
 exact wpAny_BinOp (binT ha hb I h fun v u s2 x y H2 I2 rx ry q=>ho pins s2 σ H2 x y v u Q I2 rx ry q)
theorem pe_un {op:UnaryOp}{r:V→Hp→VK→Prop}(ho:UnR X (unaryOp op) r) (ha:PE X a ta):PE X (.UnaryOp op a pos) (tUn r ta):=by
 intro pins s σ H Q I h
 exact UnaryOp_ (thn (ha pins s σ H _ I h) fun v s1 ⟨x,H1,I1,r1,q1⟩=>ho pins s1 σ H1 x v Q I1 r1 q1)
theorem opI {f:Value→Value→Sem Value}{C:Int→Int→Prop}{g:Int→Int→Int}
  (rule:∀ (i j:Int) (t u:Tok) (s:Shared) (Q:Value→Shared→Prop) (E:Value→Shared→Prop),C i j→Q (.int (g i j) s.toks) { s with toks:=s.toks+1 }→wpAny (model X.prog X.w) X.A (f (.int i t) (.int j u)) Q E s) :
  OpR X f (rI C fun i j=>.int (g i j)):=by
 intro pins s σ H x y v u Q I rx ry h
 obtain ⟨i,j,rfl,rfl,hc,q⟩:=h
 obtain ⟨t,rfl⟩:=rx
 obtain ⟨t',rfl⟩:=ry
 exact rule i j t t' s _ _ hc ⟨.int (g i j),H,I.tok _,⟨_,rfl⟩,q⟩
theorem opI0 {f:Value→Value→Sem Value}{g:Int→Int→Int}
  (rule:∀ (i j:Int) (t u:Tok) (s:Shared) (Q:Value→Shared→Prop) (E:Value→Shared→Prop),Q (.int (g i j) s.toks) { s with toks:=s.toks+1 }→wpAny (model X.prog X.w) X.A (f (.int i t) (.int j u)) Q E s) :
  OpR X f (rI0 fun i j=>.int (g i j)):=by
 intro pins s σ H x y v u Q I rx ry h
 obtain ⟨i,j,rfl,rfl,q⟩:=h
 obtain ⟨t,rfl⟩:=rx
 obtain ⟨t',rfl⟩:=ry
 exact rule i j t t' s _ _ ⟨.int (g i j),H,I.tok _,⟨_,rfl⟩,q⟩
theorem opB0 {f:Value→Value→Sem Value}{g:Int→Int→Bool}
  (rule:∀ (i j:Int) (t u:Tok) (s:Shared) (Q:Value→Shared→Prop) (E:Value→Shared→Prop),Q (.bool (g i j)) s→wpAny (model X.prog X.w) X.A (f (.int i t) (.int j u)) Q E s) :
  OpR X f (rI0 fun i j=>.bl (g i j)):=by
 intro pins s σ H x y v u Q I rx ry h
 obtain ⟨i,j,rfl,rfl,q⟩:=h
 obtain ⟨t,rfl⟩:=rx
 obtain ⟨t',rfl⟩:=ry
 exact rule i j t t' s _ _ ⟨.bl (g i j),H,I,rfl,q⟩
def CMul (i j:Int):Prop:=(-(2 ^ 64) < i∧i < 2 ^ 64)∨(-(2 ^ 64) < j∧j < 2 ^ 64)
theorem CMul.ok {i j:Int}(h:CMul i j):IntMulOk i j:=by
 rcases h with ⟨h1,h2⟩|⟨h1,h2⟩
 ·exact .of_left (intBits_le_64 h1 h2)
 ·exact .of_right (intBits_le_64 h1 h2)
theorem z3k:OpR X (binaryOp .Add) (rI0 fun i j=>.int (i+j)):=opI0 fun _ _ _ _ _ _ _ q=>add_int q
theorem op_sub:OpR X (binaryOp .Sub) (rI0 fun i j=>.int (i - j)):=opI0 fun _ _ _ _ _ _ _ q=>sub_int q
theorem z7h:OpR X (binaryOp .Mult) (rI CMul fun i j=>.int (i * j)):=opI fun _ _ _ _ _ _ _ hc q=>mul_int q hc.ok
theorem z1r:OpR X (binaryOp .Mod) (rI (fun _ j=>0 < j) fun i j=>.int (i % j)):=opI fun i j _ _ _ _ _ hc q=>by
 have h1:(0:Int) < j:=hc
 exact mod_int' (by omega) (by rw [Int.fmod_eq_emod_of_nonneg i (by omega)];exact q)
theorem unI {f:Value→Sem Value}{g:Int→Int}
  (rule:∀ (i:Int) (t:Tok) (s:Shared) (Q:Value→Shared→Prop) (E:Value→Shared→Prop),Q (.int (g i) s.toks) { s with toks:=s.toks+1 }→wpAny (model X.prog X.w) X.A (f (.int i t)) Q E s) :
  UnR X f (rU fun i=>.int (g i)):=by
 intro pins s σ H x v Q I rx h
 obtain ⟨i,rfl,q⟩:=h
 obtain ⟨t,rfl⟩:=rx
 exact rule i t s _ _ ⟨.int (g i),H,I.tok _,⟨_,rfl⟩,q⟩
theorem un_neg:UnR X (unaryOp .USub) (rU fun i=>.int (-i)):=unI fun _ _ _ _ _ q=>neg_int q
end
def scal:V→V→Bool
 |.non,.non=>true | .non,.int _=>true | .int _,.non=>true | .non,.bl _=>true | .bl _,.non=>true | .non,.str _=>true | .str _,.non=>true
 |.int _,.int _=>true | .bl _,.bl _=>true | .str _,.str _=>true | .byt _,.byt _=>true
 |.int _,.str _=>true | .str _,.int _=>true | .bl _,.str _=>true | .str _,.bl _=>true
 |_,_=>false
def rEq:R2:=fun x y H Q=>scal x y=true∧Q (.bl (decide (x=y))) H
def rNe:R2:=fun x y H Q=>scal x y=true∧Q (.bl (!decide (x=y))) H
theorem dec_int {i j:Int}:decide (V.int i=V.int j)=(i == j):=by
 rw [Bool.eq_iff_iff]
 simp
theorem dec_bl {i j:Bool}:decide (V.bl i=V.bl j)=(i == j):=by
 rw [Bool.eq_iff_iff]
 simp
theorem dec_str {i j:Str}:decide (V.str i=V.str j)=(i == j):=by
 rw [Bool.eq_iff_iff]
 simp
theorem dec_byt {i j:Array UInt8}:decide (V.byt i=V.byt j)=(i.toList == j.toList):=by
 rw [Bool.eq_iff_iff]
 cases i
 cases j
 simp
section
variable {X:Cx}{a b c:Expr}{ta tb tc:TE}{pos:Pos}
theorem z1o {pins:List (Addr × Obj)}{σ:St}{H:Hp}{s:Shared}{Q:VK}{k k':Bool}(I:Inv X pins σ H s) (q:Q (.bl k) H) (e:k=k'):EP X pins σ Q (.bool k') s:=by
 subst e
 exact ⟨.bl k,H,I,rfl,q⟩
theorem z1w:OpR X (compareOp .Eq) rEq:=by
 intro pins s σ H x y v u Q I rx ry h
 obtain ⟨hs,q⟩:=h
 cases x with
 |non =>
  cases rx
  cases y with
  |non=>cases ry;exact PySem.EqNone.eq_none_none (z1o I q (by simp))
  |bl j=>cases ry;exact PySem.EqNone.eq_none_bool (z1o I q (by simp))
  |int j=>obtain ⟨t',rfl⟩:=ry;exact PySem.EqNone.eq_none_int (z1o I q (by simp))
  |str j=>obtain ⟨t',rfl⟩:=ry;exact PySem.EqNone.eq_none_str (z1o I q (by simp))
  |_=>exact absurd (show false=true from hs) Bool.false_ne_true
 |bl i =>
  cases rx
  cases y with
  |non=>cases ry;exact PySem.EqNone.eq_bool_none (z1o I q (by simp))
  |bl j=>cases ry;exact eq_bool (z1o I q dec_bl)
  |str j=>obtain ⟨t',rfl⟩:=ry;exact PySem.EqMixed.eq_bool_str (z1o I q (by simp))
  |_=>exact absurd (show false=true from hs) Bool.false_ne_true
 |int i =>
  obtain ⟨t,rfl⟩:=rx
  cases y with
  |non=>cases ry;exact PySem.EqNone.eq_int_none (z1o I q (by simp))
  |int j=>obtain ⟨t',rfl⟩:=ry;exact eq_int (z1o I q dec_int)
  |str j=>obtain ⟨t',rfl⟩:=ry;exact PySem.EqMixed.eq_int_str (z1o I q (by simp))
  |_=>exact absurd (show false=true from hs) Bool.false_ne_true
 |str i =>
  obtain ⟨t,rfl⟩:=rx
  cases y with
  |non=>cases ry;exact PySem.EqNone.eq_str_none (z1o I q (by simp))
  |bl j=>cases ry;exact PySem.EqMixed.eq_str_bool (z1o I q (by simp))
  |int j=>obtain ⟨t',rfl⟩:=ry;exact PySem.EqMixed.eq_str_int (z1o I q (by simp))
  |str j=>obtain ⟨t',rfl⟩:=ry;exact eq_str (z1o I q dec_str)
  |_=>exact absurd (show false=true from hs) Bool.false_ne_true
 |byt i =>
  obtain ⟨t,rfl⟩:=rx
  cases y with
  |byt j=>obtain ⟨t',rfl⟩:=ry;exact PySem.W.eq_bytes (z1o I q dec_byt)
  |_=>exact absurd (show false=true from hs) Bool.false_ne_true
 |_=>cases y <;> exact absurd (show false=true from hs) Bool.false_ne_true
theorem op_ne:OpR X (compareOp .NotEq) rNe:=by
 intro pins s σ H x y v u Q I rx ry h
 obtain ⟨hs,q⟩:=h
 cases x with
 |non =>
  cases rx
  cases y with
  |non=>cases ry;exact PySem.EqNone.ne_none_none (z1o I q (by simp))
  |bl j=>cases ry;exact PySem.EqNone.ne_none_bool (z1o I q (by simp))
  |int j=>obtain ⟨t',rfl⟩:=ry;exact PySem.EqNone.ne_none_int (z1o I q (by simp))
  |str j=>obtain ⟨t',rfl⟩:=ry;exact PySem.EqNone.ne_none_str (z1o I q (by simp))
  |_=>exact absurd (show false=true from hs) Bool.false_ne_true
 |bl i =>
  cases rx
  cases y with
  |non=>cases ry;exact PySem.EqNone.ne_bool_none (z1o I q (by simp))
  |bl j=>cases ry;exact ne_bool (z1o I q (congrArg not dec_bl))
  |str j=>obtain ⟨t',rfl⟩:=ry;exact PySem.EqMixed.ne_bool_str (z1o I q (by simp))
  |_=>exact absurd (show false=true from hs) Bool.false_ne_true
 |int i =>
  obtain ⟨t,rfl⟩:=rx
  cases y with
  |non=>cases ry;exact PySem.EqNone.ne_int_none (z1o I q (by simp))
  |int j=>obtain ⟨t',rfl⟩:=ry;exact ne_int (z1o I q (congrArg not dec_int))
  |str j=>obtain ⟨t',rfl⟩:=ry;exact PySem.EqMixed.ne_int_str (z1o I q (by simp))
  |_=>exact absurd (show false=true from hs) Bool.false_ne_true
 |str i =>
  obtain ⟨t,rfl⟩:=rx
  cases y with
  |non=>cases ry;exact PySem.EqNone.ne_str_none (z1o I q (by simp))
  |bl j=>cases ry;exact PySem.EqMixed.ne_str_bool (z1o I q (by simp))
  |int j=>obtain ⟨t',rfl⟩:=ry;exact PySem.EqMixed.ne_str_int (z1o I q (by simp))
  |str j=>obtain ⟨t',rfl⟩:=ry;exact ne_str (z1o I q (congrArg not dec_str))
  |_=>exact absurd (show false=true from hs) Bool.false_ne_true
 |byt i =>
  obtain ⟨t,rfl⟩:=rx
  cases y with
  |byt j=>obtain ⟨t',rfl⟩:=ry;exact PySem.W.ne_bytes (z1o I q (congrArg not dec_byt))
  |_=>exact absurd (show false=true from hs) Bool.false_ne_true
 |_=>cases y <;> exact absurd (show false=true from hs) Bool.false_ne_true
theorem op_lt:OpR X (compareOp .Lt) (rI0 fun i j=>.bl (decide (i < j))):=opB0 fun _ _ _ _ _ _ _ q=>lt_int q
theorem op_gt:OpR X (compareOp .Gt) (rI0 fun i j=>.bl (decide (j < i))):=opB0 fun _ _ _ _ _ _ _ q=>gt_int q
theorem op_ge:OpR X (compareOp .GtE) (rI0 fun i j=>.bl (decide (j≤i))):=opB0 fun _ _ _ _ _ _ _ q=>ge_int q
theorem op_isN:OpR X (compareOp .Is) (fun x y H Q=>y = .non∧Q (.bl (decide (x = .non))) H):=by
 intro pins s σ H x y v u Q I rx ry h
 obtain ⟨rfl,q⟩:=h
 cases ry
 refine is_none_gen (z1o I q ?_)
 cases x <;> first
  |(cases rx;rfl)
  |(obtain ⟨t,rfl⟩:=rx;rfl)
theorem y4s:OpR X (compareOp .IsNot) (fun x y H Q=>y = .non∧Q (.bl (!decide (x = .non))) H):=by
 intro pins s σ H x y v u Q I rx ry h
 obtain ⟨rfl,q⟩:=h
 cases ry
 refine isnot_none_gen (z1o I q ?_)
 cases x <;> first
  |(cases rx;rfl)
  |(obtain ⟨t,rfl⟩:=rx;rfl)
theorem z0p (b:Expr) {op:CmpOp}(h:op ≠ .In:=by decide) (h2:op ≠ .NotIn:=by decide):behindInMarks op b=false:=by
 have e1:(op == CmpOp.In)=false:=by cases op <;> first|rfl|exact absurd rfl h
 have e2:(op == CmpOp.NotIn)=false:=by cases op <;> first|rfl|exact absurd rfl h2
 cases b <;> simp [behindInMarks,e1,e2]
theorem z7a {op:CmpOp}{r:R2}(ho:OpR X (compareOp op) r) (ha:PE X a ta) (hb:PE X b tb) (hm:behindInMarks op b=false):PE X (.Compare a [op] [b] pos) (tOp r ta tb):=by
 intro pins s σ H Q I h
 exact wpAny_Compare1 (binT ha hb I h fun v u s2 x y H2 I2 rx ry q=>ho pins s2 σ H2 x y v u Q I2 rx ry q) hm
def y2n (t:TE):TT:=fun σ H Q=>t σ H fun x H'=>∃ k,x = .bl k∧Q k H'
theorem z1f {op:CmpOp}{r:R2}(ho:OpR X (compareOp op) r) (ha:PE X a ta) (hb:PE X b tb) (hm:behindInMarks op b=false):PT X (.Compare a [op] [b] pos) (y2n (tOp r ta tb)):=by
 intro pins s σ H Q I h
 refine wpAny_isTrue_Compare1 (thn (ha pins s σ H _ I h) fun v s1 ⟨x,H1,I1,r1,q1⟩=>thn (hb pins s1 σ H1 _ I1 q1) fun u s2 ⟨y,H2,I2,r2,q2⟩ =>
  thn (ho pins s2 σ H2 x y v u _ I2 r1 r2 q2) fun c s3 ⟨z,H3,I3,r3,k,e,q3⟩=>?_) hm
 subst e
 cases r3
 exact wpAny_truthy_bool ⟨H3,I3,q3⟩
def TruV (K:PySem.W.Frag) (x:V) (H:Hp) (k:Bool):Prop :=
 match x with
 |.non=>k=false
 |.bl b=>k=b
 |.int i=>k=(i != 0)
 |.str y=>y.length≤sizeLine∧k=((y.length:Int) != 0)
 |.byt y=>y.size≤sizeLine∧k=((y.size:Int) != 0)
 |.ref p=>(∃ xs,SqL K H p xs∧k = !xs.isEmpty)∨(∃ xs,SqT K H p xs∧k = !xs.isEmpty) ∨ ∃ kvs,H p=some (.dK kvs)∧k = !kvs.isEmpty
 |_=>False
theorem isEmpty_kv {κ:Type}{kvs:List (κ × V)}{vs:List (κ × Value)}(r:KV kvs vs):(!vs.isEmpty) = !kvs.isEmpty:=by
 cases r <;> rfl
theorem z9u {xs:List V}{its:List Value}(r:Vals xs its):(!its.toArray.isEmpty) = !xs.isEmpty:=by
 cases r <;> simp
theorem z8v:(sizeLine:Nat) < 2 ^ 63:=by rw [sizeLine_eq];decide
theorem tru_ok:TruR X (fun x H Q=>∃ k,TruV X.K x H k∧Q k H):=by
 intro pins s σ H x v Q I rx h
 obtain ⟨k,e,q⟩:=h
 have hl:=z8v
 have hs:sizeLine=16777216:=sizeLine_eq
 cases x with
 |non =>
  cases rx
  have e':k=false:=e
  subst e'
  exact truthy_none ⟨H,I,q⟩
 |bl b =>
  cases rx
  have e':k=b:=e
  subst e'
  exact wpAny_truthy_bool ⟨H,I,q⟩
 |int i =>
  obtain ⟨t,rfl⟩:=rx
  have e':k=(i != 0):=e
  subst e'
  exact PySem.P.truthy_int ⟨H,I,q⟩
 |str y =>
  obtain ⟨t,rfl⟩:=rx
  obtain ⟨hy,e'⟩:y.length≤sizeLine∧k=((y.length:Int) != 0):=e
  subst e'
  exact PySem.P.truthy_str (by omega) ⟨H,I.tok _,q⟩
 |byt y =>
  obtain ⟨t,rfl⟩:=rx
  obtain ⟨hy,e'⟩:y.size≤sizeLine∧k=((y.size:Int) != 0):=e
  subst e'
  exact PySem.W.truthy_bytes (by omega) ⟨H,I.tok _,q⟩
 |ref p =>
  cases rx
  have e':(∃ xs,SqL X.K H p xs∧k = !xs.isEmpty)∨(∃ xs,SqT X.K H p xs∧k = !xs.isEmpty) ∨ ∃ kvs,H p=some (.dK kvs)∧k = !kvs.isEmpty:=e
  rcases e' with ⟨xs,hx,e'⟩|⟨xs,hx,e'⟩|⟨kvs,hx,e'⟩
  ·subst e'
   obtain ⟨its,r,pl,hz⟩:=I.list hx
   have hlen:=r.length
   exact wpAny_truthy_list pl.isList (by simp only [List.size_toArray];omega) ⟨H,I.tok _,by rw [z9u r];exact q⟩
  ·subst e'
   obtain ⟨its,r,pl,hz⟩:=I.tuple hx
   have hlen:=r.length
   exact truthy_tuple pl (by simp only [List.size_toArray];omega) ⟨H,I.tok _,by rw [z9u r];exact q⟩
  ·subst e'
   obtain ⟨hz,hS,vs,r,m⟩:kvs.length≤sizeLine∧(p == sysModules)=false∧∃ vs,KV kvs vs∧s.heap.DictOf (z1t X.prog X.w) p vs:=I.hok p _ hx
   have hlen:kvs.length=vs.length:=Paired.length r
   exact wpAny_truthy_dict hS m (by omega) ⟨H,I.tok _,by rw [isEmpty_kv r];exact q⟩
 |_=>exact (show False from e).elim
theorem y1r (ha:PE X a ta) (he:∀ whole,isTrue a X.env whole=(do let v ← whole;standAt a.pos;holding [v] (truthy v))) :
  PT X a (fun σ H Q=>ta σ H fun x H'=>∃ k,TruV X.K x H' k∧Q k H'):=by
 intro pins s σ H Q I h
 exact isTrue_plain (thn (ha pins s σ H _ I h) fun v s1 ⟨x,H1,I1,r1,q1⟩=>tru_ok pins s1 σ H1 x v Q I1 r1 q1) (he _)
theorem y0e:OpR X (binaryOp .Add) (fun x y H Q=>∃ i j,x = .str i∧y = .str j∧i.length+j.length≤sizeLine∧Q (.str (i ++ j)) H):=by
 intro pins s σ H x y v u Q I rx ry h
 obtain ⟨i,j,rfl,rfl,hz,q⟩:=h
 obtain ⟨t,rfl⟩:=rx
 obtain ⟨t',rfl⟩:=ry
 exact add_str (fun t' tk=>⟨.str (i ++ j),H,I.tok _,⟨_,rfl⟩,q⟩) hz
theorem z9d {x:V}{us:List Value}(r:Vals [x] us):∃ u,us=[u]∧RelV x u:=by
 cases r with
 |cons r1 r2=>cases r2;exact ⟨_,rfl,r1⟩
theorem vals2 {x y:V}{us:List Value}(r:Vals [x,y] us):∃ u w',us=[u,w']∧RelV x u∧RelV y w':=by
 cases r with
 |cons r1 r2 =>
  cases r2 with
  |cons r3 r4=>cases r4;exact ⟨_,_,rfl,r1,r3⟩
theorem z8m:z6d X (.type "int") (fun xs H Q=>(∃ i,xs=[.int i]∧Q (.int i) H) ∨ ∃ k,xs=[.bl k]∧Q (.int (if k then 1 else 0)) H):=by
 intro pins s σ H xs us Q I r h
 rcases h with ⟨i,rfl,q⟩|⟨k,rfl,q⟩
 ·obtain ⟨u,rfl,t,rfl⟩:=z9d r
  exact call_int_int ⟨.int i,H,I,⟨_,rfl⟩,q⟩
 ·obtain ⟨u,rfl,r1⟩:=z9d r
  cases r1
  exact call_int_bool ⟨.int (if k then 1 else 0),H,I.tok _,⟨_,rfl⟩,q⟩
end
end L2
namespace L2
open PySem PySem.Spec PyProof.Rows
structure ObjM (h:Heap) (x dx C:Addr) (mA:Str→Option Value):Prop where
 obj:h.get? x=some (PySem.W.instObj C dx)
 ns:h.Ns1 dx mA
 ne:dx≠x
theorem lookIn_ns {h:Heap}{dx:Addr}{mA:Str→Option Value}(n:h.Ns1 dx mA):∃ od,h.get? dx=some od∧∀ name,PySem.W.lookIn name od=some (mA name):=by
 obtain ⟨o,es,ep,ho,hd,hk,_,hm⟩:=n
 refine ⟨o,ho,fun name=>?_⟩
 have e:=hm name
 unfold nsFind findBy at e
 rw [← Array.find?_toList] at e
 unfold PySem.W.lookIn
 rw [hd]
 dsimp only
 split
 ·rename_i y q
  rw [q] at e
  exact congrArg some e
 ·rename_i q
  rw [q] at e
  have a:es.toList.any (·.refKey)=false:=by
   rw [List.any_eq_false]
   intro y hy
   obtain ⟨z,t,hkey⟩:=hk y (Array.mem_toList_iff.mp hy)
   simp [DictEntry.refKey,hkey]
  have a':¬ es.toList.any (·.refKey)=true:=by rw [a];exact Bool.false_ne_true
  rw [if_neg a']
  exact congrArg some e
theorem ObjM.look {h:Heap}{x dx C:Addr}{mA:Str→Option Value}(I:ObjM h x dx C mA):∃ od,PySem.W.InstAt h x (PySem.W.instObj C dx) C (some od)∧∀ name,PySem.W.lookIn name od=some (mA name) :=
 let ⟨od,ho,hl⟩:=lookIn_ns I.ns
 ⟨od,⟨I.obj,rfl,rfl,ho⟩,hl⟩
section
variable {prog:Program}{w:World}{A:Around}{E:Value→Shared→Prop}{s:Shared}{K:PySem.W.Frag}{x dx C f:Addr}{mA:Str→Option Value}{name:Str}{v:Value}
end
theorem RelO.some_of {v:V}{o:Option Value}(r:RelO (some v) o):∃ u,o=some u∧RelV v u:=by
 cases o with
 |none=>exact (show False from r).elim
 |some u=>exact ⟨u,rfl,r⟩
section
variable {P:Program}{w:World}{H H':Hp}{h h':Heap}{a C dx:Addr}{fs fs':List (Str × V)}
theorem ins_get (hok:HOk P w H h) (e:H a=some (.ins C dx fs)):∃ mA,ObjM h a dx C mA∧(∀ f,RelO (fs.lookup f) (mA f))∧PySem.Within mA (fs.map (·.1))∧fs.length≤1000∧H dx=some (.own a):=by
 obtain ⟨d,z,ne,ob,mA,n,r,q⟩:=(show ObjOk P w H h a (.ins C dx fs) from hok a _ e)
 exact ⟨mA,⟨ob,n,ne⟩,r,q,z,d⟩
end
structure Cls (K:PySem.W.Frag) (C:Addr):Prop where
 pg:PySem.W.plainGet K C Str.empty=true
 hd:PySem.W.hasDictIn K C=true
 po:PySem.W.plainOver K C=true
 sa:PySem.W.findIn K (.ref C) "__setattr__" = some (some (.builtin "object.__setattr__"))
theorem Cls.get {K:PySem.W.Frag}{C:Addr}(c:Cls K C) (f:Str):PySem.W.plainGet K C f=true:=c.pg
structure Con (K:PySem.W.Frag) (C:Addr) (f:Str) (v:V) (u:Value):Prop where
 at_:PySem.W.findIn K (.ref C) f=some (some u)
 rel:RelV v u
 get:PySem.W.specialIn K u "__get__" = some none
 cp:PySem.W.copiedNames.contains f=false
structure Meth (K:PySem.W.Frag) (C:Addr) (m:Str) (f:Addr):Prop where
 at_:PySem.W.findIn K (.ref C) m=some (some (.ref f))
 fn:PySem.W.isFn K (.ref f)=true
 kp:PySem.W.keepIn K (.ref f)=true
section
variable {X:Cx}{pins:List (Addr × Obj)}{σ:St}{H:Hp}{s:Shared}{a C dx:Addr}{fs:List (Str × V)}{f:Str}{v:V}{A:Around}{E:Value→Shared→Prop}
theorem attr_of {prog:Program}{w:World}{env:Env}{e:Expr}{f:Str}{pos:Pos}{s:Shared}{Q:Value→Shared→Prop}(hb:attributeBase e f env (eval e env)=eval e env)
  (h:wpAny (model prog w) A (eval e env) (fun o s₁=>wpAny (model prog w) A (getAttr o f true) Q E s₁) E s):wpAny (model prog w) A (eval (.Attribute e f pos) env) Q E s :=
 Attribute_any_ h (by rw [arm_eval_Attribute,hb])
end
section
variable {X:Cx}{o e value:Expr}{f:Str}{pos pos' tpos:Pos}{ta tv:TE}
end
section
variable {X:Cx}{pins:List (Addr × Obj)}{σ:St}{H:Hp}{s:Shared}{A:Around}{E:Value→Shared→Prop}{Q:Value→Shared→Prop}{c:Value}{b:Bool}
inductive TyOf (K:PySem.W.Frag) (H:Hp):V→Value→Prop where
 |non:TyOf K H .non (.type "NoneType")
 |bl (x:Bool):TyOf K H (.bl x) (.type "bool")
 |int (i:Int):TyOf K H (.int i) (.type "int")
 |str (x:Str):TyOf K H (.str x) (.type "str")
 |flt (x:UInt64):TyOf K H (.flt x) (.type "float")
 |lst {a:Addr}{xs:List V}(e:H a=some (.lst xs)):TyOf K H (.ref a) (.type "list")
 |frz {a:Addr}{o:Obj}{xs:List V}(e:H a=some (.frz o (.lst xs))):TyOf K H (.ref a) (.type "list")
 |tup {a:Addr}{xs:List V}(e:H a=some (.tup xs)):TyOf K H (.ref a) (.type "tuple")
 |dK {a:Addr}{kvs:List (Key × V)}(e:H a=some (.dK kvs)):TyOf K H (.ref a) (.type "dict")
 |dT {a:Addr}{kvs:List (List Key × V)}(e:H a=some (.dT kvs)):TyOf K H (.ref a) (.type "dict")
 |ins {a C dx:Addr}{fs:List (Str × V)}(e:H a=some (.ins C dx fs)) (cl:Cls K C) (ha:PySem.W.findIn K (.ref C) "__class__" = some (some (.builtin "object.__class__")))
   (hn:PySem.W.specialIn K (.builtin "object.__class__") "__get__" = some (some (.builtin "getset_descriptor.__get__"))) (htk:PySem.W.takesIn K (.builtin "object.__class__")=some true)
   (hm:PySem.W.mroIn K C (.type "object")=some true):TyOf K H (.ref a) (.ref C)
theorem isinst_ok {x:V}{u t:Value}(I:Inv X pins σ H s) (rx:RelV x u) (ty:TyOf X.K H x t) (e:PySem.W.kitOne X.K t c=some b) (h:∀ tk,Q (.bool b) { s with toks:=tk }) :
  wpAny (model X.prog X.w) A (call (.builtin "isinstance") [u,c]) Q E s:=by
 cases ty with
 |non=>cases (show u=Value.none from rx);exact PySem.W.kia_one PySem.W.kitx_none I.kIn True.intro e (fun z=>nomatch z) h
 |bl y=>cases (show u=Value.bool y from rx);exact PySem.W.kia_one PySem.W.kitx_bool I.kIn True.intro e (fun z=>nomatch z) h
 |int i=>obtain ⟨t,q⟩:=(show ∃ t,u=Value.int i t from rx);cases q;exact PySem.W.kia_one PySem.W.kitx_int I.kIn True.intro e (fun z=>nomatch z) h
 |str y=>obtain ⟨t,q⟩:=(show ∃ t,u=Value.str y t from rx);cases q;exact PySem.W.kia_one PySem.W.kitx_str I.kIn True.intro e (fun z=>nomatch z) h
 |flt y=>obtain ⟨t,q⟩:=(show ∃ t,u=Value.float y t from rx);cases q;exact PySem.W.kia_one PySem.W.kitx_float I.kIn True.intro e (fun z=>nomatch z) h
 | @lst a xs ea =>
  cases (show u=Value.ref a from rx)
  obtain ⟨_,_,n,_,h1⟩:=(show ObjOk X.prog X.w H s.heap a (.lst xs) from I.hok a _ ea)
  exact PySem.W.kia_one PySem.W.kitx_list I.kIn ⟨_,h1,rfl⟩ e (fun z=>nomatch z) h
 | @frz a ob xs ea =>
  cases (show u=Value.ref a from rx)
  obtain ⟨_,_,_,n,_,h1⟩:=(show ObjOk X.prog X.w H s.heap a (.frz ob (.lst xs)) from I.hok a _ ea)
  exact PySem.W.kia_one PySem.W.kitx_list I.kIn ⟨_,h1,rfl⟩ e (fun z=>nomatch z) h
 | @tup a xs ea =>
  cases (show u=Value.ref a from rx)
  obtain ⟨_,_,_,p⟩:=(show ObjOk X.prog X.w H s.heap a (.tup xs) from I.hok a _ ea)
  obtain ⟨o,h1,h2,_⟩:=p
  exact PySem.W.kia_one PySem.W.kitx_tuple I.kIn ⟨o,h1,h2⟩ e (fun z=>nomatch z) h
 | @dK a kvs ea =>
  cases (show u=Value.ref a from rx)
  obtain ⟨_,_,vs,_,p⟩:=(show ObjOk X.prog X.w H s.heap a (.dK kvs) from I.hok a _ ea)
  obtain ⟨o,es,ep,h1,h2,_⟩:=p
  exact PySem.W.kia_one PySem.W.kitx_dict I.kIn ⟨o,h1,h2.1⟩ e (fun z=>nomatch z) h
 | @dT a kvs ea =>
  cases (show u=Value.ref a from rx)
  obtain ⟨_,_,xs,_,o,es,ep,h1,h2,_⟩:=(show ObjOk X.prog X.w H s.heap a (.dT kvs) from I.hok a _ ea)
  exact PySem.W.kia_one PySem.W.kitx_dict I.kIn ⟨o,h1,h2.1⟩ e (fun z=>nomatch z) h
 | @ins a C dx fs ea cl ha hn htk hm =>
  cases (show u=Value.ref a from rx)
  obtain ⟨mA,O,_⟩:=ins_get I.hok ea
  obtain ⟨od,J,_⟩:=O.look
  exact PySem.W.kia_one (PySem.W.kitx_own (cl.get _) cl.hd ha hn htk hm) I.kIn J e (fun z=>nomatch z) h
end
end L2
namespace L2
open PySem PySem.Spec PyProof.Rows
structure Room (k:Nat) (A:Around):Prop where
 hd:A.handled=none
 dp:A.depth+3 * k+5 < recursionLimit
 un:A.units+16 * k+200 < cLine
theorem Room.mono {j k:Nat}{A:Around}(r:Room k A) (h:j≤k):Room j A:=⟨r.hd,by have:=r.dp;omega,by have:=r.un;omega⟩
theorem Room.deeper {k:Nat}{A:Around}(r:Room (k+1) A) (env:Env):Room k (A.deeper env) :=
 ⟨r.hd,by have:=r.dp;show A.depth+1+3 * k+5 < _;omega,by have:=r.un;show A.units+3+16 * k+200 < _;omega⟩
theorem make_depth {A:Around}{C:Addr}{us:List Value}{kw:List (Str × Value)}:(A.under (.builtin "type.__call__" ⟨.ref C::us,kw⟩)).depth=A.depth+1:=by
 first|rfl|simp [Around.under,Code.weight,Code.isCreation,Code.isGuard,Code.isCaller,Code.frames,Code.isFrame,guardIds]
theorem make_units {A:Around}{C:Addr}{us:List Value}{kw:List (Str × Value)}:(A.under (.builtin "type.__call__" ⟨.ref C::us,kw⟩)).units=A.units+1:=by
 first|rfl|simp [Around.under,Code.cUnits,Code.frames,Code.isFrame]
theorem Room.make {k:Nat}{A:Around}(r:Room (k+1) A) (C:Addr) (us:List Value) (kw:List (Str × Value)):Room k (A.under (.builtin "type.__call__" ⟨.ref C::us,kw⟩)) :=
 ⟨r.hd,by have:=r.dp;rw [make_depth];omega,by have:=r.un;rw [make_units];omega⟩
theorem Room.depth {k:Nat}{A:Around}(r:Room k A):A.depth < recursionLimit:=by have:=r.dp;omega
def tNil:TA:=fun _ H Q=>Q [] H
def z6e (ta:TE) (tr:TA):TA:=fun σ H Q=>ta σ H fun x H1=>tr σ H1 fun xs H2=>Q (x::xs) H2
section
variable {X:Cx}{e:Expr}{es:List Expr}{te:TE}{t:TA}{pos:Pos}
theorem z0j:PA X [] tNil:=fun _ _ _ _ H Q I h=>Calls.spliced_nil ⟨[],H,I,.nil,h⟩
theorem z0b (ha:PE X e te) (hr:PA X es t) (hs:starEach (e::es) X.env=(false,eval e X.env)::starEach es X.env:=by rfl):PA X (e::es) (z6e te t):=by
 intro pos pins s σ H Q I h
 rw [hs]
 show wpAny _ _ (spliced ((false,eval e X.env)::backTo pos (starEach es X.env))) _ _ s
 refine Calls.spliced_cons (thn (ha pins s σ H _ I h) fun u s1 ⟨x,H1,I1,r1,q1⟩=>?_)
 exact thn (hr pos pins s1 σ H1 _ I1 q1) fun us s2 ⟨xs,H2,I2,r2,q2⟩=>⟨x::xs,H2,I2,.cons r1 r2,q2⟩
def tTup (t:TA):TE:=fun σ H Q=>t σ H fun xs H1=>xs.length≤sizeLine∧∀ p,H1 p=none→Q (.ref p) (upd H1 p (.tup xs))
def tLst (t:TA):TE:=fun σ H Q=>t σ H fun xs H1=>xs.length≤sizeLine∧∀ p,H1 p=none→Q (.ref p) (upd H1 p (.lst xs))
theorem z3i {x1} (h:PA X es t):PE X (.Tuple es x1 pos) (tTup t):=by
 intro pins s σ H Q I hq
 refine wpAny_Tuple_spliced (thn (h pos pins s σ H _ I hq) fun us s1 ⟨xs,H1,I1,r,z,q⟩=>⟨by rw [← r.length];exact z,?_⟩)
 have hf:H1 s1.heap.objs.size=none:=I1.hok.fresh (Nat.le_refl _)
 refine ⟨.ref s1.heap.objs.size,upd H1 s1.heap.objs.size (.tup xs),I1.laid (t':=s1.toks) (fun b u e=>Heap.get?_push_of_some _ e) (Nat.le_refl _) ?_,rfl,q _ hf⟩
 exact ⟨z,us,r,⟨_,Heap.get?_push_size _ rfl,rfl,_,rfl⟩⟩
theorem z1y (h:PA X es t):PE X (.List es pos) (tLst t):=by
 intro pins s σ H Q I hq
 refine wpAny_List_spliced (thn (h pos pins s σ H _ I hq) fun us s1 ⟨xs,H1,I1,r,z,q⟩=>⟨by rw [← r.length];exact z,?_⟩)
 have hf:H1 s1.heap.objs.size=none:=I1.hok.fresh (Nat.le_refl _)
 refine ⟨.ref s1.heap.objs.size,upd H1 s1.heap.objs.size (.lst xs),I1.laid (t':=s1.toks) (fun b u e=>Heap.get?_push_of_some _ e) (Nat.le_refl _) ?_,rfl,q _ hf⟩
 exact ⟨z,us,0,r,Heap.get?_push_size _ rfl⟩
end
abbrev Sp:=List V→Hp→VK→XK→Prop
abbrev CXT:=List Env→Hp→Shared→XK→Value→Shared→Prop
structure Env0 (P:Program) (w:World) (K:PySem.W.Frag) (mg:Str→Option Value) (base:Heap) (A:Around) (outer:List Env) (s:Shared) (H:Hp):Prop where
 frames:A.frames=some outer
 mod:Mod K mg base
 bs:∀ b o,base.get? b=some o→s.heap.get? b=some o∧H b=none
 bsz:base.objs.size≤s.heap.objs.size
 funs:s.heap.FunFrames base outer
 frf:∀ b∈frs outer,H b=none
 hok:HOk P w H s.heap
 bare:AllBare s.gens
def CE (outer:List Env) (P:Program) (w:World) (H:Hp) (s:Shared) (Q:VK) (u:Value) (s':Shared):Prop :=
 ∃ v H',s'.os=s.os∧AllBare s'.gens∧Un (frs outer) [] H H' s.heap s'.heap∧HOk P w H' s'.heap∧RelV v u∧Q v H'
def CR (CX:CXT) (outer:List Env) (P:Program) (w:World) (H:Hp) (s:Shared) (Q:VK) (E:XK) (r:Result) (s':Shared):Prop :=
 match r with
 |.ok (.ret u)=>CE outer P w H s Q u s'
 |.ok _=>False
 |.error e=>CX outer H s E e s'
structure FnOk (P:Program) (w:World) (K:PySem.W.Frag) (mg:Str→Option Value) (base:Heap) (CX:CXT) (k:Nat) (f:Addr) (fd:FuncData) (ps:List Str) (sp:Sp):Prop where
 len:∀ vs H Q E,sp vs H Q E→vs.length=ps.length
 run:∀ (A:Around) (outer:List Env) (s:Shared) (H:Hp) (args:Args) (us:List Value) (vs:List V) (Q:VK) (E:XK),Room k A→Env0 P w K mg base A outer s H→BindsTo s fd args (ps.zip us)→Vals vs us→sp vs H Q E →
  codeAny (model P w) A (.call (.ref f) args) (CR CX outer P w H s Q E) s
theorem Env0.make {P:Program}{w:World}{K:PySem.W.Frag}{mg:Str→Option Value}{base:Heap}{A:Around}{outer:List Env}{s:Shared}{H:Hp}(e:Env0 P w K mg base A outer s H) (C:Addr) (us:List Value) (kw:List (Str × Value)) :
  Env0 P w K mg base (A.under (.builtin "type.__call__" ⟨.ref C::us,kw⟩)) outer s H:=⟨by first|exact e.frames|(simpa [Around.under,Code.envs,Code.isFrame,pushEnvs] using e.frames),e.mod,e.bs,e.bsz,e.funs,e.frf,e.hok,e.bare⟩
section
variable {X:Cx}{pins:List (Addr × Obj)}{σ:St}{H:Hp}{s s':Shared}
theorem Inv.env0 (I:Inv X pins σ H s):Env0 X.prog X.w X.K X.mg X.base X.A X.stack s H :=
 ⟨I.ok.frames,I.ok.mod,I.bs,Nat.le_trans I.ok.bsz I.sz,I.stack,I.stkFree,I.hok,I.bare⟩
theorem Inv.after {Q:VK}{u:Value}(I:Inv X pins σ H s) (h:CE X.stack X.prog X.w H s Q u s'):EP X pins σ Q u s':=by
 obtain ⟨v,H',os,bare,un,hok,r,q⟩:=h
 obtain ⟨hh,g,d,t,os'⟩:=s'
 obtain rfl:os' = s.os:=os
 exact ⟨v,H',I.call (h':=hh) (g':=g) (d':=d) (t':=t) (ch:=[]) un hok bare (fun b z=>absurd z (by simp)),r,q⟩
end
def z7m (sp:Sp) (dvs:List V) (E:XK) (t:TA):TE:=fun σ H Q=>t σ H fun vs H1=>sp (vs ++ dvs) H1 Q E
def Binds (K:PySem.W.Frag) (fd:FuncData) (ps:List Str) (ds:List Value):Prop :=
 ∀ (s:Shared) (us:List Value),K.In s.heap→(us ++ ds).length=ps.length→BindsTo s fd ⟨us,[]⟩ (ps.zip (us ++ ds))
theorem Binds.all {K:PySem.W.Frag}{fd:FuncData}{ps:List Str}(h:∀ us:List Value,us.length=ps.length→bindArgs fd ⟨us,[]⟩=pure (ps.zip us)):Binds K fd ps []:=fun s us _ hl=>by
 rw [List.append_nil] at hl ⊢
 exact .of_eq (h us hl)
def z8q (CX:CXT) (X:Cx) (E:XK):Prop:=∀ (pins:List (Addr × Obj)) (σ:St) (H:Hp) (s:Shared) (e:Value) (s':Shared),Inv X pins σ H s→CX X.stack H s E e s'→X.xe e s'
section
variable {X:Cx}{CX:CXT}{k:Nat}{f C:Addr}{fd:FuncData}{ps:List Str}{sp:Sp}{dvs:List V}{ds:List Value}{E:XK}{x m:Str}{p pos apos:Pos}{e o:Expr}{es:List Expr}{ta:TE}{t:TA}
theorem run_fn {pins:List (Addr × Obj)}{σ:St}{H:Hp}{s:Shared}{Q:VK}{us:List Value}{vs:List V}(F:FnOk X.prog X.w X.K X.mg X.base CX k f fd ps sp) (hr:Room k X.A) (hb:Binds X.K fd ps ds) (hd:Vals dvs ds) (hx:z8q CX X E)
  (I:Inv X pins σ H s) (r:Vals vs us) (h:sp (vs ++ dvs) H Q E):wpAny (model X.prog X.w) X.A (call (.ref f) us) (EP X pins σ Q) X.xe s:=by
 have r2:Vals (vs ++ dvs) (us ++ ds):=r.append hd
 have hl:(us ++ ds).length=ps.length:=by rw [← r2.length];exact F.len _ _ _ _ h
 refine wpAny_call (codeAny_mono (F.run X.A X.stack s H ⟨us,[]⟩ (us ++ ds) (vs ++ dvs) Q E hr I.env0 (hb s us I.kIn hl) r2 h) fun r s' hq=>?_)
 cases r with
 |error e=>exact hx pins σ H s e s' I hq
 |ok fl =>
  cases fl with
  |ret u=>exact I.after hq
  |next=>exact False.elim hq
  |brk=>exact False.elim hq
  |cont=>exact False.elim hq
theorem z0r (F:FnOk X.prog X.w X.K X.mg X.base CX k f fd ps sp) (hr:Room k X.A) (hg:Gl X x) (hm:X.mg x=some (.ref f)) (hk:PySem.W.keepIn X.K (.ref f)=true) (hb:Binds X.K fd ps ds) (hd:Vals dvs ds) (hx:z8q CX X E)
  (ha:PA X (e::es) t) (hdb:(x == ("__debug__":Str))=false:=by decide) (he:starEach (e::es) X.env=(false,eval e X.env)::starEach es X.env:=by rfl) (hpl:(backTo pos (starEach es X.env)).any (·.1)=false:=by rfl) :
  PE X (.Call (.Name x p) (e::es) [] pos) (z7m sp dvs E t):=by
 intro pins s σ H Q I h
 refine wpAny_Call_Name_kw (z7d I hg hm ?_ hdb)
 refine PySem.W.callWith_K (h₀:=X.base) I.ok.mod.kin hk (thn (ha pos pins s σ H _ I h) fun us s1 ⟨vs,H1,I1,r,q⟩=>⟨I1.kIn,?_⟩) he hpl
 exact run_fn F hr hb hd hx I1 r q
structure Mk (K:PySem.W.Frag) (C f:Addr):Prop where
 makes:PySem.W.makesIn K C=true
 init:PySem.W.findIn K (.ref C) "__init__" = some (some (.ref f))
 fn:PySem.W.isFn K (.ref f)=true
 kp:PySem.W.keepIn K (.ref C)=true
end
section
variable {X:Cx}{CX:CXT}{k:Nat}{f C:Addr}{fd:FuncData}{ps ks:List Str}{sp:Sp}{E:XK}{x m:Str}{p pos apos kpos:Pos}{e o:Expr}{es:List Expr}{kws:List Keyword}{te ta:TE}{t tk:TA}{nm:Option Str}
structure KBinds (K:PySem.W.Frag) (fd:FuncData) (ps ks:List Str) (g:List Value→List Value→List Value) (gV:List V→List V→List V):Prop where
 to:∀ (s:Shared) (us ws:List Value),K.In s.heap→(g us ws).length=ps.length→BindsTo s fd ⟨us,ks.zip ws⟩ (ps.zip (g us ws))
 rel:∀ {vs:List V}{us:List Value}{zs:List V}{ws:List Value},Vals vs us→Vals zs ws→Vals (gV vs zs) (g us ws)
variable {g:List Value→List Value→List Value}{gV:List V→List V→List V}
end
structure FnScope (N P:List Str) (sc:Scope):Prop where
 kind:sc.kind = .function
 co:sc.isCoroutine=false
 gen:sc.isGenerator=false
 nd:N.Nodup
 pre:N.take P.length=P
 par:∀ x∈P,sc.names.lookup x=some .local∨sc.names.lookup x=some .cell
 nofree:∀ y∈sc.names,y.2 ≠ .free
theorem y2x {kindOf:Str→Option NameKind}{x:Str}:∀ {binds:List (Str × Value)}{m:Str→Option Value},(∀ v,(x,v)∉binds)→bindL kindOf binds m x=m x
 | [],_,_=>rfl
 |(n,v)::r,m,h=>by
  unfold bindL
  rw [y2x fun w hw=>h w (List.mem_cons_of_mem _ hw)]
  split
  ·have:x≠n:=by rintro rfl;exact h v List.mem_cons_self
   simp [this]
  ·rfl
theorem y2z {kindOf:Str→Option NameKind}{x:Str}:∀ {binds:List (Str × Value)}{m:Str→Option Value},(∀ v,(x,v)∉binds)→bindC kindOf binds m x=m x
 | [],_,_=>rfl
 |(n,v)::r,m,h=>by
  unfold bindC
  rw [y2z fun w hw=>h w (List.mem_cons_of_mem _ hw)]
  split
  ·rfl
  ·have:x≠n:=by rintro rfl;exact h v List.mem_cons_self
   simp [this]
theorem y3v {kindOf:Str→Option NameKind}{x:Str}{v:Value}:∀ {P:List Str}{vs:List Value}{i:Nat}{m:Str→Option Value},P.Nodup→P[i]? = some x→vs[i]? = some v→kindOf x=some .local →
  bindL kindOf (P.zip vs) m x=some v
 | [],_,_,_,_,h,_,_=>by simp at h
 |_::_,[],_,_,_,_,h,_=>by simp at h
 |p::P,w::vs,0,m,nd,h1,h2,hk=>by
  simp at h1 h2;subst h1;subst h2
  show bindL kindOf ((p,w)::P.zip vs) m p=_
  unfold bindL
  rw [y2x fun v hv=>(List.nodup_cons.mp nd).1 (List.of_mem_zip hv).1,if_pos hk]
  simp
 |p::P,w::vs,i+1,m,nd,h1,h2,hk=>by
  show bindL kindOf ((p,w)::P.zip vs) m x=_
  unfold bindL
  exact y3v (i:=i) (List.nodup_cons.mp nd).2 (by simpa using h1) (by simpa using h2) hk
theorem y3n {kindOf:Str→Option NameKind}{x:Str}{v:Value}:∀ {P:List Str}{vs:List Value}{i:Nat}{m:Str→Option Value},P.Nodup→P[i]? = some x→vs[i]? = some v→kindOf x≠some .local →
  bindC kindOf (P.zip vs) m x=some v
 | [],_,_,_,_,h,_,_=>by simp at h
 |_::_,[],_,_,_,_,h,_=>by simp at h
 |p::P,w::vs,0,m,nd,h1,h2,hk=>by
  simp at h1 h2;subst h1;subst h2
  show bindC kindOf ((p,w)::P.zip vs) m p=_
  unfold bindC
  rw [y2z fun v hv=>(List.nodup_cons.mp nd).1 (List.of_mem_zip hv).1,if_neg hk]
  simp
 |p::P,w::vs,i+1,m,nd,h1,h2,hk=>by
  show bindC kindOf ((p,w)::P.zip vs) m x=_
  unfold bindC
  exact y3n (i:=i) (List.nodup_cons.mp nd).2 (by simpa using h1) (by simpa using h2) hk
def start (N:List Str) (vs:List V):St:=vs.map some ++ List.replicate (N.length - vs.length) none
def cxOf (CX:CXT) (P:Program) (w:World) (K:PySem.W.Frag) (mg:Str→Option Value) (base:Heap) (N:List Str) (qual:Str) (scope:Scope) (f:Addr) (cd:Value) (A:Around) (outer:List Env) (s:Shared) (H:Hp) (E:XK):Cx where
 prog:=P
 w:=w
 K:=K
 mg:=mg
 base:=base
 A:=A.deeper (envOfC qual scope s.heap.objs.size f cd)
 N:=N
 s₀:=s
 H₀:=H
 env:=envOfC qual scope s.heap.objs.size f cd
 outer:=outer
 stack:=envOfC qual scope s.heap.objs.size f cd::outer
 ex:=[]
 calm:=true
 fn:=fun _=>true
 pn:=[]
 xe:=fun e s'=>wpAny (model P w) (A.deeper (envOfC qual scope s.heap.objs.size f cd)) (leaving (envOfC qual scope s.heap.objs.size f cd) e) (fun _ s''=>CX outer H s E e s'') (fun e' s''=>CX outer H s E e' s'') s'
theorem y5t {sc:Scope}{n:Nat}{x:Str}(h:sc.names.lookup x=some .cell):∃ c,(cellsFrom n sc.names []).lookup x=some c:=by
 have q:=PySem.W.cellsFrom_some sc.names n [] (.inl h)
 exact Option.isSome_iff_exists.mp q
theorem inv_start {CX:CXT}{P:Program}{w:World}{K:PySem.W.Frag}{mg:Str→Option Value}{base:Heap}{N ps:List Str}{qual:Str}{scope:Scope}{f:Addr}{cd:Value}{A:Around}{outer:List Env}{s s1:Shared}{H:Hp}{E:XK}{us:List Value}{vs:List V}
  (S:FnScope N ps scope) (hd:A.handled=none) (e0:Env0 P w K mg base A outer s H) (hl:vs.length=ps.length) (r:Vals vs us)
  (x:InCallC s s.heap.objs.size (bindL (envOfC qual scope s.heap.objs.size f cd).kindOf (ps.zip us) fun _=>none) (cellsFrom (s.heap.objs.size+1) scope.names []) (bindC (envOfC qual scope s.heap.objs.size f cd).kindOf (ps.zip us) fun _=>none) s1) :
  Inv (cxOf CX P w K mg base N qual scope f cd A outer s H E) [] (start N vs) H s1:=by
 have hpl:ps.length≤N.length:=by have:=congrArg List.length S.pre;rw [List.length_take] at this;omega
 obtain ⟨h1,tk,rfl,hk⟩:=x.done
 have noA:∀ b:Addr,b∉(cxOf CX P w K mg base N qual scope f cd A outer s H E).ex:=fun b z=>absurd (show b∈([]:List Addr) from z) (by simp)
 refine ⟨⟨e0.mod,S.kind,rfl,rfl,Nat.le_refl _,fun y z c h1 h2=>?_,fun y hy=>?_,fun y c _ h=>?_,fun _=>hd,Around.frames_deeper e0.frames,.inr ⟨rfl,rfl⟩,fun b z=>absurd z (noA b),e0.bs,e0.bsz,fun b _ _=>noA b,fun b z=>absurd z (noA b),e0.funs,e0.frf⟩,
  rfl,e0.bare,Un.kept hk,⟨_,x.toInCall.ns,fun i y v h1 h2 h3=>?_⟩,fun y c h=>⟨_,x.cell y c h⟩,e0.hok.fresh (Nat.le_refl _),fun y c h=>?_,fun p hp=>absurd (show p∈([]:List (Addr × Obj)) from hp) (by simp),e0.hok.kept hk,?_⟩
 ·exact name_of_addr x.apart (PySem.mem_of_lookup h1) (PySem.mem_of_lookup h2)
 ·have hy:scope.names.lookup y=some .cell∨scope.names.lookup y=some .free:=hy
  rcases hy with hy|hy
  ·exact y5t hy
  ·exact absurd rfl (S.nofree _ (PySem.mem_of_lookup hy))
 ·exact Nat.le_of_lt (x.above y c (PySem.mem_of_lookup h))
 ·have hi:i < vs.length:=by
   unfold start at h2
   by_cases hi:i < vs.length
   ·exact hi
   ·rw [List.getElem?_append_right (by simpa using hi)] at h2
    rw [List.getElem?_replicate] at h2
    split at h2 <;> cases h2
  have ha:vs[i]? = some v:=by
   unfold start at h2
   rw [List.getElem?_append_left (by simpa using hi),List.getElem?_map] at h2
   cases e:vs[i]? with
   |none=>rw [e] at h2;cases h2
   |some a=>rw [e] at h2;cases h2;rfl
  obtain ⟨u,hu,rv⟩:=r.get ha
  have hp:ps[i]? = some y:=by
   rw [← S.pre,List.getElem?_take_of_lt (by omega)];exact h1
  have ndP:ps.Nodup:=by rw [← S.pre];exact S.nd.sublist (List.take_sublist _ _)
  refine ⟨u,rv,?_⟩
  rcases S.par y (List.mem_of_getElem? hp) with k|k
  ·exact .inl ⟨k,y3v ndP hp hu k⟩
  ·obtain ⟨c,e⟩:=y5t (n:=s.heap.objs.size+1) k
   refine .inr ⟨.inl k,c,e,?_⟩
   have q:=x.cell y c e
   rw [y3n ndP hp hu (by show scope.names.lookup y≠_;rw [k];decide)] at q
   exact q
 ·exact e0.hok.fresh (Nat.le_of_lt (x.above y c (PySem.mem_of_lookup h)))
 ·unfold start
  show _=N.length
  rw [List.length_append,List.length_map,List.length_replicate]
  omega
theorem fn_of {CX:CXT}{P:Program}{w:World}{K:PySem.W.Frag}{mg:Str→Option Value}{base:Heap}{k:Nat}{f:Addr}{name qual:Str}{params:Arguments}{body:List Stmt}{scope:Scope}{dV kV doc pm cdv ct oc:Value}{an od:Option Addr}
  {osl:Array (Option Value)}{N ps:List Str}{sp:Sp}(lk:K.lookup f=some ⟨oc,od,.func (PySem.W.fnOf name qual params body scope dV kV doc pm an cdv ct),osl⟩) (hcd:PySem.W.codeIn K cdv qual=true) (S:FnScope N ps scope)
  (len:∀ vs H Q E,sp vs H Q E→vs.length=ps.length)
  (hbody:∀ (A:Around) (outer:List Env) (s:Shared) (H:Hp) (vs:List V) (Q:VK) (E:XK),Room k (A.deeper (envOfC qual scope s.heap.objs.size f cdv))→sp vs H Q E →
   ∃ t,PSs (cxOf CX P w K mg base N qual scope f cdv A outer s H E) body t∧t { nx:=fun _ H'=>Q .non H',rt:=Q } (start N vs) H) :
  FnOk P w K mg base CX (k+1) f (PySem.W.fnOf name qual params body scope dV kV doc pm an cdv ct) ps sp:=by
 refine ⟨len,fun A outer s H args us vs Q E hr e0 hb r hsp=>?_⟩
 have hl:=len _ _ _ _ hsp
 have KX:K.In s.heap:=e0.mod.kin.keeps fun b o e=>(e0.bs b o e).1
 have lim:s.heap.NoLimit:=e0.mod.nolimit.keeps fun b o e=>(e0.bs b o e).1
 have hkind:∀ y∈ps.zip us,scope.names.lookup y.1=some .local∨(scope.names.lookup y.1=some .cell∧((cellsFrom (s.heap.objs.size+1) scope.names []).lookup y.1).isSome=true):=fun ⟨n,v⟩ hy=>by
  rcases S.par n (List.of_mem_zip hy).1 with q|q
  ·exact .inl q
  ·exact .inr ⟨q,PySem.W.cellsFrom_some _ _ _ (.inl q)⟩
 refine codeAny_call_function hr.depth (KX _ _ lk) rfl S.co S.gen rfl (PySem.W.codeRec_of KX hcd) (hb _ _ _ _ ?_)
 refine wpAny_newFunctionEnv_cells S.kind hkind fun env he s1 x=>?_
 subst he
 refine ⟨lim.keeps x.toInCall.keep,codeAny_func ?_⟩
 obtain ⟨t,ht,hq⟩:=hbody A outer s H vs Q E (hr.deeper _) hsp
 have I:Inv (cxOf CX P w K mg base N qual scope f cdv A outer s H E) [] (start N vs) H s1:=inv_start S hr.hd e0 hl r x
 refine wpAny_mono (ht [] s1 (start N vs) H _ I hq) (fun fl s' hs=>?_) fun e s' hs=>hs
 have fin:∀ {σ':St}{H':Hp}{v:V}{u:Value},Inv (cxOf CX P w K mg base N qual scope f cdv A outer s H E) [] σ' H' s'→RelV v u→Q v H'→CE outer P w H s Q u s' :=
  fun {σ' H' v u} J rv q=>⟨v,H',J.os,J.bare,J.base,J.hok,rv,q⟩
 cases fl with
 |ret u =>
  obtain ⟨v,σ',H',J,rv,q⟩:=hs
  exact fin J rv q
 |next =>
  obtain ⟨σ',H',J,q⟩:=hs
  exact fin (v:=V.non) (u:=Value.none) J rfl q
 |brk =>
  obtain ⟨_,_,_,q⟩:=hs
  exact False.elim q
 |cont =>
  obtain ⟨_,_,_,q⟩:=hs
  exact False.elim q
end L2
namespace L2
open PySem PySem.Spec PyProof.Rows
section
variable {X:Cx}{x:Str}{p pos:Pos}{e:Expr}{es:List Expr}{t:TA}{id T:String}{r:List V→Hp→VK→Prop}
def tCB (r:List V→Hp→VK→Prop) (t:TA):TE:=fun σ H Q=>t σ H fun vs H1=>r vs H1 Q
theorem z2z (hc:z6d X (.builtin id) r) (hg:Gl X x) (hm:X.mg x=none) (hv:bootBuiltins x=some (.builtin id)) (ha:PA X (e::es) t) (hn:x ≠ "__name__":=by decide) (hdb:(x == ("__debug__":Str))=false:=by decide)
  (he:starEach (e::es) X.env=(false,eval e X.env)::starEach es X.env:=by rfl) (hpl:(backTo pos (starEach es X.env)).any (·.1)=false:=by rfl):PE X (.Call (.Name x p) (e::es) [] pos) (tCB r t):=by
 intro pins s σ H Q I h
 refine wpAny_Call_Name_kw (z4t I hg hm hv ?_ hn hdb)
 exact PyProof.Rows.callWith_builtin1 (thn (ha pos pins s σ H _ I h) fun us s1 ⟨vs,H1,I1,r1,q1⟩=>hc pins s1 σ H1 vs us Q I1 r1 q1) he hpl
theorem z4m (hc:z6d X (.type T) r) (hg:Gl X x) (hm:X.mg x=none) (hv:bootBuiltins x=some (.type T)) (ha:PA X (e::es) t) (hn:x ≠ "__name__":=by decide) (hdb:(x == ("__debug__":Str))=false:=by decide)
  (he:starEach (e::es) X.env=(false,eval e X.env)::starEach es X.env:=by rfl) (hpl:(backTo pos (starEach es X.env)).any (·.1)=false:=by rfl):PE X (.Call (.Name x p) (e::es) [] pos) (tCB r t):=by
 intro pins s σ H Q I h
 refine wpAny_Call_Name_kw (z4t I hg hm hv ?_ hn hdb)
 exact PyProof.Rows.callWith_type1 (thn (ha pos pins s σ H _ I h) fun us s1 ⟨vs,H1,I1,r1,q1⟩=>hc pins s1 σ H1 vs us Q I1 r1 q1) he hpl
end
end L2
namespace HT
open PySem PyProof.Rows
section
open PySem.SeqAt
open PySem.AutoSeq1 (wpAny_loadPart')
open PySem.MeetsSeq PySem.MeetsSeq2 PySem.MeetsSeq3
end
section
variable {prog:Program}{w:World}{A:Around}{E:Value→Shared→Prop}{s:Shared}
def sIx (n d:Nat):Option Int→Nat
 |none=>d
 |some v=>if v < 0 then (v+(n:Int)).toNat else min v.toNat n
theorem sIx_none (n d:Nat):sIx n d none=d:=rfl
theorem sIx_nat (n d k:Nat):sIx n d (some (k:Int))=min k n:=by
 show (if (k:Int) < 0 then ((k:Int)+(n:Int)).toNat else min (k:Int).toNat n)=min k n
 rw [if_neg (by omega),Int.toNat_natCast]
end
end HT
namespace L2
open PySem PySem.Spec PyProof.Rows
abbrev TO:=St→Hp→(Option Int→Hp→Prop)→Prop
def PO (X:Cx) (e:Option Expr) (t:TO):Prop :=
 ∀ (pins:List (Addr × Obj)) (s:Shared) (σ:St) (H:Hp) (Q:Option Int→Hp→Prop),Inv X pins σ H s→t σ H Q →
  wpAny (model X.prog X.w) X.A (evalPart e X.env) (fun u s'=>∃ o H',Inv X pins σ H' s'∧IsPart u o∧Q o H') X.xe s
def tNoPart:TO:=fun _ H Q=>Q none H
def tPart (t:TE):TO:=fun σ H Q=>t σ H fun x H1=>∃ i,x = .int i∧Q (some i) H1
section
variable {X:Cx}{e:Expr}{te:TE}{lo hi:Option Expr}{tl th:TO}{pos p2:Pos}
theorem po_none:PO X none tNoPart:=by
 intro pins s σ H Q I h
 rw [evalPart_none]
 exact wpAny_pure ⟨none,H,I,.none,h⟩
theorem po_some (h:PE X e te):PO X (some e) (tPart te):=by
 intro pins s σ H Q I hw
 rw [evalPart_some]
 refine thn (h pins s σ H _ I hw) fun u s1 ⟨x,H1,I1,r1,q1⟩=>?_
 obtain ⟨i,rfl,q⟩:=q1
 obtain ⟨t,rfl⟩:=r1
 exact ⟨some i,H1,I1,.int i t,q⟩
def SlR (X:Cx) (r:V→Option Int→Option Int→Hp→VK→Prop):Prop :=
 ∀ (pins:List (Addr × Obj)) (s:Shared) (σ:St) (H:Hp) (x:V) (v vl vu:Value) (lo hi:Option Int) (sl:Addr) (Q:VK),Inv X pins σ H s→RelV x v→s.heap.IsSliceOf sl vl vu .none→IsPart vl lo→IsPart vu hi→r x lo hi H Q →
  ∃ T id,typeLookup (.type T) "__getitem__" = pure (some (.builtin id))∧s.TypeIs v T∧wpAny (model X.prog X.w) X.A (getItem v (.ref sl)) (EP X pins σ Q) X.xe s
def tSl (r:V→Option Int→Option Int→Hp→VK→Prop) (te:TE) (tl th:TO):TE:=fun σ H Q=>te σ H fun x H1=>tl σ H1 fun l H2=>th σ H2 fun u H3=>r x l u H3 Q
theorem y2b {r:V→Option Int→Option Int→Hp→VK→Prop}(hr:SlR X r) (he:PE X e te) (hl:PO X lo tl) (hu:PO X hi th):PE X (.Subscript e (.Slice lo hi none p2) pos) (tSl r te tl th):=by
 intro pins s σ H Q I h
 refine Subscript_ (thn (he pins s σ H _ I h) fun v s1 ⟨x,H1,I1,r1,q1⟩=>?_)
 refine wpAny_Slice (thn (hl pins s1 σ H1 _ I1 q1) fun vl s2 ⟨l,H2,I2,pl,q2⟩=>thn (hu pins s2 σ H2 _ I2 q2) fun vu s3 ⟨u,H3,I3,pu,q3⟩=>?_)
 rw [evalPart_none]
 refine wpAny_pure ?_
 have I4:Inv X pins σ H3 { s3 with heap:=s3.heap.push { cls:=.type "slice",data:=.fields #[vl,vu,.none] } }:=I3.kept (t':=s3.toks) fun b ob q=>Heap.get?_push_of_some _ q
 obtain ⟨T,id,hT,ht,hg⟩:=hr pins { s3 with heap:=s3.heap.push { cls:=.type "slice",data:=.fields #[vl,vu,.none] } } σ H3 x v vl vu l u s3.heap.objs.size Q I4 r1 (Heap.IsSliceOf.new ..) pl pu q3
 show wpAny (model X.prog X.w) X.A (subscriptTail e (.Slice lo hi none p2) v (.ref s3.heap.objs.size)) (EP X pins σ Q) X.xe { s3 with heap:=s3.heap.push { cls:=.type "slice",data:=.fields #[vl,vu,.none] } }
 exact tail_any (ops:=[.ref s3.heap.objs.size,v]) ht hT hg (by with_unfolding_all rfl)
def cutV (xs:List V) (lo hi:Option Int):List V:=(xs.drop (HT.sIx xs.length 0 lo)).take (HT.sIx xs.length xs.length hi - HT.sIx xs.length 0 lo)
theorem y3z (xs:List V) (lo hi:Option Int):(cutV xs lo hi).length≤xs.length:=by
 unfold cutV
 rw [List.length_take,List.length_drop]
 omega
end
end L2
namespace L2
open PySem PySem.Spec PyProof.Rows
def ixN (n:Nat) (i:Int):Option Nat:=if 0≤i then (if i < n then some i.toNat else none) else if -(n:Int)≤i then some (i+n).toNat else none
def atI {α:Type}(xs:List α) (i:Int):Option α:=(ixN xs.length i).bind fun j=>xs[j]?
theorem ixN_seq {n:Nat}{i:Int}{j:Nat}(h:ixN n i=some j):seqIndex? i n=some j∧j < n∧-(n:Int)≤i∧i < n:=by
 unfold ixN at h
 by_cases h0:0≤i
 ·rw [if_pos h0] at h
  by_cases h1:i < n
  ·rw [if_pos h1] at h
   have e:i.toNat=j:=Option.some.inj h
   exact ⟨by rw [seqIndex_of h0 h1,e],by omega,by omega,h1⟩
  ·rw [if_neg h1] at h;cases h
 ·rw [if_neg h0] at h
  by_cases h1:-(n:Int)≤i
  ·rw [if_pos h1] at h
   have e:(i+n).toNat=j:=Option.some.inj h
   exact ⟨by rw [seqIndex_neg (by omega) h1,e],by omega,h1,by omega⟩
  ·rw [if_neg h1] at h;cases h
theorem y4m {α:Type}{xs:List α}{i:Int}{v:α}(h:atI xs i=some v):∃ j,seqIndex? i xs.length=some j∧xs[j]? = some v∧j < xs.length∧-(xs.length:Int)≤i∧i < xs.length:=by
 unfold atI at h
 cases e:ixN xs.length i with
 |none=>rw [e] at h;cases h
 |some j =>
  rw [e] at h
  obtain ⟨h1,h2,h3,h4⟩:=ixN_seq e
  exact ⟨j,h1,h,h2,h3,h4⟩
theorem z8n {α:Type}{xs:List α}{j:Nat}{v:α}(h:xs[j]? = some v):atI xs (j:Int)=some v:=by
 have hj:j < xs.length:=(List.getElem?_eq_some_iff.mp h).1
 have e:ixN xs.length (j:Int)=some j:=by
  unfold ixN
  rw [if_pos (by omega),if_pos (by omega)];simp
 unfold atI;rw [e];exact h
def y4c (b:Expr):Prop:=∀ o i,subscripted b false o i=operate [o,i] (getItem o i)
def IxR (X:Cx) (r:R2):Prop :=
 ∀ (value slice:Expr) (pins:List (Addr × Obj)) (s:Shared) (σ:St) (H:Hp) (x y:V) (v u:Value) (Q:VK),Inv X pins σ H s→RelV x v→RelV y u→r x y H Q →
  subscripted slice false v u=operate [v,u] (getItem v u)→wpAny (model X.prog X.w) X.A (subscriptTail value slice v u) (EP X pins σ Q) X.xe s
def MtR (X:Cx) (id:String) (r:V→List V→Hp→VK→Prop):Prop :=
 ∀ (pins:List (Addr × Obj)) (s:Shared) (σ:St) (H:Hp) (x:V) (xs:List V) (v:Value) (us:List Value) (Q:VK),Inv X pins σ H s→RelV x v→Vals xs us→r x xs H Q →
  wpAny (model X.prog X.w) X.A (call (.builtin id) (v::us)) (EP X pins σ Q) X.xe s
section
variable {X:Cx}{a b:Expr}{ta tb:TE}{pos:Pos}
theorem z4d {r:R2}(hr:IxR X r) (ha:PE X a ta) (hb:PE X b tb) (hs:y4c b):PE X (.Subscript a b pos) (tOp r ta tb):=by
 intro pins s σ H Q I h
 exact Subscript_ (binT ha hb I h fun v u s2 x y H2 I2 rx ry q=>hr a b pins s2 σ H2 x y v u Q I2 rx ry q (hs _ _))
def rIxL (K:PySem.W.Frag):R2:=fun x y H Q=>∃ p xs i v,x = .ref p∧y = .int i∧SqL K H p xs∧atI xs i=some v∧Q v H
def rIxT (K:PySem.W.Frag):R2:=fun x y H Q=>∃ p xs i v,x = .ref p∧y = .int i∧SqT K H p xs∧atI xs i=some v∧Q v H
def rIxS:R2:=fun x y H Q=>∃ z i c,x = .str z∧y = .int i∧z.length≤sizeLine∧atI z.cps.toList i=some c∧Q (.str ⟨#[c]⟩) H
theorem ix_list:IxR X (rIxL X.K):=by
 intro value slice pins s σ H x y v u Q I rx ry h hs
 obtain ⟨p,xs,i,z,rfl,rfl,hq,he,q⟩:=h
 cases rx
 obtain ⟨t,rfl⟩:=ry
 obtain ⟨its,r,pl,hz⟩:=I.list hq
 obtain ⟨j,h1,h2,h3,h4,h5⟩:=y4m he
 obtain ⟨w,ew,rw'⟩:=r.get h2
 have hl:=r.length
 have hn:=z8v
 have fin:EP X pins σ Q w s:=⟨z,H,I,rw',q⟩
 by_cases h0:0≤i
 ·have hj:i.toNat=j:=by
   rw [seqIndex_of h0 h5] at h1
   exact Option.some.inj h1
  exact item_listR pl.isList h0 (by omega) (by rw [hj];simpa using ew) fin hs
 ·have hj:(i+(its.toArray.size:Int)).toNat=j:=by
   rw [seqIndex_neg (by omega) h4] at h1
   rw [List.size_toArray,← hl]
   exact Option.some.inj h1
  exact subscriptTail_builtinR (x:=w) pl.isList.typeIs slot_list_getitem.lookup
   (wpAny_getItem_list_neg (Q:=fun r s'=>r=w∧EP X pins σ Q r s') pl.isList (by omega) (by rw [List.size_toArray] <;> omega) (by omega) (by rw [hj];simpa using ew) ⟨rfl,fin⟩) hs
theorem ix_tup:IxR X (rIxT X.K):=by
 intro value slice pins s σ H x y v u Q I rx ry h hs
 obtain ⟨p,xs,i,z,rfl,rfl,hq,he,q⟩:=h
 cases rx
 obtain ⟨t,rfl⟩:=ry
 obtain ⟨its,r,pl,hz⟩:=I.tuple hq
 obtain ⟨j,h1,h2,h3,h4,h5⟩:=y4m he
 obtain ⟨w,ew,rw'⟩:=r.get h2
 have hl:=r.length
 have hn:=z8v
 have fin:EP X pins σ Q w s:=⟨z,H,I,rw',q⟩
 exact subscriptTail_builtinR (x:=w) pl.typeIs slot_tuple_getitem.lookup
  (getItem_tuple (j:=j) (Q:=fun r s'=>r=w∧EP X pins σ Q r s') pl (by omega) (by omega) (by rw [List.size_toArray,← hl];exact h1) (by simpa using ew) ⟨rfl,fin⟩) hs
theorem ix_str:IxR X rIxS:=by
 intro value slice pins s σ H x y v u Q I rx ry h hs
 obtain ⟨z,i,c,rfl,rfl,hz,he,q⟩:=h
 obtain ⟨t,rfl⟩:=rx
 obtain ⟨t',rfl⟩:=ry
 obtain ⟨j,h1,h2,h3,h4,h5⟩:=y4m he
 have hl:z.cps.toList.length=z.length:=by simp [Str.length]
 rw [hl] at h1 h4 h5
 have hn:=z8v
 exact tail_any (typeIs_str s z t) slot_str_getitem.lookup (getItem_str (c:=c) (by
  have e1:decide (i < -(2 ^ 63:Int))=false:=decide_eq_false (by omega)
  have e2:decide (i ≥ 2 ^ 63)=false:=decide_eq_false (by omega)
  rw [e1,e2,Bool.or_false]) (by rw [h1];simpa using h2) ⟨.str ⟨#[c]⟩,H,I.tok _,⟨_,rfl⟩,q⟩) hs
theorem mapSeq_set (its:List Value) (n j:Nat) (u:Value):Obj.mapSeq (·.setIfInBounds j u) { cls:=.type "list",data:=.seq its.toArray n } = { cls:=.type "list",data:=.seq (its.set j u).toArray n }:=by
 simp [Obj.mapSeq]
theorem Inv.lst {pins:List (Addr × Obj)}{σ:St}{H:Hp}{s:Shared}{p:Addr}{xs:List V}(I:Inv X pins σ H s) (h:H p=some (.lst xs)) :
  ∃ (its:List Value) (n:Nat),Vals xs its∧s.heap.get? p=some { cls:=.type "list",data:=.seq its.toArray n }∧xs.length≤sizeLine:=by
 obtain ⟨z,its,n,r,e⟩:=I.hok p _ h
 exact ⟨its,n,r,e,z⟩
theorem Inv.lstUpd {pins:List (Addr × Obj)}{σ:St}{H:Hp}{s:Shared}{p:Addr}{xs ys:List V}{its its':List Value}{n n':Nat}{f:Obj→Obj}(I:Inv X pins σ H s) (h:H p=some (.lst xs))
  (ho:s.heap.get? p=some { cls:=.type "list",data:=.seq its.toArray n }) (hf:f { cls:=.type "list",data:=.seq its.toArray n } = { cls:=.type "list",data:=.seq its'.toArray n' }) (r:Vals ys its') (hz:ys.length≤sizeLine) (t:Nat) :
  Inv X pins σ (upd H p (.lst ys)) { s with heap:=s.heap.update p f,toks:=t }:=by
 have e:(s.heap.update p f).get? p=some { cls:=.type "list",data:=.seq its'.toArray n' }:=by
  rw [Heap.get?_update_self f ho (by rw [hf] <;> rfl),hf]
 refine I.write (x:=p) (e:=p) (by rw [h];trivial) (.inl rfl) (fun b u hb q=>(Heap.get?_update_other _ _ (Ne.symm hb)).trans q) ⟨_,e⟩ ?_
 exact ⟨hz,its',n',r,e⟩
def rSetL:V→V→V→Hp→(Hp→Prop)→Prop:=fun o i v H Q=>∃ p xs k j,o = .ref p∧i = .int k∧H p=some (.lst xs)∧ixN xs.length k=some j∧Q (upd H p (.lst (xs.set j v)))
theorem set_list:PSet X rSetL:=by
 intro pins s σ H o i v ov iv u Q I ro ri rv h
 obtain ⟨p,xs,k,j,rfl,rfl,hp,hj,q⟩:=h
 cases ro
 obtain ⟨t,rfl⟩:=ri
 obtain ⟨its,n,r,ho,hz⟩:=I.lst hp
 obtain ⟨h1,h2,h3,h4⟩:=ixN_seq hj
 have hl:=r.length
 have hn:=z8v
 have I':Inv X pins σ (upd H p (.lst (xs.set j v))) { s with heap:=s.heap.update p (Obj.mapSeq (·.setIfInBounds j u)) } :=
  I.lstUpd hp ho (mapSeq_set its n j u) (r.set rv j) (by rw [List.length_set];exact hz) s.toks
 by_cases h0:0≤k
 ·have hk:k.toNat=j:=by
   rw [seqIndex_of h0 h4] at h1
   exact Option.some.inj h1
  exact PySem.W.ki_setAt ho h0 (by omega) (by rw [List.size_toArray,← hl];exact h4) (by rw [hk];exact ⟨_,I',q⟩)
 ·have hk:(k+(its.toArray.size:Int)).toNat=j:=by
   rw [seqIndex_neg (by omega) h3] at h1
   rw [List.size_toArray,← hl]
   exact Option.some.inj h1
  exact PySem.W.ki_setBack ho (by omega) (by rw [List.size_toArray,← hl];exact h3) (by omega) (by rw [hk];exact ⟨_,I',q⟩)
theorem y3f (lo hi:Option Int) (n:Nat):(sliceBounds lo hi none n).1=((HT.sIx n 0 lo:Nat):Int)∧(sliceBounds lo hi none n).2.1=((HT.sIx n n hi:Nat):Int)∧(sliceBounds lo hi none n).2.2=1:=by
 refine ⟨?_,?_,rfl⟩
 ·cases lo with
  |none=>simp [sliceBounds,HT.sIx]
  |some i =>
   simp only [sliceBounds,HT.sIx,Option.getD_none,show (1:Int) > 0 by decide,if_true]
   by_cases h:i < 0
   ·simp only [h,if_true] <;> omega
   ·simp only [h,if_false] <;> omega
 ·cases hi with
  |none=>simp [sliceBounds,HT.sIx]
  |some i =>
   simp only [sliceBounds,HT.sIx,Option.getD_none,show (1:Int) > 0 by decide,if_true]
   by_cases h:i < 0
   ·simp only [h,if_true] <;> omega
   ·simp only [h,if_false] <;> omega
theorem y1f (its:List Value) (lo hi:Option Int):slicePick its.toArray lo hi none=((its.drop (HT.sIx its.length 0 lo)).take (HT.sIx its.length its.length hi - HT.sIx its.length 0 lo)).toArray:=by
 obtain ⟨h1,h2,h3⟩:=y3f lo hi its.toArray.size
 unfold slicePick
 rw [h1,h2,h3]
 simp only [sliceRange_one,pick_run,List.size_toArray] <;> rfl
def rSlL (K:PySem.W.Frag):V→Option Int→Option Int→Hp→VK→Prop:=fun x lo hi H Q=>∃ a xs,x = .ref a∧SqL K H a xs∧∀ p,H p=none→Q (.ref p) (upd H p (.lst (cutV xs lo hi)))
theorem sl_list:SlR X (rSlL X.K):=by
 intro pins s σ H x v vl vu lo hi sl Q I rx hs pl pu h
 obtain ⟨a,xs,rfl,hx,q⟩:=h
 cases rx
 obtain ⟨its,r,ht,hz⟩:=I.list hx
 have hlen:=r.length
 refine ⟨"list",_,slot_list_getitem.lookup,ht.isList.typeIs,?_⟩
 refine wpAny_getItem_list_slice ht.isList hs pl pu .none (by simp) ?_ (by rw [List.size_toArray] <;> omega)
 rw [y1f,← hlen]
 refine ⟨.ref s.heap.objs.size,_,I.laid (t':=s.toks) (o:=.lst (cutV xs lo hi)) (fun b ob q=>Heap.get?_push_of_some _ q) (Nat.le_refl _) ?_,rfl,q _ (I.hok.fresh (Nat.le_refl _))⟩
 exact ⟨Nat.le_trans (y3z xs lo hi) hz,_,0,(r.drop (HT.sIx xs.length 0 lo)).take (HT.sIx xs.length xs.length hi - HT.sIx xs.length 0 lo),Heap.get?_push_size _ rfl⟩
def z4g:V→Bool
 |.non=>true
 |.bl _=>true
 |.int _=>true
 |.str _=>true
 |_=>false
def eqV:V→V→Bool
 |.non,.non=>true
 |.bl a,.bl b=>a == b
 |.bl a,.int b=>(if a then 1 else 0) == b
 |.int a,.bl b=>a == (if b then 1 else 0)
 |.int a,.int b=>a == b
 |.str a,.str b=>a == b
 |_,_=>false
theorem eqAt_V {A:Around}{s:Shared}{y x:V}{u v:Value}(ry:RelV y u) (rx:RelV x v) (fy:z4g y=true) (fx:z4g x=true):SeqAt.EqAt A s u v (eqV y x):=by
 cases y with
 |non =>
  cases ry
  cases x with
  |non=>cases rx;exact SeqAt.EqAt.same _
  |bl b=>cases rx;exact SeqAt.EqAt.none_bool b
  |int b=>obtain ⟨t,rfl⟩:=rx;exact SeqAt.EqAt.none_int b t
  |str b=>obtain ⟨t,rfl⟩:=rx;exact SeqAt.EqAt.none_str b t
  |_=>exact absurd (show false=true from fx) Bool.false_ne_true
 |bl a =>
  cases ry
  cases x with
  |non=>cases rx;exact SeqAt.EqAt.bool_none a
  |bl b=>cases rx;exact SeqAt.EqAt.bool_bool a b
  |int b=>obtain ⟨t,rfl⟩:=rx;exact SeqAt.EqAt.bool_int a b t
  |str b=>obtain ⟨t,rfl⟩:=rx;exact SeqAt.EqAt.bool_str a b t
  |_=>exact absurd (show false=true from fx) Bool.false_ne_true
 |int a =>
  obtain ⟨t',rfl⟩:=ry
  cases x with
  |non=>cases rx;exact SeqAt.EqAt.int_none a t'
  |bl b=>cases rx;exact SeqAt.EqAt.int_bool a t' b
  |int b=>obtain ⟨t,rfl⟩:=rx;exact SeqAt.EqAt.int_int a t' b t
  |str b=>obtain ⟨t,rfl⟩:=rx;exact SeqAt.EqAt.int_str a t' b t
  |_=>exact absurd (show false=true from fx) Bool.false_ne_true
 |str a =>
  obtain ⟨t',rfl⟩:=ry
  cases x with
  |non=>cases rx;exact SeqAt.EqAt.str_none a t'
  |bl b=>cases rx;exact SeqAt.EqAt.str_bool a t' b
  |int b=>obtain ⟨t,rfl⟩:=rx;exact SeqAt.EqAt.str_int a t' b t
  |str b=>obtain ⟨t,rfl⟩:=rx;exact SeqAt.EqAt.str_str a t' b t
  |_=>exact absurd (show false=true from fx) Bool.false_ne_true
 |_=>exact absurd (show false=true from fy) Bool.false_ne_true
def eqU (x:V) (u:Value):Bool:=match u with
 |.none=>eqV .non x
 |.bool b=>eqV (.bl b) x
 |.int i _=>eqV (.int i) x
 |.str z _=>eqV (.str z) x
 |_=>false
theorem eqU_of {x y:V}{u:Value}(r:RelV y u) (f:z4g y=true):eqU x u=eqV y x:=by
 cases y with
 |non=>cases r;rfl
 |bl b=>cases r;rfl
 |int i=>obtain ⟨t,rfl⟩:=r;rfl
 |str z=>obtain ⟨t,rfl⟩:=r;rfl
 |_=>exact absurd (show false=true from f) Bool.false_ne_true
theorem z8z {x:V}:∀ {xs:List V}{us:List Value},Vals xs us→xs.all z4g=true→us.any (eqU x)=xs.any fun y=>eqV y x
 |_,_,.nil,_=>rfl
 |y::xs,u::us,.cons r t,f=>by
  rw [List.all_cons,Bool.and_eq_true] at f
  rw [List.any_cons,List.any_cons,eqU_of r f.1,z8z t f.2]
theorem z6g {A:Around}{s:Shared}{x:V}{v:Value}(rx:RelV x v) (fx:z4g x=true):∀ {xs:List V}{us:List Value},Vals xs us→xs.all z4g=true→∀ u∈us,SeqAt.EqAt A s u v (eqU x u)
 |_,_,.nil,_=>fun u hu=>by cases hu
 |y::xs,u::us,.cons r t,f=>fun u' hu=>by
  rw [List.all_cons,Bool.and_eq_true] at f
  rcases List.mem_cons.mp hu with rfl|hu
  ·rw [eqU_of r f.1];exact eqAt_V r rx f.1 fx
  ·exact z6g rx fx t f.2 u' hu
def inV (x:V) (xs:List V):Bool:=xs.any fun y=>eqV y x
def rIn (K:PySem.W.Frag) (neg:Bool):R2:=fun x y H Q=>∃ p xs,y = .ref p∧(SqL K H p xs∨SqT K H p xs)∧z4g x=true∧xs.all z4g=true∧Q (.bl (if neg then !inV x xs else inV x xs)) H
theorem y3e:OpR X (compareOp .In) (rIn X.K false):=by
 intro pins s σ H x y v u Q I rx ry h
 obtain ⟨p,xs,rfl,hq,fx,fs,q⟩:=h
 cases ry
 rcases hq with hq|hq
 ·obtain ⟨its,r,pl,hz⟩:=I.list hq
  refine SeqAt.in_listAt (eqU x) pl.isList (fun w hw=>z6g rx fx r fs w (by simpa using hw)) ⟨.bl _,H,I,rfl,?_⟩
  rw [show its.toArray.any (eqU x)=its.any (eqU x) by simp,z8z r fs]
  exact q
 ·obtain ⟨its,r,pl,hz⟩:=I.tuple hq
  refine SeqAt.in_tupleAt (eqU x) pl (fun w hw=>z6g rx fx r fs w (by simpa using hw)) ⟨.bl _,H,I,rfl,?_⟩
  rw [show its.toArray.any (eqU x)=its.any (eqU x) by simp,z8z r fs]
  exact q
theorem y3j:OpR X (compareOp .NotIn) (rIn X.K true):=by
 intro pins s σ H x y v u Q I rx ry h
 obtain ⟨p,xs,rfl,hq,fx,fs,q⟩:=h
 cases ry
 rcases hq with hq|hq
 ·obtain ⟨its,r,pl,hz⟩:=I.list hq
  refine SeqAt.notIn_listAt (eqU x) pl.isList (fun w hw=>z6g rx fx r fs w (by simpa using hw)) ⟨.bl _,H,I,rfl,?_⟩
  rw [show its.toArray.any (eqU x)=its.any (eqU x) by simp,z8z r fs]
  exact q
 ·obtain ⟨its,r,pl,hz⟩:=I.tuple hq
  refine SeqAt.notIn_tupleAt (eqU x) pl (fun w hw=>z6g rx fx r fs w (by simpa using hw)) ⟨.bl _,H,I,rfl,?_⟩
  rw [show its.toArray.any (eqU x)=its.any (eqU x) by simp,z8z r fs]
  exact q
theorem y3p:z6d X (.builtin "len") (fun xs H Q=>∃ p ys,xs=[.ref p]∧(SqL X.K H p ys∨SqT X.K H p ys)∧Q (.int ys.length) H):=by
 intro pins s σ H xs us Q I r h
 obtain ⟨p,ys,rfl,hq,q⟩:=h
 obtain ⟨u,rfl,rx⟩:=z9d r
 cases rx
 have hn:=z8v
 rcases hq with hq|hq
 ·obtain ⟨its,r',pl,hz⟩:=I.list hq
  have hlen:=r'.length
  exact Calls.call_len_list pl.isList (by simp only [List.size_toArray] <;> omega) ⟨.int ys.length,H,I.tok _,⟨s.toks+1,by rw [List.size_toArray,hlen]⟩,q⟩
 ·obtain ⟨its,r',pl,hz⟩:=I.tuple hq
  have hlen:=r'.length
  exact len_tuple pl (by simp only [List.size_toArray] <;> omega) ⟨.int ys.length,H,I.tok _,⟨s.toks+1,by rw [List.size_toArray,hlen]⟩,q⟩
theorem y2o:z6d X (.builtin "len") (fun xs H Q=>∃ z,xs=[.str z]∧z.length≤sizeLine∧Q (.int z.length) H):=by
 intro pins s σ H xs us Q I r h
 obtain ⟨z,rfl,hz,q⟩:=h
 obtain ⟨u,rfl,t,rfl⟩:=z9d r
 have hn:=z8v
 exact len_str (by omega) ⟨.int z.length,H,I.tok _,⟨_,rfl⟩,q⟩
theorem y2l:z6d X (.type "list") (fun xs H Q=>∃ p ys,xs=[.ref p]∧(SqL X.K H p ys∨SqT X.K H p ys)∧∀ l,H l=none→Q (.ref l) (upd H l (.lst ys))):=by
 intro pins s σ H xs us Q I r h
 obtain ⟨p,ys,rfl,hq,q⟩:=h
 obtain ⟨u,rfl,rx⟩:=z9d r
 cases rx
 have fin:∀ (its:List Value),Vals ys its→ys.length≤sizeLine→∀ (h':Heap) (c':Nat),(∀ b o',s.heap.get? b=some o'→h'.get? b=some o') →
   h'.get? s.heap.objs.size=some { cls:=.type "list",dict:=none,data:=.seq its.toArray c',slots:=#[] }→EP X pins σ Q (.ref s.heap.objs.size) { s with heap:=h' }:=fun its r' hz h' c' kp e =>
  ⟨.ref s.heap.objs.size,_,I.laid (t':=s.toks) kp (Nat.le_refl _) (show ObjOk X.prog X.w _ h' _ (.lst ys) from ⟨hz,its,c',r',e⟩),rfl,q _ (I.hok.fresh (Nat.le_refl _))⟩
 rcases hq with hq|hq
 ·obtain ⟨its,r',pl,hz⟩:=I.list hq
  have hlen:=r'.length
  obtain ⟨o,ho,hc,n,hd⟩:=pl.isList
  exact call_list_seq p (.inl rfl) ho hc hd (fun h' c' kp e=>fin its r' hz h' c' kp e) (by simp only [List.size_toArray] <;> omega)
 ·obtain ⟨its,r',pl,hz⟩:=I.tuple hq
  have hlen:=r'.length
  obtain ⟨o,ho,hc,n,hd⟩:=pl
  exact call_list_seq p (.inr rfl) ho hc hd (fun h' c' kp e=>fin its r' hz h' c' kp e) (by simp only [List.size_toArray] <;> omega)
def tyV (K:PySem.W.Frag) (T:String) (x:V) (H:Hp):Prop:=match x with
 |.str _=>T = "str"
 |.int _=>T = "int"
 |.ref p=>(T = "list"∧∃ xs,SqL K H p xs)∨(T = "tuple"∧∃ o,K.lookup p=some o∧o.cls = .type "tuple"∧o.dict=none) ∨
   (T = "dict"∧((∃ kvs,H p=some (.dK kvs)) ∨ ∃ kvs,H p=some (.dT kvs)))∨(T = "set"∧∃ S n,H p=some (.set S n))
 |_=>False
theorem tyV_is {pins:List (Addr × Obj)}{σ:St}{H:Hp}{s:Shared}{T:String}{x:V}{v:Value}(I:Inv X pins σ H s) (r:RelV x v) (ty:tyV X.K T x H) :
  s.TypeIs v T∧∀ a,v = .ref a→∃ ob,s.heap.get? a=some ob∧ob.dict=none:=by
 cases x with
 |str z =>
  obtain ⟨t,rfl⟩:=r
  cases (show T = "str" from ty)
  exact ⟨typeIs_str s z t,fun _ e=>nomatch e⟩
 |int i =>
  obtain ⟨t,rfl⟩:=r
  cases (show T = "int" from ty)
  exact ⟨typeIs_int s i t,fun _ e=>nomatch e⟩
 |ref p =>
  cases r
  rcases ty with ⟨rfl,xs,hq⟩|⟨rfl,o,hk,hc,hd⟩|⟨rfl,hk⟩|⟨rfl,S,n,hk⟩
  ·obtain ⟨its,_,pl,_⟩:=I.list hq
   refine ⟨pl.isList.typeIs,fun a e=>?_⟩
   cases e
   obtain ⟨o,n,e,c,hd,_⟩:=pl
   exact ⟨o,e,hd⟩
  ·refine ⟨⟨o,I.kIn p o hk,hc⟩,fun a e=>?_⟩
   cases e
   exact ⟨o,I.kIn _ o hk,hd⟩
  ·have z:∃ o,s.heap.get? p=some o∧o.ExactDict:=by
    rcases hk with ⟨kvs,hk⟩|⟨kvs,hk⟩
    ·obtain ⟨_,_,_,_,o,_,_,e,ex,_⟩:=I.hok p _ hk
     exact ⟨o,e,ex⟩
    ·obtain ⟨_,_,_,_,o,_,_,e,ex,_⟩:=I.hok p _ hk
     exact ⟨o,e,ex⟩
   obtain ⟨o,e,ex⟩:=z
   refine ⟨⟨o,e,ex.1⟩,fun a e2=>?_⟩
   cases e2
   exact ⟨o,e,ex.2.1⟩
  ·obtain ⟨o,_,_,_,e,ex,_⟩:=I.hok p _ hk
   refine ⟨⟨o,e,ex.1⟩,fun a e2=>?_⟩
   cases e2
   exact ⟨o,e,ex.2.1⟩
 |_=>exact False.elim ty
def tBM (K:PySem.W.Frag) (T:String) (r:V→List V→Hp→VK→Prop) (to:TE) (t:TA):TE:=fun σ H Q=>to σ H fun x H1=>tyV K T x H1∧t σ H1 fun xs H2=>r x xs H2 Q
variable {o e:Expr}{es:List Expr}{to:TE}{t:TA}{name:Str}{apos cpos:Pos}{T id:String}{r:V→List V→Hp→VK→Prop}
theorem pe_bm (pa:PlainAttrs T) (slot:Slot T name id) (hty:typeOf (.builtin id)=pure (.type "method_descriptor")) (hm:MtR X id r) (ho:PE X o to) (ha:PA X (e::es) t)
  (hbase:attributeBase o name X.env (eval o X.env)=eval o X.env:=by rfl)
  (hfew:((backTo cpos (starEach (e::es) X.env)).all (fun x=>!x.1) && (backToKw cpos (keywordEach [] X.env)).all (fun x=>x.1.isSome)
   && decide ((e::es).length+([]:List Keyword).length+(if ([]:List Keyword).isEmpty then 0 else 1) < 30))=true:=by rfl)
  (hline:(apos.endLine == cpos.line)=true:=by rfl) (hs:starEach (e::es) X.env=(false,eval e X.env)::starEach es X.env:=by rfl) (hplain:(backTo cpos (starEach es X.env)).any (·.1)=false:=by rfl) :
  PE X (.Call (.Attribute o name apos) (e::es) [] cpos) (tBM X.K T r to t):=by
 intro pins s σ H Q I h
 refine wpAny_Call_method_late hbase hfew hline rfl (thn (ho pins s σ H _ I h) fun v s1 ⟨x,H1,I1,r1,ty,q1⟩=>?_)
 obtain ⟨h1,h2⟩:=tyV_is I1 r1 ty
 refine ⟨T,id,pa,slot,hty,h1,h2,?_⟩
 have hA:=ha cpos pins s1 σ H1 _ I1 q1
 rw [hs] at hA ⊢
 refine Calls.callWith_builtin (by show (false || (backTo cpos (starEach es X.env)).any (·.1))=false;rw [hplain] <;> rfl) (Calls.evalArgs_plain ?_)
 exact thn hA fun us s2 ⟨vs,H2,I2,r2,q2⟩=>hm pins s2 σ H2 x vs v us Q I2 r1 r2 q2
end
end L2
namespace L2
open PySem PySem.Spec PyProof.Rows
def MtM (X:Cx) (id:String) (r:V→List V→Hp→VK→Prop):Prop :=
 ∀ (pins:List (Addr × Obj)) (s:Shared) (σ:St) (H:Hp) (x:V) (xs:List V) (v:Value) (us:List Value) (Q:VK),Inv X pins σ H s→RelV x v→Vals xs us→r x xs H Q →
  wpAny (model X.prog X.w) X.A (call (.builtin id) (v::us)) (EP X pins σ Q) X.xe s
theorem Vals.one:∀ {x:V}{us:List Value},Vals [x] us→∃ u,us=[u]∧RelV x u
 |_,_,.cons r .nil=>⟨_,rfl,r⟩
theorem Vals.zero:∀ {us:List Value},Vals [] us→us=[]
 |_,.nil=>rfl
theorem Vals.dropLast {xs:List V}{us:List Value}(h:Vals xs us):Vals xs.dropLast us.dropLast:=by
 induction h with
 |nil=>exact .nil
 |cons r t ih =>
  cases t with
  |nil=>exact .nil
  |cons q t'=>exact .cons r ih
theorem Vals.reverse {xs:List V}{us:List Value}(h:Vals xs us):Vals xs.reverse us.reverse:=by
 induction h with
 |nil=>exact .nil
 |cons r t ih=>rw [List.reverse_cons,List.reverse_cons];exact Vals.append ih (.cons r .nil)
theorem erase_last {α:Type}(l:List α):l.eraseIdx (l.length - 1)=l.dropLast:=by
 induction l with
 |nil=>rfl
 |cons a r ih =>
  cases r with
  |nil=>rfl
  |cons b r =>
   have e:(a::b::r).length - 1=((b::r).length - 1)+1:=by
    have h1:(a::b::r).length=r.length+2:=rfl
    have h2:(b::r).length=r.length+1:=rfl
    omega
   rw [e,List.eraseIdx_cons_succ,ih]
   all_goals rfl
section
variable {X:Cx}{pins:List (Addr × Obj)}{σ:St}{H:Hp}{s:Shared}{l b:Addr}{xs ys zs:List V}
theorem Inv.lset {its its':List Value}{n:Nat}{f:Array Value→Array Value}{t':Nat}(I:Inv X pins σ H s) (hH:H l=some (.lst xs))
  (e:s.heap.get? l=some { cls:=.type "list",data:=.seq its.toArray n }) (hf:f its.toArray=its'.toArray) (hv:Vals ys its') (hz:ys.length≤sizeLine) :
  Inv X pins σ (upd H l (.lst ys)) { s with heap:=s.heap.update l (Obj.mapSeq f),toks:=t' }:=by
 have q:=PySem.IsL.update e f
 rw [hf] at q
 refine I.write (x:=l) (e:=l) (by rw [hH];exact trivial) (.inl rfl) (fun b' u hb hu=>(Heap.get?_update_other s.heap (Obj.mapSeq f) (Ne.symm hb)).trans hu) ⟨_,q⟩ ?_
 exact ⟨hz,its',_,hv,q⟩
theorem Inv.lnew {its:List Value}{t':Nat}(I:Inv X pins σ H s) (hv:Vals ys its) (hz:ys.length≤sizeLine) :
  Inv X pins σ (upd H s.heap.objs.size (.lst ys)) { s with heap:=s.heap.push { cls:=.type "list",data:=.seq its.toArray },toks:=t' } :=
 I.laid (fun _ _ q=>Heap.get?_push_of_some _ q) (Nat.le_refl _) ⟨hz,its,0,hv,Heap.get?_push_size _ rfl⟩
theorem Inv.fresh (I:Inv X pins σ H s):H s.heap.objs.size=none:=I.hok.fresh (Nat.le_refl _)
theorem Inv.lstM (I:Inv X pins σ H s) (hH:H l=some (.lst xs)):xs.length≤sizeLine∧∃ (its:List Value) (n:Nat),Vals xs its∧xs.length=its.length∧s.heap.get? l=some { cls:=.type "list",data:=.seq its.toArray n }:=by
 obtain ⟨z,its,n,r,e⟩:=I.hok l _ hH
 exact ⟨z,its,n,r,r.length,e⟩
theorem notLongL {n:Nat}(h:n≤sizeLine):Builtin.List.listTooLong n=false:=by
 unfold Builtin.List.listTooLong
 exact decide_eq_false (by omega)
end
section
variable {X:Cx}
def z4e:V→List V→Hp→VK→Prop:=fun x vs H Q=>∃ l xs y,x = .ref l∧vs=[y]∧H l=some (.lst xs)∧xs.length < sizeLine∧Q .non (upd H l (.lst (xs ++ [y])))
theorem z1v:MtM X "list.append" z4e:=by
 intro pins s σ H x vs v us Q I rx rv h
 obtain ⟨l,xs,y,rfl,rfl,hH,hz,q⟩:=h
 cases rx
 obtain ⟨u,rfl,ru⟩:=rv.one
 obtain ⟨z,its,n,r,hl,e⟩:=I.lstM hH
 refine call_meets F.slot_list_append ⟨_,e,rfl⟩ F.entry_list_append (F.args_list_append_2 _ _) (PySem.list_append l its.toArray n u (by rw [List.size_toArray];omega)) ⟨e,?_⟩
 refine ⟨.non,_,I.lset (its':=its ++ [u]) hH e (by simp) (r.append (.cons ru .nil)) ?_,rfl,q⟩
 rw [List.length_append,List.length_singleton]
 omega
def z4q:V→List V→Hp→VK→Prop:=fun x vs H Q=>∃ l b xs zs,x = .ref l∧vs=[.ref b]∧H l=some (.lst xs)∧H b=some (.lst zs)∧xs.length+zs.length≤sizeLine∧Q .non (upd H l (.lst (xs ++ zs)))
theorem z6q:MtM X "list.extend" z4q:=by
 intro pins s σ H x vs v us Q I rx rv h
 obtain ⟨l,b,xs,zs,rfl,rfl,hH,hB,hz,q⟩:=h
 cases rx
 obtain ⟨u,rfl,ru⟩:=rv.one
 cases ru
 obtain ⟨z,its,n,r,hl,e⟩:=I.lstM hH
 obtain ⟨z2,its2,n2,r2,hl2,e2⟩:=I.lstM hB
 have hsz:its.toArray.size+its2.toArray.size≤sizeLine:=by rw [List.size_toArray,List.size_toArray];omega
 have hlong:¬ (!its.toArray.isEmpty && Builtin.List.listTooLong (its.toArray.size+its2.toArray.size))=true:=by
  rw [notLongL hsz,Bool.and_false]
  exact Bool.false_ne_true
 refine call_meets F.slot_list_extend ⟨_,e,rfl⟩ F.entry_list_extend (F.args_list_extend_2 _ _)
  (AutoSeq1.list_extend_list_list_0 l its.toArray n b its2.toArray n2 hlong (by rw [List.size_toArray];omega) (by omega)) ⟨e,e2,?_⟩
 refine ⟨.non,_,I.lset (its':=its ++ its2) hH e (by simp) (r.append r2) ?_,rfl,q⟩
 rw [List.length_append]
 omega
def rPop:V→List V→Hp→VK→Prop:=fun x vs H Q=>∃ l xs y,x = .ref l∧vs=[]∧H l=some (.lst xs)∧xs[xs.length - 1]? = some y∧Q y (upd H l (.lst xs.dropLast))
theorem y6h:MtM X "list.pop" rPop:=by
 intro pins s σ H x vs v us Q I rx rv h
 obtain ⟨l,xs,y,rfl,rfl,hH,hy,q⟩:=h
 cases rx
 have hus:=rv.zero
 subst hus
 obtain ⟨z,its,n,r,hl,e⟩:=I.lstM hH
 obtain ⟨u,hu,ru⟩:=r.get hy
 have hy':its.toArray[its.toArray.size - 1]? = some u:=by
  show its.toArray[its.length - 1]? = some u
  rw [← Array.getElem?_toList,← hl]
  exact hu
 refine call_meets F.slot_list_pop ⟨_,e,rfl⟩ F.entry_list_pop (F.args_list_pop_1 _) (MeetsSeq.list_pop_last l its.toArray n u hy' (by rw [List.size_toArray];omega)) ⟨e,?_⟩
 refine ⟨y,_,I.lset (its':=its.dropLast) hH e ?_ r.dropLast ?_,ru,q⟩
 ·show its.toArray.eraseIdxIfInBounds (its.toArray.size - 1)=its.dropLast.toArray
  rw [List.size_toArray,List.eraseIdxIfInBounds_toArray,erase_last]
 ·rw [List.length_dropLast]
  omega
def rCat:R2:=fun x y H Q=>∃ l b xs zs,x = .ref l∧y = .ref b∧H l=some (.lst xs)∧H b=some (.lst zs)∧xs.length+zs.length≤sizeLine∧∀ p,H p=none→Q (.ref p) (upd H p (.lst (xs ++ zs)))
theorem z3j:OpR X (binaryOp .Add) rCat:=by
 intro pins s σ H x y v u Q I rx ry h
 obtain ⟨l,b,xs,zs,rfl,rfl,hH,hB,hz,q⟩:=h
 cases rx
 cases ry
 obtain ⟨z,its,n,r,hl,e⟩:=I.lstM hH
 obtain ⟨z2,its2,n2,r2,hl2,e2⟩:=I.lstM hB
 refine PySem.P.add_list e e2 ?_ (by rw [List.size_toArray,List.size_toArray];omega)
 have ea:its.toArray ++ its2.toArray=(its ++ its2).toArray:=by simp
 rw [ea]
 exact ⟨.ref _,_,I.lnew (t':=s.toks) (r.append r2) (by rw [List.length_append];omega),rfl,q _ I.fresh⟩
end
section
variable {prog:Program}{w:World}{A:Around}{E:Value→Shared→Prop}{s:Shared}
set_option maxRecDepth 100000 in
end
section
variable {X:Cx}
end
end L2
namespace L2
open PySem PySem.Spec PyProof.Rows
section
variable {κ:Type}[DecidableEq κ]
def valV (kvs:List (κ × V)) (k:κ):Option V:=(kvs.find? fun kv=>decide (kv.1=k)).map (·.2)
def putK (kvs:List (κ × V)) (k:κ) (v:V):List (κ × V) :=
 if (kvs.any fun kv=>decide (kv.1=k))=true then kvs.map (fun kv=>if kv.1=k then (kv.1,v) else kv) else kvs ++ [(k,v)]
theorem y0m {p:κ × V}{r:List (κ × V)}{k:κ}(e:p.1=k):valV (p::r) k=some p.2:=by simp [valV,List.find?_cons,e]
theorem y1h {p:κ × V}{r:List (κ × V)}{k:κ}(e:¬ p.1=k):valV (p::r) k=valV r k:=by simp [valV,List.find?_cons,e]
theorem y6b (k:κ):∀ kvs:List (κ × V),(kvs.any fun kv=>decide (kv.1=k))=(valV kvs k).isSome
 | []=>rfl
 |p::r=>by
  rw [List.any_cons]
  by_cases e:p.1=k
  ·simp only [y0m e,decide_eq_true e,Bool.true_or,Option.isSome_some]
  ·rw [y1h e,decide_eq_false e,Bool.false_or];exact y6b k r
theorem z6a (kvs:List (κ × V)) (k:κ) (v:V):(putK kvs k v).length≤kvs.length+1:=by
 unfold putK
 split
 ·rw [List.length_map];omega
 ·rw [List.length_append,List.length_cons,List.length_nil];omega
theorem RelO.isSome_eq {o:Option V}{u:Option Value}(r:RelO o u):o.isSome=u.isSome:=by
 cases o with
 |none=>cases u with
  |none=>rfl
  |some _=>exact (show False from r).elim
 |some _=>cases u with
  |none=>exact (show False from r).elim
  |some _=>rfl
theorem KV.val {kvs:List (κ × V)}{vs:List (κ × Value)}(r:KV kvs vs) (k:κ):RelO (valV kvs k) (valueAt vs k):=by
 unfold KV at r
 induction r with
 |nil=>exact True.intro
 | @cons p q ps qs h t ih =>
  obtain ⟨h1,h2⟩:=h
  by_cases e:p.1=k
  ·have e':q.1=k:=h1.symm.trans e
   have b:valueAt (q::qs) k=some q.2:=by simp [valueAt,List.find?_cons,e']
   rw [y0m e,b];exact h2
  ·have e':¬ q.1=k:=fun z=>e (h1.trans z)
   have b:valueAt (q::qs) k=valueAt qs k:=by simp [valueAt,List.find?_cons,e']
   rw [y1h e,b];exact ih
theorem KV.any {kvs:List (κ × V)}{vs:List (κ × Value)}(r:KV kvs vs) (k:κ):(kvs.any fun kv=>decide (kv.1=k))=vs.any fun kv=>decide (kv.1=k):=by
 unfold KV at r
 induction r with
 |nil=>rfl
 |cons h t ih=>rw [List.any_cons,List.any_cons,ih,h.1]
theorem KV.repl {kvs:List (κ × V)}{vs:List (κ × Value)}(r:KV kvs vs) (k:κ) {y:V}{u:Value}(ry:RelV y u) :
  KV (kvs.map fun kv=>if kv.1=k then (kv.1,y) else kv) (vs.map fun kv=>if kv.1=k then (kv.1,u) else kv):=by
 unfold KV at r ⊢
 induction r with
 |nil=>exact .nil
 | @cons p q ps qs h t ih =>
  rw [List.map_cons,List.map_cons]
  refine .cons ?_ ih
  obtain ⟨h1,h2⟩:=h
  by_cases e:p.1=k
  ·rw [if_pos e,if_pos (h1.symm.trans e)];exact ⟨h1,ry⟩
  ·rw [if_neg e,if_neg (fun z=>e (h1.trans z))];exact ⟨h1,h2⟩
theorem KV.put {kvs:List (κ × V)}{vs:List (κ × Value)}(r:KV kvs vs) (k:κ) {y:V}{u:Value}(ry:RelV y u):KV (putK kvs k y) (stored vs k u):=by
 unfold putK stored
 rw [r.any k]
 by_cases e:(vs.any fun kv=>decide (kv.1=k))=true
 ·rw [if_pos e,if_pos e];exact r.repl k ry
 ·rw [if_neg e,if_neg e];exact Paired.snoc r ⟨rfl,ry⟩
theorem KV.length {kvs:List (κ × V)}{vs:List (κ × Value)}(r:KV kvs vs):kvs.length=vs.length:=Paired.length r
end
theorem y7c {P:Program}{w:World}{k:Key}{u:Value}(r:RelV (kV k) u):(z1t P w).is k u=true:=by
 cases k with
 |inl i=>obtain ⟨t,e⟩:=(show ∃ t,u=Value.int i t from r);subst e;exact y4p P w i t
 |inr x=>obtain ⟨t,e⟩:=(show ∃ t,u=Value.str x t from r);subst e;exact y4u P w x t
theorem y2p {P:Program}{w:World}:∀ {ks:List Key}{us:List Value},Vals (ks.map kV) us→ItemsAre (z1t P w) ks us
 | [],_,r=>by rw [List.map_nil] at r;cases r;exact .nil
 |k::ks,_,r=>by
  rw [List.map_cons] at r
  cases r with
  |cons h t=>exact .cons (y7c h) (y2p t)
abbrev KT (H:Hp):List (List Key × V)→List (List Key × Addr × Value)→Prop:=Paired fun p q=>p.1=q.1∧H q.2.1=some (.tup (p.1.map kV))∧RelV p.2 q.2.2
theorem KT.val {H:Hp}{kvs:List (List Key × V)}{xs:List (List Key × Addr × Value)}(r:KT H kvs xs) (k:List Key):RelO (valV kvs k) ((atKey xs k).map (·.2)):=by
 induction r with
 |nil=>exact True.intro
 | @cons p q ps qs h t ih =>
  obtain ⟨h1,_,h2⟩:=h
  by_cases e:p.1=k
  ·have e':q.1=k:=h1.symm.trans e
   have b:atKey (q::qs) k=some q.2:=by simp [atKey,List.find?_cons,e']
   rw [y0m e,b];exact h2
  ·have e':¬ q.1=k:=fun z=>e (h1.trans z)
   have b:atKey (q::qs) k=atKey qs k:=by simp [atKey,List.find?_cons,e']
   rw [y1h e,b];exact ih
theorem KT.repl {H:Hp}{kvs:List (List Key × V)}{xs:List (List Key × Addr × Value)}(r:KT H kvs xs) (k:List Key) {y:V}{u:Value}(ry:RelV y u) :
  KT H (kvs.map fun kv=>if kv.1=k then (kv.1,y) else kv) (xs.map (putAt k u)):=by
 induction r with
 |nil=>exact .nil
 | @cons p q ps qs h t ih =>
  rw [List.map_cons,List.map_cons]
  refine .cons ?_ ih
  obtain ⟨h1,h2,h3⟩:=h
  unfold putAt
  by_cases e:p.1=k
  ·rw [if_pos e,if_pos (h1.symm.trans e)];exact ⟨h1,h2,ry⟩
  ·rw [if_neg e,if_neg (fun z=>e (h1.trans z))];exact ⟨h1,h2,h3⟩
theorem KT.put {H:Hp}{kvs:List (List Key × V)}{xs:List (List Key × Addr × Value)}(r:KT H kvs xs) (k:List Key) {b:Addr}{y:V}{u:Value}(hb:H b=some (.tup (k.map kV))) (ry:RelV y u) :
  KT H (putK kvs k y) (storedH xs k b u):=by
 have e:(kvs.any fun kv=>decide (kv.1=k))=(atKey xs k).isSome:=by
  rw [y6b,(r.val k).isSome_eq,Option.isSome_map]
 unfold putK storedH
 rw [e]
 by_cases q:(atKey xs k).isSome=true
 ·rw [if_pos q,if_pos q];exact r.repl k ry
 ·rw [if_neg q,if_neg q];exact Paired.snoc r ⟨rfl,hb,ry⟩
theorem KT.keeps {H H':Hp}{kvs:List (List Key × V)}{xs:List (List Key × Addr × Value)}(r:KT H kvs xs) (ht:∀ b ys,H b=some (.tup ys)→H' b=some (.tup ys)):KT H' kvs xs :=
 Paired.mapP r fun _ _ z=>⟨z.1,ht _ _ z.2.1,z.2.2⟩
section
variable {P:Program}{w:World}{H:Hp}{h:Heap}{a:Addr}
theorem rd_of {u:HO}(ok:HOk P w H h) (e:Rd H a u):ObjOk P w H h a u:=e.ok ok
theorem dk_rd {kvs:List (Key × V)}(ok:HOk P w H h) (e:Rd H a (.dK kvs)):kvs.length≤sizeLine∧(a == sysModules)=false∧∃ vs,KV kvs vs∧h.DictOf (z1t P w) a vs :=
 show ObjOk P w H h a (.dK kvs) from rd_of ok e
theorem dk_of {kvs:List (Key × V)}(ok:HOk P w H h) (e:H a=some (.dK kvs)):kvs.length≤sizeLine∧(a == sysModules)=false∧∃ vs,KV kvs vs∧h.DictOf (z1t P w) a vs:=dk_rd ok (.inl e)
theorem y3k {ks:List Key}(ok:HOk P w H h) (e:H a=some (.tup (ks.map kV))):(tupleKind (z1t P w)).is h ks a:=by
 obtain ⟨_,its,r,o,h1,h2,n,h3⟩:=(show ObjOk P w H h a (.tup (ks.map kV)) from ok a _ e)
 exact ⟨o,its.toArray,n,h1,h2,h3,by simpa using y2p r⟩
theorem dt_rd {kvs:List (List Key × V)}(ok:HOk P w H h) (e:Rd H a (.dT kvs)):kvs.length≤sizeLine∧(a == sysModules)=false ∧
  ∃ xs,KT H kvs xs∧h.DictOfH (tupleKind (z1t P w)) a xs:=by
 obtain ⟨z,y,xs,r,o,es,ep,h1,h2,h3,h4,h5⟩:=(show ObjOk P w H h a (.dT kvs) from rd_of ok e)
 refine ⟨z,y,xs,r,o,es,ep,h1,h2,h3,h4,fun x hx=>?_,h5⟩
 have all:∀ {l:List (List Key × V)}{m:List (List Key × Addr × Value)},KT H l m→∀ x∈m,(tupleKind (z1t P w)).is h x.1 x.2.1:=by
  intro l m q
  induction q with
  |nil=>intro x hx;exact nomatch hx
  | @cons p q ps qs hq t ih =>
   intro x hx
   rcases List.mem_cons.mp hx with e|hx
   ·subst e
    exact y3k ok (by rw [← hq.1];exact hq.2.1)
   ·exact ih x hx
 exact all r x hx
theorem dt_of {kvs:List (List Key × V)}(ok:HOk P w H h) (e:H a=some (.dT kvs)):kvs.length≤sizeLine∧(a == sysModules)=false ∧
  ∃ xs,KT H kvs xs∧h.DictOfH (tupleKind (z1t P w)) a xs:=dt_rd ok (.inl e)
end
def DGet (H:Hp) (a:Addr) (y:V) (r:Option V):Prop :=
 (∃ kvs k,Rd H a (.dK kvs)∧y=kV k∧r=valV kvs k) ∨ ∃ kvs k b,Rd H a (.dT kvs)∧y = .ref b∧H b=some (.tup (k.map kV))∧r=valV kvs k
def DPut (H:Hp) (a:Addr) (y v:V) (H':Hp):Prop :=
 (∃ kvs k,H a=some (.dK kvs)∧y=kV k∧kvs.length < sizeLine∧H' = upd H a (.dK (putK kvs k v))) ∨
 ∃ kvs k b,H a=some (.dT kvs)∧y = .ref b∧H b=some (.tup (k.map kV))∧kvs.length < sizeLine∧H' = upd H a (.dT (putK kvs k v))
theorem DGet.k {H:Hp}{a:Addr}{kvs:List (Key × V)}{k:Key}(e:H a=some (.dK kvs)):DGet H a (kV k) (valV kvs k):=.inl ⟨kvs,k,.inl e,rfl,rfl⟩
theorem DPut.k {H:Hp}{a:Addr}{kvs:List (Key × V)}{k:Key}{v:V}(e:H a=some (.dK kvs)) (hl:kvs.length < sizeLine):DPut H a (kV k) v (upd H a (.dK (putK kvs k v))):=.inl ⟨kvs,k,e,rfl,hl,rfl⟩
section
variable {X:Cx}{pins:List (Addr × Obj)}{σ:St}{H:Hp}{s:Shared}{a:Addr}{y v:V}{u r:Value}{o:Option V}{A:Around}{E:Value→Shared→Prop}
theorem Inv.big (I:Inv X pins σ H s):sysModules < s.heap.objs.size:=by
 have h:mainGlobals < s.heap.objs.size:=(I.mod.glob.keeps I.bk).lt
 exact Nat.lt_trans (by decide) h
theorem d_getItem {Q:Value→Shared→Prop}(hu:A.units+1 < cLine) (I:Inv X pins σ H s) (g:DGet H a y (some v)) (ry:RelV y u) (h:∀ w' s',Inv X pins σ H s'→RelV v w'→Q w' s') :
  wpAny (model X.prog X.w) A (getItem (.ref a) u) Q E s:=by
 rcases g with ⟨kvs,k,e,ey,l⟩|⟨kvs,k,b,e,ey,eb,l⟩
 ·subst ey
  obtain ⟨z,hd,vs,rel,dd⟩:=dk_rd I.hok e
  obtain ⟨w',hw,rw'⟩:=RelO.some_of (v:=v) (o:=valueAt vs k) (by rw [l];exact rel.val k)
  exact wpAny_getItem_of (y7c ry) dd.mapOf hw (h w' _ (I.tok _) rw')
 ·subst ey
  cases (show u=Value.ref b from ry)
  obtain ⟨z,hd,xs,rel,dd⟩:=dt_rd I.hok e
  obtain ⟨w',hw,rw'⟩:=RelO.some_of (v:=v) (o:=(atKey xs k).map (·.2)) (by rw [l];exact rel.val k)
  obtain ⟨p,hp,hp2⟩:=Option.map_eq_some_iff.mp hw
  refine wpAny_getItem_heap (tupleKind_room_in1 hu) (y3k I.hok eb) dd hp ?_
  rw [hp2]
  exact h w' _ (I.tok _) rw'
theorem d_in {Q:Value→Shared→Prop}(hu:A.units+1 < cLine) (I:Inv X pins σ H s) (g:DGet H a y o) (ry:RelV y u) (h:∀ s',Inv X pins σ H s'→Q (.bool o.isSome) s') :
  wpAny (model X.prog X.w) A (compareOp .In u (.ref a)) Q E s:=by
 rcases g with ⟨kvs,k,e,ey,l⟩|⟨kvs,k,b,e,ey,eb,l⟩
 ·subst ey
  obtain ⟨z,hd,vs,rel,dd⟩:=dk_rd I.hok e
  refine wpAny_in_of (y7c ry) hd dd.mapOf ?_
  rw [← (rel.val k).isSome_eq,← l]
  exact h _ (I.tok _)
 ·subst ey
  cases (show u=Value.ref b from ry)
  obtain ⟨z,hd,xs,rel,dd⟩:=dt_rd I.hok e
  refine wpAny_in_heap (tupleKind_room_in1 hu) (y3k I.hok eb) hd dd ?_
  have q:=(rel.val k).isSome_eq
  rw [Option.isSome_map] at q
  rw [← q,← l]
  exact h _ (I.tok _)
theorem d_notIn {Q:Value→Shared→Prop}(hu:A.units+1 < cLine) (I:Inv X pins σ H s) (g:DGet H a y o) (ry:RelV y u) (h:∀ s',Inv X pins σ H s'→Q (.bool (!o.isSome)) s') :
  wpAny (model X.prog X.w) A (compareOp .NotIn u (.ref a)) Q E s:=by
 rcases g with ⟨kvs,k,e,ey,l⟩|⟨kvs,k,b,e,ey,eb,l⟩
 ·subst ey
  obtain ⟨z,hd,vs,rel,dd⟩:=dk_rd I.hok e
  refine wpAny_notIn_of (y7c ry) hd dd.mapOf ?_
  rw [← (rel.val k).isSome_eq,← l]
  exact h _ (I.tok _)
 ·subst ey
  cases (show u=Value.ref b from ry)
  obtain ⟨z,hd,xs,rel,dd⟩:=dt_rd I.hok e
  refine wpAny_notIn_heap (tupleKind_room_in1 hu) (y3k I.hok eb) hd dd ?_
  have q:=(rel.val k).isSome_eq
  rw [Option.isSome_map] at q
  rw [← q,← l]
  exact h _ (I.tok _)
theorem d_write {h':Heap}{t':Nat}{ob:HO}(I:Inv X pins σ H s) (mu:Mut (H a)) (hs:Heap.SameBut a s.heap h') (he:∃ q,h'.get? a=some q) (new:ObjOk X.prog X.w (upd H a ob) h' a ob) :
  Inv X pins σ (upd H a ob) { s with heap:=h',toks:=t' } :=
 I.write (x:=a) (e:=a) mu (.inl rfl) (fun b q hb z=>(hs.2 b hb).trans z) he new
theorem dk_new {P:Program}{w:World}{H':Hp}{h':Heap}{kvs:List (Key × V)}{vs:List (Key × Value)}(z:kvs.length≤sizeLine) (hd:(a == sysModules)=false) (rel:KV kvs vs) (dd:h'.DictOf (z1t P w) a vs) :
  ObjOk P w H' h' a (.dK kvs):=⟨z,hd,vs,rel,dd⟩
theorem d_setItem {H':Hp}{Q:Unit→Shared→Prop}(hu:A.units+1 < cLine) (I:Inv X pins σ H s) (g:DPut H a y v H') (ry:RelV y u) (rv:RelV v r) (h:∀ s',Inv X pins σ H' s'→Q () s') :
  wpAny (model X.prog X.w) A (setItem (.ref a) u r) Q E s:=by
 rcases g with ⟨kvs,k,e,ey,l,eH⟩|⟨kvs,k,b,e,ey,eb,l,eH⟩
 ·subst ey eH
  obtain ⟨z,hd,vs,rel,dd⟩:=dk_of I.hok e
  have hz:vs.length≤sizeLine:=by rw [← rel.length];exact z
  have hl:(putK kvs k v).length≤sizeLine:=by have:=z6a kvs k v;omega
  refine wpAny_setItem_pairs (hsz:=hz) (y7c ry) dd fun h' dd' hs=>h _ ?_
  have he:∃ q,h'.get? a=some q:=let ⟨q,_,_,hq,_⟩:=dd';⟨q,hq⟩
  exact d_write I (by rw [e];exact True.intro) hs he (dk_new hl hd (rel.put k rv) dd')
 ·subst ey eH
  cases (show u=Value.ref b from ry)
  obtain ⟨z,hd,xs,rel,dd⟩:=dt_of I.hok e
  have hz:xs.length≤sizeLine:=by rw [← Paired.length rel];exact z
  have hl:(putK kvs k v).length≤sizeLine:=by have:=z6a kvs k v;omega
  refine wpAny_setItem_heap (hsz:=hz) (tupleKind_room_in1 hu) (y3k I.hok eb) dd fun h' dd' hs=>h _ ?_
  obtain ⟨q,es,ep,hq,h2,h3,h4,_,h5⟩:=dd'
  refine d_write I (by rw [e];exact True.intro) hs ⟨q,hq⟩ ⟨hl,hd,_,(rel.put k eb rv).keeps fun c ys ec=>?_,q,es,ep,hq,h2,h3,h4,h5⟩
  rw [z0f (z6c ec e (fun z=>nomatch z))]
  exact ec
end
section
variable {X:Cx}{pins:List (Addr × Obj)}{σ:St}{H:Hp}{s:Shared}{a:Addr}{kvs:List (Key × V)}{k:Key}{u:Value}{A:Around}{E:Value→Shared→Prop}
end
def NoSl (i:Expr):Prop:=∀ ov iv,subscripted i false ov iv=operate [ov,iv] (getItem ov iv)
theorem subD_of {prog:Program}{w:World}{A:Around}{E:Value→Shared→Prop}{s:Shared}{env:Env}{value slice:Expr}{pos:Pos}{T id:String}{Q:Value→Shared→Prop}
  (hl:typeLookup (.type T) "__getitem__" = pure (some (.builtin id))) (hs:NoSl slice)
  (h:wpAny (model prog w) A (eval value env) (fun o s₁=>wpAny (model prog w) A (eval slice env) (fun i s₂=>s₂.TypeIs o T∧wpAny (model prog w) A (getItem o i) Q E s₂) E s₁) E s) :
  wpAny (model prog w) A (eval (.Subscript value slice pos) env) Q E s:=by
 refine Subscript_ (wpAny_mono h (fun o s₁ h₁=>wpAny_mono h₁ (fun i s₂ h₂=>?_) fun _ _ x=>x) fun _ _ x=>x)
 obtain ⟨hT,h₂⟩:=h₂
 unfold subscriptTail
 refine wpAny_bind ?_
 rw [getitemInPython_of_ne hT.not_modules]
 refine wpAny_bind (wpAny_specialOf hT hl ?_)
 have fin:wpAny (model prog w) A (subscripted slice false o i) (fun r s₃=>wpAny (model prog w) A (letTemporaryGo value o r >>= fun _=>pure r) Q E s₃) E s₂:=by
  rw [hs o i]
  exact wpAny_operating (wpAny_mono h₂ (fun r s₃ h₃=>wpAny_bind (wpAny_letTemporaryGo (wpAny_pure h₃))) fun _ _ x=>x)
 first
  |exact wpAny_pure (wpAny_bind fin)
  |exact wpAny_bind (wpAny_pure (wpAny_bind fin))
  |exact wpAny_bind fin
theorem y4b {X:Cx}{pins:List (Addr × Obj)}{σ:St}{H:Hp}{s:Shared}{a:Addr}{y:V}{o:Option V}(I:Inv X pins σ H s) (g:DGet H a y o):s.TypeIs (.ref a) "dict":=by
 rcases g with ⟨kvs,k,e,_,_⟩|⟨kvs,k,b,e,_,_,_⟩
 ·obtain ⟨_,_,vs,_,dd⟩:=dk_rd I.hok e
  exact dd.typeIs
 ·obtain ⟨_,_,xs,_,dd⟩:=dt_rd I.hok e
  exact dd.typeIs
def y4w (td ty:TE):TE:=fun σ H Q=>td σ H fun x H1=>ty σ H1 fun y H2=>∃ a v,x = .ref a∧DGet H2 a y (some v)∧Q v H2
def tDIn (ty td:TE):TE:=fun σ H Q=>ty σ H fun y H1=>td σ H1 fun x H2=>∃ a o,x = .ref a∧DGet H2 a y o∧Q (.bl o.isSome) H2
def z4w (ty td:TE):TE:=fun σ H Q=>ty σ H fun y H1=>td σ H1 fun x H2=>∃ a o,x = .ref a∧DGet H2 a y o∧Q (.bl (!o.isSome)) H2
def y5o (td ty tv:TE):TS:=fun D σ H=>tv σ H fun v H1=>td σ H1 fun x H2=>ty σ H2 fun y H3=>∃ a H4,x = .ref a∧DPut H3 a y v H4∧D.nx σ H4
section
variable {X:Cx}{o i e value:Expr}{pos pos' tpos:Pos}{td ty tv:TE}
theorem y4j (hu:X.A.units+1 < cLine) (ho:PE X o td) (hi:PE X i ty) (hs:NoSl i):PE X (.Subscript o i pos) (y4w td ty):=by
 intro pins s σ H Q I h
 refine subD_of PySem.F.slot_dict_getitem.lookup hs (thn (ho pins s σ H _ I h) fun u s1 ⟨x,H1,I1,rx,q1⟩=>thn (hi pins s1 σ H1 _ I1 q1) fun iv s2 ⟨y,H2,I2,ry,a,v,ex,g,q2⟩=>?_)
 subst ex
 obtain rfl:u=Value.ref a:=rx
 exact ⟨y4b I2 g,d_getItem hu I2 g ry fun w' s3 I3 rw'=>⟨v,H2,I3,rw',q2⟩⟩
theorem y6m (hu:X.A.units+1 < cLine) (hi:PE X i ty) (ho:PE X o td):PC X .In i o (tDIn ty td):=by
 intro pins s σ H Q I h
 refine thn (hi pins s σ H _ I h) fun iv s1 ⟨y,H1,I1,ry,q1⟩=>thn (ho pins s1 σ H1 _ I1 q1) fun u s2 ⟨x,H2,I2,rx,a,ov,ex,g,q2⟩=>?_
 subst ex
 obtain rfl:u=Value.ref a:=rx
 exact d_in hu I2 g ry fun s3 I3=>⟨.bl ov.isSome,H2,I3,rfl,q2⟩
theorem z8a (hu:X.A.units+1 < cLine) (hi:PE X i ty) (ho:PE X o td):PC X .NotIn i o (z4w ty td):=by
 intro pins s σ H Q I h
 refine thn (hi pins s σ H _ I h) fun iv s1 ⟨y,H1,I1,ry,q1⟩=>thn (ho pins s1 σ H1 _ I1 q1) fun u s2 ⟨x,H2,I2,rx,a,ov,ex,g,q2⟩=>?_
 subst ex
 obtain rfl:u=Value.ref a:=rx
 exact d_notIn hu I2 g ry fun s3 I3=>⟨.bl (!ov.isSome),H2,I3,rfl,q2⟩
theorem ps_dput (hu:X.A.units+1 < cLine) (ho:PE X o td) (hi:PE X i ty) (hv:PE X value tv) (hs:swapsWith value (some (.Subscript o i pos')) pos.line X.env=pure false) :
  PS X (.Assign [.Subscript o i pos'] value pos) (y5o td ty tv):=by
 intro pins s σ H D I h
 refine wpAny_Assign_Subscript (thn (hv pins s σ H _ I h) fun r s1 ⟨v,H1,I1,rv,q1⟩=>thn (ho pins s1 σ H1 _ I1 q1) fun u s2 ⟨x,H2,I2,rx,q2⟩=>thn (hi pins s2 σ H2 _ I2 q2) fun iv s3 ⟨y,H3,I3,ry,a,H4,ex,g,q3⟩=>?_) hs
 subst ex
 obtain rfl:u=Value.ref a:=rx
 exact d_setItem hu I3 g ry rv fun s4 I4=>⟨σ,H4,I4,q3⟩
end
theorem dk_empty {P:Program}{w:World}{H:Hp}(h:Heap) (hb:sysModules < h.objs.size):ObjOk P w H (h.push { cls:=.type "dict",data:=.dict #[] }) h.objs.size (.dK []) :=
 ⟨Nat.zero_le _,beq_eq_false_iff_ne.mpr (Ne.symm (Nat.ne_of_lt hb)),[],.nil,Heap.DictOf.new h⟩
def z8g:TE:=fun _ H Q=>∀ p,H p=none→Q (.ref p) (upd H p (.dK []))
section
variable {X:Cx}{pos:Pos}
theorem y6w:PE X (.Dict [] [] pos) z8g:=fun pins s σ H Q I h =>
 wpAny_Dict_empty ⟨.ref s.heap.objs.size,_,I.laid (a:=s.heap.objs.size) (o:=.dK []) (t':=s.toks) (fun _ _ q=>Heap.get?_push_of_some _ q) (Nat.le_refl _) (dk_empty s.heap I.big),rfl,h _ (I.hok.fresh (Nat.le_refl _))⟩
end
def z2n (kvs more:List (Key × V)):List (Key × V):=more.foldl (fun acc kv=>putK acc kv.1 kv.2) kvs
theorem KV.merge:∀ {more:List (Key × V)}{rs:List (Key × Value)}{kvs:List (Key × V)}{vs:List (Key × Value)},KV more rs→KV kvs vs→KV (z2n kvs more) (merged vs rs):=by
 intro more rs kvs vs r
 unfold KV at r
 induction r generalizing kvs vs with
 |nil=>intro q;exact q
 | @cons p q ps qs h t ih =>
  intro r0
  have e:KV (putK kvs p.1 p.2) (stored vs q.1 q.2):=by
   have:=r0.put p.1 h.2
   rw [← h.1];exact this
  exact ih e
structure M1 (X:Cx) (o:Expr) (m:Str) (apos:Pos) (e:Expr) (cpos:Pos):Prop where
 base:attributeBase o m X.env (eval o X.env)=eval o X.env
 few:((backTo cpos (starEach [e] X.env)).all (fun x=>!x.1) && (backToKw cpos (keywordEach [] X.env)).all (fun x=>x.1.isSome)
  && decide (([e]:List Expr).length+([]:List Keyword).length+(if ([]:List Keyword).isEmpty then 0 else 1) < 30))=true
 line:(apos.endLine == cpos.line)=true
 trees:backTo cpos (starEach [e] X.env)=[(false,eval e X.env)]
structure M2 (X:Cx) (o:Expr) (m:Str) (apos:Pos) (e f:Expr) (cpos:Pos):Prop where
 base:attributeBase o m X.env (eval o X.env)=eval o X.env
 few:((backTo cpos (starEach [e,f] X.env)).all (fun x=>!x.1) && (backToKw cpos (keywordEach [] X.env)).all (fun x=>x.1.isSome)
  && decide (([e,f]:List Expr).length+([]:List Keyword).length+(if ([]:List Keyword).isEmpty then 0 else 1) < 30))=true
 line:(apos.endLine == cpos.line)=true
 trees:backTo cpos (starEach [e,f] X.env)=[(false,eval e X.env),(false,eval f X.env)]
section
variable {X:Cx}{pins:List (Addr × Obj)}{σ:St}{H:Hp}{s:Shared}{a:Addr}{y d:V}{u r:Value}{o:Option V}{A:Around}{E:Value→Shared→Prop}
end
section
variable {X:Cx}{o e f:Expr}{apos cpos:Pos}{td ty tx:TE}
end
section
variable {X:Cx}{pins:List (Addr × Obj)}{σ:St}{H:Hp}{s:Shared}{a:Addr}{kvs:List (Key × V)}{A:Around}{E:Value→Shared→Prop}
end
section
variable {X:Cx}{pins:List (Addr × Obj)}{σ:St}{H:Hp}{s:Shared}{a:Addr}{y:V}{u:Value}{A:Around}{E:Value→Shared→Prop}
end
end L2
namespace Att
open PySem PySem.W PySem.Calls PyProof.Rows
theorem z8o {P:Params}{h:Heap}:∀ (ns:List Int) (vs:List Value),WellAll P h vs (ns.map WData.int)→IntsAre vs ns:=by
 intro ns
 induction ns with
 |nil =>
  intro vs w
  rw [List.map_nil] at w
  cases w
  exact .nil
 |cons n ns ih =>
  intro vs w
  rw [List.map_cons] at w
  cases w with
  |cons a b =>
   cases a
   exact .cons _ _ (ih _ b)
theorem script_of {l:OpenLaw}{n:Nat}(hn:l.most=some n) {P:Params}{h:Heap}{args:List WData}{vals:List Value}
  (hpre:l.row.toRowW.claim.pre args=true) (hwl:WellAll P h vals args) :
  ∃ a vs ns,vals=[Value.ref a]∧args=[WData.list (ns.map WData.int)]∧h.get? a=some { cls:=.type "list",data:=.seq vs.toArray }∧IntsAre vs ns∧ns.length≤n:=by
 have hsh:WShape.hasAll [] args [.list .int]=true:=(pre_splitW hpre).1
 have hc:l.pre.holds [] { args:=args }=true:=(pre_splitW hpre).2
 obtain ⟨d,r,rfl,h1,h2⟩:=hasAllW_cons hsh
 obtain rfl:=hasAllW_nil h2
 obtain ⟨xs,rfl,h3⟩:=hasW_list h1
 obtain ⟨ns,rfl⟩:=items_int h3
 have hlen:ns.length≤n:=by
  unfold OpenLaw.pre at hc
  have h4:(WTm.not (.lt (.lit (.int (n:Int))) (.len (.arg 0)))).holds [] { args:=[.list (ns.map .int)] }=true:=by
   have h4:=(holds_andW hc).1
   rw [hn] at h4
   exact h4
  have h5:=condW_of h4 (w_not (w_lt w_lit (w_len_list (w_arg rfl))))
  rw [List.length_map] at h5
  refine Nat.le_of_not_lt fun q=>?_
  have q':(n:Int) < ((ns.length:Nat):Int):=by omega
  first
   |(rw [decide_eq_true q'] at h5;exact absurd h5 (by decide))
   |(simp at h5;omega)
 cases hwl with
 |cons w1 w2 =>
  cases w2
  cases w1 with
  |list ho hall=>exact ⟨_,_,ns,rfl,rfl,ho,z8o ns _ hall,hlen⟩
theorem post_true (l:OpenLaw) (args:List WData):l.row.toRowW.claim.post args (.bool true) args=true :=
 postW_of (r:=l.row.toRowW) (X:=(true == true))
  (show WShape.has [] (.bool true) .bool=true by first|rfl|decide|simp [WShape.has,WShape.arms,WShape.armsAll])
  (show (WTm.eq .res (.lit (.bool true))).value [] { args:=args,res:=some (.bool true),after:=args }=some (.bool (true == true)) from w_eq_bool (w_res rfl) w_lit) rfl
theorem attach_call {l:OpenLaw}{n:Nat}{q:Program}{loose:List Str}{XP:(Str→Option Value)→Heap→Prop}{YP:World→Heap→Prop}{d:DefRec}
  (hn:l.most=some n) (hdf:d.params.defaults=[])
  (call:∀ (w:World) (s₀ s₁:Shared) (mg mb:Str→Option Value) (fa:Addr) (o:Obj) (pm cd doc:Value) (a:Addr) (vs:List Value) (ns:List Int),
   Ground q loose [] XP w s₀ mg mb s₁.heap→YP w s₁.heap →
   s₁.heap.get? fa=some o→o.data = .func (docDef d.name d.params d.body d.scope pm cd doc)→s₁.heap.CodeRec cd d.name→mg d.name=some (.ref fa) →
   s₁.heap.get? a=some { cls:=.type "list",data:=.seq vs.toArray }→IntsAre vs ns→ns.length≤n→s₁.gens = #[] →
   codeAny (model l.prog w) callerA (.call (.ref fa) ⟨[.ref a],[]⟩) (fun r s'=>r = .ok (.ret (.bool true))∧OldK s₁.heap s'.heap∧s'.os=s₁.os∧AllBare s'.gens) s₁) :
  WalkO q loose XP YP l.row.toRowW d [] (fun f vs=>PySem.call f vs):=by
 intro w s₀ s₁ mg mb G Y fa o pm cd doc dV kV ho hd hcd hD hmg hg args vals as hpre hlay hrd hwl hlo
 obtain rfl:dV = .none:=Dflts.none hD hdf
 obtain rfl:kV = .none:=Dflts.noKw hD
 obtain ⟨a,vs,ns,rfl,rfl,hobj,hints,hlen⟩:=script_of hn hpre hwl
 refine enter_call (codeAny_mono (call w s₀ s₁ mg mb fa o pm cd doc a vs ns G Y ho (fd_plain hd) hcd hmg hobj hints hlen hg) fun r s' hq=>?_)
 obtain ⟨rfl,h2,h3,h4⟩:=hq
 exact ⟨.inl ⟨.bool true,.bool true,[],rfl,fun _=>rfl,.bool true,post_true l _,fun _=>⟨List.Pairwise.nil,fun _ hm=>(nomatch hm)⟩⟩,h2,h3,h4⟩
section
variable {prog:Program}{w:World}{A:Around}{E:Value→Shared→Prop}{s:Shared}{K:Frag}
end
end Att
namespace L2
open PySem PySem.Spec PyProof.Rows
theorem y3a:∀ {vs:List Value}{ns:List Int},IntsAre vs ns→Vals (ns.map V.int) vs
 |_,_,.nil=>.nil
 |_,_,.cons n t h=>.cons ⟨t,rfl⟩ (y3a h)
def Only (H:Hp):Prop:=∀ b,H b=none ∨ ∃ o xs,H b=some (.frz o (.lst xs))
theorem law_call {P:Program}{w:World}{K:PySem.W.Frag}{mg mb:Str→Option Value}{CX:CXT}{k:Nat}{fa a:Addr}{fd:FuncData}{x:Str}{sp:Sp}{s₁:Shared}{vs:List Value}{ns:List Int}
  (KX:K.In s₁.heap) (hns:s₁.heap.Ns mainGlobals mg) (hb:s₁.heap.Ns builtinsNs mb) (hbb:∀ x:Str,x ≠ "__name__"→mb x=bootBuiltins x) (hlim:s₁.heap.NoLimit) (hg:s₁.gens = #[])
  (ha:s₁.heap.get? a=some { cls:=.type "list",data:=.seq vs.toArray }) (hi:IntsAre vs ns) (hl:ns.length≤sizeLine) (hr:Room k callerA)
  (F:∀ base:Heap,K.In base→base.Ns mainGlobals mg→FnOk P w K mg base CX k fa fd [x] sp) (hbind:∀ (s:Shared) (u:Value),BindsTo s fd ⟨[u],[]⟩ [(x,u)])
  (hsp:∀ H:Hp,Only H→SqL K H a (ns.map V.int)→sp [.ref a] H (fun v _=>v = .bl true) fun _ _ _=>False)
  (hCX:∀ H e s',CX [] H s₁ (fun _ _ _=>False) e s'→False) :
  codeAny (model P w) callerA (.call (.ref fa) ⟨[.ref a],[]⟩) (fun r s'=>r = .ok (.ret (.bool true))∧OldK s₁.heap s'.heap∧s'.os=s₁.os∧AllBare s'.gens) s₁:=by
 have rv:=y3a hi
 have lenV:=hi.length
 have core:∀ H:Hp,Only H→SqL K H a (ns.map V.int)→HOk P w H s₁.heap→(∀ b,H b≠none→b=a)→(H a≠none→K.lookup a=none) →
   codeAny (model P w) callerA (.call (.ref fa) ⟨[.ref a],[]⟩) (fun r s'=>r = .ok (.ret (.bool true))∧OldK s₁.heap s'.heap∧s'.os=s₁.os∧AllBare s'.gens) s₁:=by
  intro H hO hS hok hA hK
  have base_of:∀ {b:Addr}{o:Obj},s₁.heap.get? b=some o→H b=none→(hidT s₁.heap H).get? b=some o:=fun e n=>hidT_get e n
  have noA:∀ {b:Addr}{o:Obj}{es:Array DictEntry}{ep:Nat},s₁.heap.get? b=some o→o.data = .dict es ep→H b=none:=fun {b o es ep} e d=>by
   cases q:H b with
   |none=>rfl
   |some u =>
    have e':b=a:=hA b (by rw [q];simp)
    subst e'
    rw [ha] at e;cases e
    have d':Data.seq vs.toArray _=Data.dict es ep:=d
    cases d'
  have nsK:∀ {b:Addr}{m:Str→Option Value},s₁.heap.Ns b m→(hidT s₁.heap H).Ns b m:=fun {b m} ⟨o,es,ep,e,d,r⟩=>⟨o,es,ep,base_of e (noA e d),d,r⟩
  have hKb:K.In (hidT s₁.heap H):=fun b o e=>base_of (KX b o e) (by
   cases q:H b with
   |none=>rfl
   |some u =>
    have e':b=a:=hA b (by rw [q];simp)
    subst e'
    rw [hK (by rw [q];simp)] at e;cases e)
  have hM:Mod K mg (hidT s₁.heap H):=⟨hKb,nsK hns,⟨mb,nsK hb,hbb⟩,let ⟨mc,h1,h2⟩:=hlim;⟨mc,nsK h1,h2⟩⟩
  have e0:Env0 P w K mg (hidT s₁.heap H) callerA [] s₁ H:=⟨rfl,hM,fun b o e=>of_hidT e,Nat.le_of_eq (hidT_size _ _),trivial,fun b hb=>absurd (show b∈([]:List Addr) from hb) (by simp),hok,.of_eq hg⟩
  refine codeAny_mono ((F _ hKb (nsK hns)).run callerA [] s₁ H ⟨[.ref a],[]⟩ [.ref a] [.ref a] _ _ hr e0 (hbind s₁ (.ref a)) (.cons rfl .nil) (hsp H hO hS)) fun r s' h=>?_
  cases r with
  |error e=>exact (hCX H e s' h).elim
  |ok fl =>
   cases fl with
   |next=>exact False.elim h
   |brk=>exact False.elim h
   |cont=>exact False.elim h
   |ret u =>
    obtain ⟨v,H',os,bare,un,hok',r',q⟩:=h
    have q':v = .bl true:=q
    subst q'
    obtain rfl:u=Value.bool true:=r'
    refine ⟨rfl,OldK.of_keep fun b o e=>?_,os,bare⟩
    cases q:H b with
    |none=>exact un.keep b o e q (by intro z;exact absurd (show b∈([]:List Addr) from z) (by simp)) (by simp)
    |some u =>
     rcases hO b with z|⟨ob,xs,z⟩
     ·rw [q] at z;cases z
     ·have z2:=un.frzs b ob _ z
      obtain ⟨e1,_⟩:=hok b _ z
      obtain ⟨e2,_⟩:=hok' b _ z2
      rw [e] at e1;cases e1
      exact e2
 cases hk:K.lookup a with
 |some o =>
  have e:=KX a o hk
  rw [ha] at e
  cases e
  refine core (fun _=>none) (fun _=>.inl rfl) (.inr ⟨_,vs.toArray,_,hk,rfl,rfl,rfl,by rw [List.size_toArray,lenV];exact hl,by simpa using rv⟩) (fun b u z=>by have z':(none:Option HO)=some u:=z;cases z') (fun b z=>absurd rfl z) fun z=>absurd rfl z
 |none =>
  refine core (fun b=>if b=a then some (.frz { cls:=.type "list",data:=.seq vs.toArray } (.lst (ns.map V.int))) else none) (fun b=>?_) (.inl (.inr ⟨{ cls:=.type "list",data:=.seq vs.toArray },if_pos rfl⟩)) (fun b u z=>?_) (fun b z=>?_) fun _=>hk
  ·by_cases hb:b=a
   ·exact .inr ⟨_,_,if_pos hb⟩
   ·exact .inl (if_neg hb)
  ·by_cases hb:b=a
   ·have z':=(if_pos hb).symm.trans z
    cases z'
    subst hb
    exact ⟨ha,by rw [List.length_map];exact hl,vs,_,rv,ha⟩
   ·have z':=(if_neg hb).symm.trans z
    cases z'
  ·by_cases hb:b=a
   ·exact hb
   ·exact absurd (if_neg hb) z
end L2
namespace L2
open PySem PySem.Spec PyProof.Rows
theorem walk_of {l:PySem.W.OpenLaw}{n k:Nat}{q:Program}{loose:List Str}{XP:(Str→Option Value)→Heap→Prop}{YP:World→Heap→Prop}{d:DefRec}{K:Params→PySem.W.Frag}{CX:World→CXT}{sp:World→Sp}{x:Str}
  (hn:l.most=some n) (hn2:n≤sizeLine) (hdf:d.params.defaults=[]) (hr:Room k callerA)
  (hY:∀ (w:World) (h:Heap),YP w h→(K w.params).In h)
  (F:∀ (w:World) (mg:Str→Option Value) (fa:Addr) (h:Heap),(K w.params).In h→h.Ns mainGlobals mg→mg d.name=some (.ref fa) →
   ∃ fd:FuncData,(∀ (s:Shared) (u:Value),BindsTo s fd ⟨[u],[]⟩ [(x,u)]) ∧
    ∀ base:Heap,(K w.params).In base→base.Ns mainGlobals mg→FnOk l.prog w (K w.params) mg base (CX w) k fa fd [x] (sp w))
  (hsp:∀ (w:World) (H:Hp) (a:Addr) (ns:List Int),ns.length≤n→Only H→SqL (K w.params) H a (ns.map V.int)→sp w [.ref a] H (fun v _=>v = .bl true) fun _ _ _=>False)
  (hCX:∀ (w:World) (H:Hp) (s:Shared) (e:Value) (s':Shared),CX w [] H s (fun _ _ _=>False) e s'→False) :
  PySem.W.WalkO q loose XP YP l.row.toRowW d [] (fun f vs=>PySem.call f vs):=by
 refine Att.attach_call hn hdf fun w s₀ s₁ mg mb fa o pm cd doc a vs ns G Y ho hd hcd hmg hobj hints hlen hg=>?_
 have KX:=hY w _ Y
 obtain ⟨fd,hb,hF⟩:=F w mg fa _ KX G.T.g hmg
 exact law_call KX G.T.g G.T.b G.T.builtins G.T.nolimit hg hobj hints (Nat.le_trans hlen hn2) hr hF hb (fun H hO hS=>hsp w H a ns hlen hO hS) fun H e s'=>hCX w H s₁ e s'
theorem walk_ofK {l:PySem.W.OpenLaw}{n k:Nat}{q:Program}{loose:List Str}{XP:(Str→Option Value)→Heap→Prop}{YP:World→Heap→Prop}{d:DefRec}{K:Params→PySem.W.Frag}{CX:CXT}{sp:PySem.W.Frag→Sp}{x:Str}
  (hn:l.most=some n) (hn2:n≤sizeLine) (hdf:d.params.defaults=[]) (hr:Room k callerA)
  (hY:∀ (w:World) (h:Heap),YP w h→(K w.params).In h)
  (F:∀ (w:World) (mg:Str→Option Value) (fa:Addr) (h:Heap),(K w.params).In h→h.Ns mainGlobals mg→mg d.name=some (.ref fa) →
   ∃ fd:FuncData,(∀ (s:Shared) (u:Value),BindsTo s fd ⟨[u],[]⟩ [(x,u)]) ∧
    ∀ base:Heap,(K w.params).In base→base.Ns mainGlobals mg→FnOk l.prog w (K w.params) mg base CX k fa fd [x] (sp (K w.params)))
  (hsp:∀ (K:PySem.W.Frag) (H:Hp) (a:Addr) (ns:List Int),ns.length≤n→Only H→SqL K H a (ns.map V.int)→sp K [.ref a] H (fun v _=>v = .bl true) fun _ _ _=>False)
  (hCX:∀ (H:Hp) (s:Shared) (e:Value) (s':Shared),CX [] H s (fun _ _ _=>False) e s'→False) :
  PySem.W.WalkO q loose XP YP l.row.toRowW d [] (fun f vs=>PySem.call f vs) :=
 walk_of (K:=K) (CX:=fun _=>CX) (sp:=fun w=>sp (K w.params)) hn hn2 hdf hr hY F (fun w H a ns h1 h2 h3=>hsp (K w.params) H a ns h1 h2 h3) fun _ H s e s'=>hCX H s e s'
end L2
namespace L2
open PySem PySem.Spec PyProof.Rows
def y4l (s:Stmt) (j:Nat):Stmt:=match s with
 |.ClassDef _ _ _ body _ _ _ _ _ _ _=>body.getD j (.Pass ⟨0,0,0,0⟩)
 |_=>.Pass ⟨0,0,0,0⟩
def z0o (s:Stmt):Arguments:=match s with
 |.FunctionDef _ a _ _ _ _ _ _ _ _=>a
 |_=>{ posonlyargs:=[],args:=[],vararg:=none,kwonlyargs:=[],kw_defaults:=[],kwarg:=none,defaults:=[] }
def z0n (s:Stmt):List Stmt:=match s with
 |.FunctionDef _ _ b _ _ _ _ _ _ _=>b
 |_=>[]
def z0c (s:Stmt):Scope:=match s with
 |.FunctionDef _ _ _ _ _ _ sc _ _ _=>sc
 |_=>{ kind:=.function,names:=[],isGenerator:=false,isCoroutine:=false }
abbrev CX0:CXT:=fun _ _ _ _ _ _=>False
abbrev E0:XK:=fun _ _ _=>False
theorem z0w {X:Cx}:z8q CX0 X E0:=fun _ _ _ _ _ _ _ h=>h.elim
structure Fun (K:PySem.W.Frag) (x qual:Str) (st:Stmt) (f:Addr) (fd:FuncData):Prop where
 ex:∃ (oc:Value) (od:Option Addr) (kV doc pm:Value) (an:Option Addr) (cdv ct:Value) (osl:Array (Option Value)),
  fd=PySem.W.fnOf x qual (z0o st) (z0n st) (z0c st) .none kV doc pm an cdv ct∧K.lookup f=some ⟨oc,od,.func fd,osl⟩∧PySem.W.codeIn K cdv qual=true
 kp:PySem.W.keepIn K (.ref f)=true
section
variable {P:Program}{w:World}{K:PySem.W.Frag}{mg:Str→Option Value}{base:Heap}
theorem Fun.ok {x qual:Str}{st:Stmt}{f:Addr}{fd:FuncData}{N ps:List Str}{k:Nat}{sp:Sp}(F:Fun K x qual st f fd) (S:FnScope N ps (z0c st)) (len:∀ vs H Q E,sp vs H Q E→vs.length=ps.length)
  (hbody:∀ (cdv:Value) (A:Around) (outer:List Env) (s:Shared) (H:Hp) (vs:List V) (Q:VK) (E:XK),Room k (A.deeper (envOfC qual (z0c st) s.heap.objs.size f cdv))→sp vs H Q E →
   ∃ t,PSs (cxOf CX0 P w K mg base N qual (z0c st) f cdv A outer s H E).nox (z0n st) t∧t { nx:=fun _ H'=>Q .non H',rt:=Q } (start N vs) H):FnOk P w K mg base CX0 (k+1) f fd ps sp:=by
 obtain ⟨oc,od,kV,doc,pm,an,cdv,ct,osl,rfl,lk,hcd⟩:=F.ex
 refine fn_of lk hcd S len fun A outer s H vs Q E hr hsp=>?_
 obtain ⟨t,h,q⟩:=hbody cdv A outer s H vs Q E hr hsp
 exact ⟨t,h.nox,q⟩
theorem Fun.binds {x qual:Str}{st:Stmt}{f:Addr}{fd:FuncData}{ps:List Str}(F:Fun K x qual st f fd)
  (h:∀ (kV doc pm:Value) (an:Option Addr) (cdv ct:Value) (us:List Value),us.length=ps.length→bindArgs (PySem.W.fnOf x qual (z0o st) (z0n st) (z0c st) .none kV doc pm an cdv ct) ⟨us,[]⟩=pure (ps.zip us)):Binds K fd ps []:=by
 obtain ⟨oc,od,kV,doc,pm,an,cdv,ct,osl,rfl,lk,hcd⟩:=F.ex
 exact .all (h kV doc pm an cdv ct)
theorem y2k {x qual:Str}{st:Stmt}{f:Addr}{oc:Value}{od an:Option Addr}{osl:Array (Option Value)}{kV doc pm cdv ct:Value}(l:K.lookup f=some ⟨oc,od,.func (PySem.W.fnOf x qual (z0o st) (z0n st) (z0c st) .none kV doc pm an cdv ct),osl⟩)
  (c:PySem.W.codeIn K cdv qual=true) (k:PySem.W.keepIn K (.ref f)=true):Fun K x qual st f (PySem.W.fnOf x qual (z0o st) (z0n st) (z0c st) .none kV doc pm an cdv ct):=⟨⟨oc,od,kV,doc,pm,an,cdv,ct,osl,rfl,l,c⟩,k⟩
end
section
variable {X:Cx}
theorem pv (i:Nat) {x:Str}{pos:Pos}(hN:X.N[i]? = some x:=by rfl) (hv:Vis X.env.scope x:=by first|exact Or.inl rfl|exact Or.inr (Or.inl rfl)|exact Or.inr (Or.inr rfl)) (hd:(x == ("__debug__":Str))=false:=by decide)
  (hcd:(x == ("__classdict__":Str))=false:=by decide):PE X (.Name x pos) (tVar i):=y0g hN hv hd hcd
end
theorem iteF {A B:Prop}(h:B):if false=true then A else B:=by
 rw [if_neg Bool.false_ne_true]
 exact h
theorem iteT {A B:Prop}(h:A):if true=true then A else B:=by
 rw [if_pos rfl]
 exact h
theorem ite2 {c A B:Prop}[Decidable c] (h1:c→A) (h2:¬ c→B):if c then A else B:=by
 by_cases h:c
 ·rw [if_pos h]
  exact h1 h
 ·rw [if_neg h]
  exact h2 h
def Same (H H':Hp):Prop:=∀ b o,H b=some o→H' b=some o
theorem Same.refl (H:Hp):Same H H:=fun _ _ h=>h
theorem Same.trans {H H1 H2:Hp}(a:Same H H1) (b:Same H1 H2):Same H H2:=fun c o h=>b c o (a c o h)
theorem Same.free {H H':Hp}(e:Same H H') {l:Addr}(h:H' l=Option.none):H l=Option.none:=by
 cases q:H l with
 |none=>rfl
 |some o =>
  rw [e l o q] at h
  cases h
theorem Same.seq {K:PySem.W.Frag}{H H':Hp}{a:Addr}{xs:List V}(e:Same H H') (h:SqL K H a xs):SqL K H' a xs:=by
 rcases h with (h|⟨o,h⟩)|h
 ·exact .inl (.inl (e _ _ h))
 ·exact .inl (.inr ⟨o,e _ _ h⟩)
 ·exact .inr h
section
variable {κ:Type}[DecidableEq κ]
theorem nd_snoc:∀ {l:List κ}{k:κ},l.Nodup→¬ k∈l→(l ++ [k]).Nodup
 | [],k,_,_=>by simp
 |a::r,k,h,hk=>by
  obtain ⟨h1,h2⟩:=List.nodup_cons.mp h
  show (a::(r ++ [k])).Nodup
  refine List.nodup_cons.mpr ⟨fun m=>?_,nd_snoc h2 fun m=>hk (List.mem_cons.mpr (Or.inr m))⟩
  rcases List.mem_append.mp m with q|q
  ·exact h1 q
  ·exact hk (List.mem_cons.mpr (Or.inl (List.mem_singleton.mp q).symm))
end
end L2
namespace L2
open PySem PySem.Spec PyProof.Rows
section
variable {X:Cx}
theorem z1s:OpR X (binaryOp .FloorDiv) (rI (fun _ j=>0 < j∧j.natAbs.log2 < 9000) fun i j=>.int (i / j)):=opI fun i j _ _ _ _ _ hc q=>by
 have h1:(0:Int) < j:=hc.1
 exact floordiv_int (by omega) (by rw [Int.fdiv_eq_ediv_of_nonneg i (by omega)];exact q) (.inl (PyProof.noPylong_of_log2 hc.2))
theorem z2s {K:PySem.W.Frag}(hK:X.K=K):z6d X (.builtin "isinstance") (fun xs H Q=>∃ x T t b,xs=[x,.ty T]∧TyOf K H x t∧PySem.W.kitOne K t (.type T)=some b∧Q (.bl b) H):=by
 subst hK
 intro pins s σ H xs us Q I r h
 obtain ⟨x,T,t,b,rfl,ty,e,q⟩:=h
 obtain ⟨u,w',rfl,rx,rt⟩:=vals2 r
 cases (show w' = Value.type T from rt)
 exact isinst_ok I rx ty e fun tk=>⟨.bl b,H,I.tok tk,rfl,q⟩
end
theorem lri_nolen:typeLookup (.type "list_reverseiterator") "__len__" = pure none:=by rw [typeLookup_type,builtinLookup_eq_fast];kernel_rfl
theorem lri_hint:typeLookup (.type "list_reverseiterator") "__length_hint__" = pure (some (.builtin "list_reverseiterator.__length_hint__")):=by rw [typeLookup_type,builtinLookup_eq_fast];kernel_rfl
theorem rev_items {items acc:Array Value}(h:ItemsOf (fun i v=>items[items.size - 1 - i]? = some v) acc items.size):acc.toList=items.toList.reverse:=by
 obtain ⟨h1,h2⟩:=h
 apply List.ext_getElem?
 intro j
 by_cases hj:j < acc.size
 ·have e:=h2 j acc[j] (by simp [hj])
  have hj':j < items.toList.length:=by simpa [h1] using hj
  rw [List.getElem?_reverse hj']
  have e1:acc.toList[j]? = some acc[j]:=by simp [hj]
  rw [e1]
  have e2:items.toList[items.toList.length - 1 - j]? = items[items.size - 1 - j]?:=by simp
  rw [e2,e]
 ·rw [List.getElem?_eq_none (by simpa using hj),List.getElem?_eq_none (by simp;omega)]
section
variable {prog:Program}{w:World}{A:Around}{E:Value→Shared→Prop}{s:Shared}
theorem extend_rev {R:Result→Shared→Prop}{r l S:Addr}{items:Array Value}{c₀:Nat}{res:Value}(hh:A.handled=none) (hr:s.heap.IsRevIter r l ((items.size:Int) - 1)) (hl:s.heap.IsList l items) (hne:l≠r) (hn:items.size≤sizeLine)
  (hSr:S≠r) (hSl:S≠l) (hS:s.heap.get? S=some { cls:=.type "list",data:=.seq #[] c₀ })
  (hR:∀ h' tk acc' c',(∀ b o,b≠r→b≠S→s.heap.get? b=some o→h'.get? b=some o)→h'.get? S=some { cls:=.type "list",dict:=none,data:=.seq acc' c',slots:=#[] }→acc'.toList=items.toList.reverse→R (.ok (.ret res)) { s with heap:=h',toks:=tk }) :
  wpAny (model prog w) A.in1 (Builtin.List.listExtendWith (.ref S) (.ref r) res)
   (fun fin s'=>match fin with | .done f=>R (.ok f) s' | .again c'=>c'.quiet=true∧codeAny (model prog w) A c' R s') (fun e s'=>R (.error e) s') s:=by
 have W:=(Walks.listRev (prog:=prog) (w:=w) (A:=A.in1) hh r l hne items).toS
 have hST:s.TypeIs (.ref r) "list_reverseiterator":=hr.typeIs
 have h1:Builtin.List.listSameRef (.ref S) (.ref r)=false:=by
  unfold Builtin.List.listSameRef
  exact beq_eq_false_iff_ne.mpr hSr
 have hst:(0:Nat)≤items.size∧s.heap.IsRevIter r l ((items.size:Int) - 1 - ((0:Nat):Int))∧s.heap.IsList l items:=⟨Nat.zero_le _,by simpa using hr,hl⟩
 unfold Builtin.List.listExtendWith
 refine wpAny_bind (wpAny_typeOf hST ?_)
 rw [if_neg (by rw [h1];decide)]
 refine wpAny_bind (W.self 0 _ _ _ hst ?_)
 refine wpAny_bind (wpAny_holding ?_)
 unfold Builtin.List.listLengthHint
 refine wpAny_bind (wpAny_specialOf hST lri_nolen ?_)
 show wpAny _ A.in1 (specialOf (Value.ref r) (Str.ofString "__length_hint__") >>= _) _ _ _
 refine wpAny_bind (wpAny_specialOf hST lri_hint ?_)
 generalize hid:("list_reverseiterator.__length_hint__":String)=id0
 wp_delta
 rw [show splitId id0=some ("list_reverseiterator","__length_hint__") from by subst hid;decide +kernel]
 subst hid
 refine wpAny_bind (wpAny_isInstance (b:=true) hST (by rw [isSubtype_type];kernel_rfl) ?_)
 refine wpAny_pure ?_
 rw [if_neg (by decide)]
 refine wpAny_pure ⟨plainId_quiet F.plain_extend_loop _,codeAny_extend_loopS W hn S (by simp [hSr,hSl]) res items.size 0 _ #[] c₀ rfl (Nat.zero_le _) hst hS (ItemsOf.nil _) fun s' acc' c' hm hS' hacc=>?_⟩
 rw [Moved.eq_with hm]
 exact hR s'.heap s'.toks acc' c' (fun b o hb hb' e=>hm.heap b o (by simp [hb,hb']) e) hS' (rev_items hacc)
theorem y1m {Q:Value→Shared→Prop}{r l:Addr}{items:Array Value}(hh:A.handled=none) (hr:s.heap.IsRevIter r l ((items.size:Int) - 1)) (hl:s.heap.IsList l items) (hne:l≠r) (hn:items.size≤sizeLine)
  (hQ:∀ h' tk acc' c',(∀ b o,b≠r→s.heap.get? b=some o→h'.get? b=some o)→h'.get? s.heap.objs.size=some { cls:=.type "list",dict:=none,data:=.seq acc' c',slots:=#[] }→acc'.toList=items.toList.reverse →
   Q (.ref s.heap.objs.size) { s with heap:=h',toks:=tk }) :
  wpAny (model prog w) A (call (.type "list") [.ref r]) Q E s:=by
 obtain ⟨or,hor,_⟩:=id hr
 obtain ⟨ol,hol,_⟩:=id hl
 have hlr:=Heap.lt_size hor
 have hll:=Heap.lt_size hol
 refine callType_codes (Q₁:=fun obj s₁=>obj = .ref s.heap.objs.size∧s₁ = { s with heap:=s.heap.push { cls:=.type "list",data:=.seq #[] } }) F.called_list (F.typeCall_list_1 _) F.entry_list_init
  (code_list_new _ ⟨rfl,rfl⟩) fun obj s₁ h₁=>?_
 obtain ⟨rfl,rfl⟩:=h₁
 have hS:(s.heap.push { cls:=.type "list",data:=.seq #[] }).get? s.heap.objs.size=some { cls:=.type "list",data:=.seq #[] }:=Heap.get?_push_size _ rfl
 refine ⟨⟨_,hS,rfl⟩,F.args_list_init_2 _ _,?_⟩
 show wpAny _ _ (do let old ← Builtin.List.listItems (.ref s.heap.objs.size);Builtin.List.listUpdate (.ref s.heap.objs.size) (fun _=>#[]);letGo old.toList.reverse;Builtin.List.listExtendWith (.ref s.heap.objs.size) (.ref r) .none) _ _ _
 refine wpAny_bind ?_
 unfold Builtin.List.listItems
 refine wpAny_bind (wpAny_seqItems hS rfl (wpAny_pure ?_))
 show wpAny _ _ (updateSeq s.heap.objs.size (fun _=>#[]) >>= fun _=>letGo (#[]:Array Value).toList.reverse >>= fun _=>Builtin.List.listExtendWith (.ref s.heap.objs.size) (.ref r) .none) _ _ _
 refine wpAny_bind (wpAny_updateSeq hS rfl ?_)
 have hS₂:=Heap.get?_update_self (Obj.mapSeq (fun _=>(#[]:Array Value))) hS rfl
 have oth:∀ b o,b≠s.heap.objs.size→s.heap.get? b=some o→((s.heap.push { cls:=.type "list",data:=.seq #[] }).update s.heap.objs.size (Obj.mapSeq (fun _=>(#[]:Array Value)))).get? b=some o :=
  fun b o hb e=>(Heap.get?_update_other _ _ (Ne.symm hb)).trans (Heap.get?_push_of_some _ e)
 refine wpAny_bind (wpAny_letGo ?_)
 refine extend_rev (A:=A.in1) hh (hr.at fun o e=>oth r o (Nat.ne_of_lt hlr) e) (hl.at fun o e=>oth l o (Nat.ne_of_lt hll) e) hne hn (Nat.ne_of_gt hlr) (Nat.ne_of_gt hll) hS₂ fun h' tk acc' c' hk hS' hacc=>?_
 exact ⟨rfl,hQ h' tk acc' c' (fun b o hb e=>hk b o hb (Nat.ne_of_lt (Heap.lt_size e)) (oth b o (Nat.ne_of_lt (Heap.lt_size e)) e)) hS' hacc⟩
end
theorem Inv.turnLaid {X:Cx}{pins:List (Addr × Obj)}{σ:St}{H:Hp}{s:Shared}{h':Heap}{it a:Addr}{o:HO}{t':Nat}(I:Inv X pins σ H s) (k:∀ b u,b≠it→s.heap.get? b=some u→h'.get? b=some u) (f:FpOk X pins H it) (hp:s.heap.objs.size≤a)
  (new:ObjOk X.prog X.w (upd H a o) h' a o):Inv X pins σ (upd H a o) { s with heap:=h',toks:=t' }:=by
 obtain ⟨f0,f1,f2,f3,f4,f5⟩:=f
 have hn:H a=none:=I.hok.fresh hp
 have ne:∀ b u,s.heap.get? b=some u→b≠a:=fun b u e=>Nat.ne_of_lt (Nat.lt_of_lt_of_le (Heap.lt_size e) hp)
 have nit:∀ b u,H b=some u→b≠it:=fun b u e z=>by rw [z,f0] at e;cases e
 have ni:∀ b,b∉[it]→b≠it:=fun b hb z=>hb (by simp [z])
 refine I.step (g':=s.gens) (d':=s.drawn) (ch:=[it]) (fun b hb=>?_) (fun b u _ _ hc e _=>k b u (ni b hc) e) (fun b u _ _ hc e _=>⟨u.slots,k b u (ni b hc) e⟩) (fun b u _ e n=>by rw [z0f (ne b u e)];exact n)
  (fun b u hc e=>⟨u,k b u (ni b hc) e⟩) (fun b xs e=>by rw [z0f (z0l e hn)];exact e) (fun b u v e=>by rw [z0f (z0l e hn)];exact e) (fun b ps e=>⟨#[],by rw [z0f (z0l e hn),e];simp⟩) (fun m hm=>?_) (fun b u e=>?_) I.bare
 ·have e:b=it:=by simpa using hb
  subst e
  exact ⟨f3,f1,f4,f5⟩
 ·obtain ⟨o',es,ep,ho,r⟩:=hm
  exact ⟨o',es,ep,k _ o' (Ne.symm f1) ho,r⟩
 ·by_cases hb:b=a
  ·subst hb;rw [z0d] at e;cases e;exact new
  ·rw [z0f hb] at e
   refine (I.hok b u e).stay (fun c v hc q=>k c v ?_ q) (fun c q=>by rw [z0f (z0l q hn)];exact q) fun c xs q=>by rw [z0f (z0l q hn)];exact q
   rcases hc with z|z
   ·rw [z];exact nit b u e
   ·exact nit c _ z
def tRev (K:PySem.W.Frag) (te:TE):TE:=fun σ H Q=>te σ H fun x H1=>∃ a ys,x = .ref a∧H1 a=some (.lst ys)∧∀ l,H1 l=none→Q (.ref l) (upd H1 l (.lst ys.reverse))
theorem z9p {X:Cx}{e:Expr}{te:TE}{p1 p2 p3 pos:Pos}(hc:X.calm=true) (hgL:Gl X "list") (hmL:X.mg "list" = none) (hgR:Gl X "reversed") (hmR:X.mg "reversed" = none) (he:PE X e te)
  (hs1:starEach [.Call (.Name "reversed" p2) [e] [] p3] X.env=[(false,eval (.Call (.Name "reversed" p2) [e] [] p3) X.env)]:=by rfl) (hs2:starEach [e] X.env=[(false,eval e X.env)]:=by rfl) :
  PE X (.Call (.Name "list" p1) [.Call (.Name "reversed" p2) [e] [] p3] [] pos) (tRev X.K te):=by
 intro pins s σ H Q I h
 refine wpAny_Call_Name_kw (z4t I hgL hmL PyProof.Rows.boot_list ?_)
 refine PyProof.Rows.callWith_type1 ?_ hs1 rfl
 rw [hs1]
 show wpAny _ _ (spliced ((false,eval _ X.env)::[])) _ _ s
 refine Calls.spliced_cons (wpAny_Call_Name_kw (z4t I hgR hmR PyProof.Rows.boot_reversed ?_))
 refine PyProof.Rows.callWith_type1 ?_ hs2 rfl
 rw [hs2]
 show wpAny _ _ (spliced ((false,eval e X.env)::[])) _ _ s
 refine Calls.spliced_cons (thn (he pins s σ H _ I h) fun v s1 ⟨x,H1,I1,r1,q1⟩=>Calls.spliced_nil ?_)
 obtain ⟨a,ys,rfl,hq,q⟩:=q1
 cases r1
 obtain ⟨its,rv,pl,hz⟩:=I1.list (SqL.of hq)
 have hlen:=rv.length
 obtain ⟨ol,hol,_⟩:=id pl.isList
 refine call_reversed_list pl.isList (Calls.spliced_nil ?_)
 have I2:Inv X pins σ H1 { s1 with heap:=s1.heap.push (revObj a ((its.toArray.size:Int) - 1)) }:=I1.kept (t':=s1.toks) fun b o e=>Heap.get?_push_of_some _ e
 obtain ⟨f0,f1,f2,f3,f4,f5⟩:=I1.fpOk (Nat.le_refl _) I1.fresh
 refine y1m (I1.ok.hd hc) ⟨_,Heap.get?_push_size _ rfl,rfl,rfl⟩ (pl.isList.push _) (Nat.ne_of_lt (Heap.lt_size hol)) (by rw [List.size_toArray];omega) fun h' tk acc c kp eS ea=>?_
 have rr:Vals ys.reverse acc.toList:=by rw [ea];exact rv.reverse
 have e8:acc=acc.toList.toArray:=by simp
 refine ⟨.ref _,_,I2.turnLaid (t':=tk) (it:=s1.heap.objs.size) kp ⟨f0,f1,f2,f3,f4,f5⟩ (Nat.le_refl _) (show ObjOk X.prog X.w _ h' _ (.lst ys.reverse) from ⟨by rw [List.length_reverse];exact hz,acc.toList,c,rr,by rw [← e8];exact eS⟩),rfl,q _ ?_⟩
 exact I2.fresh
def z5r:List (Str × NameKind)→List (Str × Addr)→List (Str × Addr)→List (Str × Addr)
 | [],_,cs=>cs
 |(n,k)::r,cells,cs=>z5r r cells (if k == .free then (n,(cells.lookup n).getD 0)::cs else cs)
def z7g (env:Env) (x:Str × NameKind) (r:List (Str × Addr)):Sem (ForInStep (List (Str × Addr))) :=
 if (x.2 == NameKind.free)=true then cellOf env x.1 >>= fun a=>pure (ForInStep.yield ((x.1,a)::r)) else pure (ForInStep.yield r)
theorem z6h {scope:Scope}{env:Env}(h:∀ y∈scope.names,y.2 = .free→∃ c,env.cells.lookup y.1=some c):closureFor scope env=pure (z5r scope.names env.cells []):=by
 have key:∀ (l:List (Str × NameKind)) (cs:List (Str × Addr)),(∀ y∈l,y.2 = .free→∃ c,env.cells.lookup y.1=some c)→(forIn l cs (z7g env):Sem (List (Str × Addr)))=pure (z5r l env.cells cs):=by
  intro l
  induction l with
  |nil=>intro cs _;rfl
  |cons y r ih =>
   intro cs hl
   obtain ⟨n,k⟩:=y
   rw [List.forIn_cons]
   by_cases hk:(k == NameKind.free)=true
   ·obtain ⟨c,hc⟩:=hl (n,k) List.mem_cons_self (by simpa using hk)
    have hc':env.cells.lookup n=some c:=hc
    have e:z7g env (n,k) cs=pure (ForInStep.yield ((n,c)::cs)):=by simp only [z7g,hk,if_true,cellOf,hc',pure_bind]
    rw [e,pure_bind]
    show forIn r ((n,c)::cs) (z7g env)=_
    rw [ih _ fun y hy=>hl y (List.mem_cons_of_mem _ hy)]
    simp [z5r,hk,hc']
   ·have e:z7g env (n,k) cs=pure (ForInStep.yield cs):=by simp only [z7g,hk,if_false];rfl
    rw [e,pure_bind]
    show forIn r cs (z7g env)=_
    rw [ih _ fun y hy=>hl y (List.mem_cons_of_mem _ hy)]
    simp [z5r,hk]
 have e0:closureFor scope env=(forIn scope.names [] (z7g env):Sem (List (Str × Addr))) >>= fun cs=>pure cs:=by rfl
 rw [e0,key _ _ h,pure_bind]
theorem z7f {cells:List (Str × Addr)}{y:Str}{c:Addr}:∀ (l:List (Str × NameKind)) (cs:List (Str × Addr)),(∀ z∈l,z.2 = .free→∃ c,cells.lookup z.1=some c)→(cs.lookup y=some c→cells.lookup y=some c) →
  (z5r l cells cs).lookup y=some c→cells.lookup y=some c
 | [],cs,_,h,e=>h e
 |(n,k)::r,cs,hl,h,e=>by
  refine z7f r _ (fun z hz=>hl z (List.mem_cons_of_mem _ hz)) (fun e'=>?_) e
  by_cases hk:(k == NameKind.free)=true
  ·rw [if_pos hk] at e'
   obtain ⟨c',hc⟩:=hl (n,k) List.mem_cons_self (by simpa using hk)
   have hc':cells.lookup n=some c':=hc
   rw [List.lookup_cons,hc'] at e'
   by_cases hy:(y == n)=true
   ·simp only [hy] at e'
    rw [eq_of_beq hy,hc']
    exact e'
   ·simp only [hy] at e'
    exact h e'
  ·rw [if_neg hk] at e'
   exact h e'
theorem z8k {cells:List (Str × Addr)}{y:Str}:∀ (l:List (Str × NameKind)) (cs:List (Str × Addr)),(y,NameKind.free)∈l∨(cs.lookup y).isSome=true→((z5r l cells cs).lookup y).isSome=true
 | [],cs,h=>by
  rcases h with h|h
  ·cases h
  ·exact h
 |(n,k)::r,cs,h=>by
  refine z8k r _ ?_
  rcases h with h|h
  ·rcases List.mem_cons.mp h with h|h
   ·cases h
    refine .inr ?_
    simp
   ·exact .inl h
  ·refine .inr ?_
   by_cases hk:(k == NameKind.free)=true
   ·rw [if_pos hk,List.lookup_cons]
    cases hy:y == n
    ·exact h
    ·rfl
   ·rw [if_neg hk];exact h
theorem z4i {y:Str}{k:NameKind}:∀ {l:List (Str × NameKind)},l.lookup y=some k→(y,k)∈l
 | [],h=>by cases h
 |(n,k')::r,h=>by
  rw [List.lookup_cons] at h
  cases hy:y == n
  ·rw [hy] at h;exact List.mem_cons_of_mem _ (z4i h)
  ·rw [hy] at h;cases h;rw [eq_of_beq hy];exact List.mem_cons_self
theorem z5u {scope:Scope}{env:Env}{y:Str}{k:NameKind}(h:(relabel scope env).names.lookup y=some k):scope.names.lookup y=some k∨(k = .cell∧scope.names.lookup y=some .free):=by
 have key:∀ l:List (Str × NameKind),(l.map fun (n,k)=>if (k == NameKind.free && env.scope.kind == .function && env.kindOf n == some .cell) then (n,NameKind.cell) else (n,k)).lookup y=some k→l.lookup y=some k∨(k = .cell∧l.lookup y=some .free):=by
  intro l
  induction l with
  |nil=>intro h;simp at h
  |cons z r ih =>
   obtain ⟨n,k'⟩:=z
   intro h
   rw [List.map_cons] at h
   rw [List.lookup_cons]
   by_cases hc:(k' == NameKind.free && env.scope.kind == .function && env.kindOf n == some .cell)=true
   ·have e:(match (n,k') with|(n,k)=>if (k == NameKind.free && env.scope.kind == .function && env.kindOf n == some .cell)=true then (n,NameKind.cell) else (n,k))=(n,NameKind.cell):=by simp only [hc,if_true]
    rw [e,List.lookup_cons] at h
    cases hy:y == n
    ·rw [hy] at h;exact ih h
    ·rw [hy] at h
     have hk:k' = .free:=by simp at hc;exact hc.1.1
     cases h
     exact .inr ⟨rfl,by rw [hk]⟩
   ·have e:(match (n,k') with|(n,k)=>if (k == NameKind.free && env.scope.kind == .function && env.kindOf n == some .cell)=true then (n,NameKind.cell) else (n,k))=(n,k'):=by simp only [hc,if_false];rfl
    rw [e,List.lookup_cons] at h
    cases hy:y == n
    ·rw [hy] at h;exact ih h
    ·rw [hy] at h;exact .inl h
 exact key _ h
theorem y2s {scope:Scope}{env:Env}{y:Str}(h:scope.names.lookup y=some .free):(relabel scope env).names.lookup y=some .cell∨(relabel scope env).names.lookup y=some .free:=by
 have key:∀ l:List (Str × NameKind),l.lookup y=some .free→(l.map fun (n,k)=>if (k == NameKind.free && env.scope.kind == .function && env.kindOf n == some .cell) then (n,NameKind.cell) else (n,k)).lookup y=some .cell ∨
  (l.map fun (n,k)=>if (k == NameKind.free && env.scope.kind == .function && env.kindOf n == some .cell) then (n,NameKind.cell) else (n,k)).lookup y=some .free:=by
  intro l
  induction l with
  |nil=>intro h;simp at h
  |cons z r ih =>
   obtain ⟨n,k'⟩:=z
   intro h
   rw [List.lookup_cons] at h
   rw [List.map_cons]
   cases hy:y == n
   ·rw [hy] at h
    rcases ih h with q|q
    ·left;rw [List.lookup_cons]
     split
     ·rename_i hb;split at hb <;> (simp only at hb;rw [hy] at hb;cases hb)
     ·exact q
    ·right;rw [List.lookup_cons]
     split
     ·rename_i hb;split at hb <;> (simp only at hb;rw [hy] at hb;cases hb)
     ·exact q
   ·rw [hy] at h
    cases h
    by_cases hc:(NameKind.free == NameKind.free && env.scope.kind == .function && env.kindOf n == some .cell)=true
    ·left;simp only [hc,if_true,List.lookup_cons,hy]
    ·right
     show List.lookup y ((if (NameKind.free == NameKind.free && env.scope.kind == .function && env.kindOf n == some .cell)=true then (n,NameKind.cell) else (n,NameKind.free))::_)=_
     rw [if_neg hc,List.lookup_cons,hy]
 exact key _ h
def PF (X:Cx) (ifs:List Expr) (t:TT):Prop :=
 ∀ (pins:List (Addr × Obj)) (s:Shared) (σ:St) (H:Hp) (Q:Bool→Hp→Prop),Inv X pins σ H s→t σ H Q →
  wpAny (model X.prog X.w) X.A (forIn ifs true fun c r=>if r=true then do let ok ← isTrue c X.env (eval c X.env);pure (ForInStep.yield ok) else pure (ForInStep.yield r)) (TP X pins σ Q) X.xe s
def tYes:TT:=fun _ H Q=>Q true H
theorem pf_nil {X:Cx}:PF X [] tYes:=fun _ _ _ H _ I h=>wpAny_pure ⟨H,I,h⟩
theorem pf_one {X:Cx}{c:Expr}{t:TT}(h:PT X c t):PF X [c] t:=fun pins s σ H Q I q=>wpAny_tests_one (h pins s σ H Q I q)
def z2w (X:Cx) (scope:Scope) (N:List Str) (pins:List (Addr × Obj)) (ex:List Addr) (H₀:Hp) (s₀:Shared) (C:Addr):Cx :=
 { X with N:=N,s₀:=s₀,H₀:=H₀,env:=compEnvC scope (z5r scope.names X.env.cells []) C X.env,outer:=X.stack,stack:=X.stack,ex:=ex,fn:=fun _=>false,pn:=X.pn ++ pins,xe:=fun _ _=>False }
def namesOk (sc:Scope):List Str→List Str→Bool
 | [],[]=>true
 |n::N,m::M=>(sc.names.lookup m == none || (m == n && sc.names.lookup m == some .free)) && namesOk sc N M
 |_,_=>false
theorem namesOk.get {sc:Scope}:∀ {N M:List Str},namesOk sc N M=true→N.length=M.length∧∀ (i:Nat) (y:Str),M[i]? = some y→sc.names.lookup y=none∨(N[i]? = some y∧sc.names.lookup y=some .free)
 | [],[],_=>⟨rfl,fun i y h=>by simp at h⟩
 |n::N,m::M,h=>by
  rw [namesOk,Bool.and_eq_true] at h
  obtain ⟨h1,h2⟩:=h
  obtain ⟨l,ih⟩:=namesOk.get h2
  refine ⟨by simp [l],fun i y e=>?_⟩
  cases i with
  |zero =>
   have e':m=y:=by simpa using e
   subst e'
   rcases (Bool.or_eq_true _ _).mp h1 with h|h
   ·exact .inl (by simpa using h)
   ·obtain ⟨h3,h4⟩:=(Bool.and_eq_true _ _).mp h
    exact .inr ⟨by rw [eq_of_beq h3];rfl,by simpa using h4⟩
  |succ i=>simpa using ih i y (by simpa using e)
 | [],_::_,h=>by cases h
 |_::_,[],h=>by cases h
structure CScope (osc:Scope) (N:List Str) (x:Str) (sc:Scope) (M:List Str):Prop where
 kind:sc.kind = .function
 cell:∀ y∈sc.names,y.2 ≠ .cell
 names:∀ y∈sc.names,y.2 = .local→sc.names.lookup y.1=some .local
 hx:sc.names.lookup x=some .local
 free:∀ y∈sc.names,y.2 = .free→osc.names.lookup y.1=some .cell∨osc.names.lookup y.1=some .free
 nd:(x::M).Nodup
 ok:namesOk sc N M=true
section
variable {X:Cx}
end
inductive EqT (H:Hp):Nat→V→V→Prop
 |int {n:Nat}(i:Int):EqT H n (.int i) (.int i)
 |str {n:Nat}(x:Str):EqT H n (.str x) (.str x)
 |lst {n:Nat}{a b:Addr}{xs ys:List V}(ha:H a=some (.lst xs)) (hb:H b=some (.lst ys)) (hl:xs.length=ys.length) (h:∀ (i:Nat) x y,xs[i]? = some x→ys[i]? = some y→EqT H n x y):EqT H (n+1) (.ref a) (.ref b)
 |tup {n:Nat}{a b:Addr}{xs ys:List V}(ha:H a=some (.tup xs)) (hb:H b=some (.tup ys)) (hl:xs.length=ys.length) (h:∀ (i:Nat) x y,xs[i]? = some x→ys[i]? = some y→EqT H n x y):EqT H (n+1) (.ref a) (.ref b)
theorem y0w (n:Nat):(List.range n).all (fun _=>true)=true:=by simp
theorem EqT.items {X:Cx}{H:Hp}{n:Nat}{A:Around}{s:Shared}{xs ys:List V}{us ws:List Value}(r1:Vals xs us) (r2:Vals ys ws) (hl:xs.length=ys.length)
  (ih:∀ (i:Nat) x y,xs[i]? = some x→ys[i]? = some y→∀ {v' u':Value},RelV x v'→RelV y u'→SeqAt.EqAt A.in1 s v' u' true) (j:Nat) (h1:j < us.toArray.size) (h2:j < ws.toArray.size):SeqAt.EqAt A.in1 s us.toArray[j] ws.toArray[j] true:=by
 have l1:=r1.length
 have l2:=r2.length
 have hj:j < xs.length:=by simpa [l1] using h1
 have hj2:j < ys.length:=by omega
 obtain ⟨u,e1,q1⟩:=r1.get (i:=j) (x:=xs[j]) (by simp [hj])
 obtain ⟨w',e2,q2⟩:=r2.get (i:=j) (x:=ys[j]) (by simp [hj2])
 have z1:us.toArray[j]=u:=by
  have:us[j]? = some (us.toArray[j]):=by simp at h1;simp [h1]
  rw [this] at e1;exact Option.some.inj e1
 have z2:ws.toArray[j]=w':=by
  have:ws[j]? = some (ws.toArray[j]):=by simp at h2;simp [h2]
  rw [this] at e2;exact Option.some.inj e2
 rw [z1,z2]
 exact ih j xs[j] ys[j] (by simp [hj]) (by simp [hj2]) q1 q2
theorem EqT.at {X:Cx}{pins:List (Addr × Obj)}{σ:St}{H:Hp}{s:Shared}(I:Inv X pins σ H s) {n:Nat}{v u:V}(h:EqT H n v u):∀ {A:Around}{v' u':Value},RelV v v'→RelV u u'→A.units+n < cLine→SeqAt.EqAt A s v' u' true:=by
 induction h with
 |int i =>
  intro A v' u' r1 r2 _
  obtain ⟨t,rfl⟩:=r1
  obtain ⟨t',rfl⟩:=r2
  have q:=SeqAt.EqAt.int_int (A:=A) (s:=s) i t i t'
  rw [beq_self_eq_true] at q
  exact q
 |str x =>
  intro A v' u' r1 r2 _
  obtain ⟨t,rfl⟩:=r1
  obtain ⟨t',rfl⟩:=r2
  have q:=SeqAt.EqAt.str_str (A:=A) (s:=s) x t x t'
  rw [beq_self_eq_true] at q
  exact q
 | @lst n a b xs ys ha hb hl h ih =>
  intro A v' u' r1 r2 hu
  cases r1
  cases r2
  by_cases hab:a=b
  ·subst hab;exact SeqAt.EqAt.same _
  ·obtain ⟨us,ru,pu,_⟩:=I.list (SqL.of ha)
   obtain ⟨ws,rw',pw,_⟩:=I.list (SqL.of hb)
   have q:=SeqAt.RcAt.lists (A:=A) (e:=fun _=>true) pu.isList pw.isList (by simp [← ru.length,← rw'.length,hl]) (by omega) (fun j h1 h2=>EqT.items (X:=X) (H:=H) (n:=n) ru rw' hl (fun i x y e1 e2 _ _ q1 q2=>ih i x y e1 e2 q1 q2 (by show A.units+1+n < cLine;omega)) j h1 h2)
   rw [y0w] at q
   exact SeqAt.EqAt.of_refs hab q
 | @tup n a b xs ys ha hb hl h ih =>
  intro A v' u' r1 r2 hu
  cases r1
  cases r2
  by_cases hab:a=b
  ·subst hab;exact SeqAt.EqAt.same _
  ·obtain ⟨us,ru,pu,_⟩:=I.tuple (SqT.of ha)
   obtain ⟨ws,rw',pw,_⟩:=I.tuple (SqT.of hb)
   have q:=SeqAt.RcAt.tuples (A:=A) (e:=fun _=>true) (show s.heap.IsTuple a us.toArray from pu) (show s.heap.IsTuple b ws.toArray from pw) (by omega) (fun j h1 h2=>EqT.items (X:=X) (H:=H) (n:=n) ru rw' hl (fun i x y e1 e2 _ _ q1 q2=>ih i x y e1 e2 q1 q2 (by show A.units+1+n < cLine;omega)) j h1 h2)
   have e:us.toArray.size=ws.toArray.size:=by simp [← ru.length,← rw'.length,hl]
   rw [y0w,e,beq_self_eq_true,Bool.true_and] at q
   exact SeqAt.EqAt.of_refs hab q
theorem y7a {X:Cx}:OpR X (compareOp .Eq) (fun x y H Q=>∃ n a b xs ys,x = .ref a∧y = .ref b∧H a=some (.lst xs)∧H b=some (.lst ys)∧xs.length=ys.length∧(∀ (i:Nat) x y,xs[i]? = some x→ys[i]? = some y→EqT H n x y)∧X.A.units+n+1 < cLine∧Q (.bl true) H):=by
 intro pins s σ H x y v u Q I rx ry h
 obtain ⟨n,a,b,xs,ys,rfl,rfl,ha,hb,hl,h,hu,q⟩:=h
 cases rx
 cases ry
 obtain ⟨us,ru,pu,_⟩:=I.list (SqL.of ha)
 obtain ⟨ws,rw',pw,_⟩:=I.list (SqL.of hb)
 refine SeqAt.eq_listAt (e:=fun _=>true) pu.isList pw.isList (by simp [← ru.length,← rw'.length,hl]) (by omega) (fun j h1 h2=>EqT.items (X:=X) (H:=H) (n:=n) ru rw' hl (fun i x y e1 e2 _ _ q1 q2=>(h i x y e1 e2).at I q1 q2 (by show X.A.units+1+n < cLine;omega)) j h1 h2) ?_
 rw [y0w]
 exact ⟨.bl true,H,I,rfl,q⟩
def LoopL (K:PySem.W.Frag) (a:Addr) (g:TG) (tb:TS) (D:Ends) (σ:St) (H:Hp):Prop:=∃ W:Nat→Nat→St→Hp→Prop,(∃ m,W 0 m σ H)∧∀ i m σ H,W i m σ H →
 ((Itl K a).stop i H∧D.nx σ H)∨((Itl K a).go i H∧∃ N:St→Hp→Prop,(∀ σ' H',N σ' H'→∃ m',m' < m∧W (i+1) m' σ' H')∧∀ x H',(Itl K a).yld i H x H'→g x σ H' fun σ2 H2=>tb { D with nx:=N,ct:=N,bk:=D.nx } σ2 H2)
theorem z9z {K:PySem.W.Frag}{tl:TE}{g:TG}{tb:TS}{D:Ends}{σ:St}{H:Hp}:tFor (iList K tl) g tb D σ H=tl σ H fun x H1=>∃ a,x = .ref a∧(∃ xs,SqL K H1 a xs)∧LoopL K a g tb D σ H1:=rfl
theorem loopL {K:PySem.W.Frag}{a:Addr}{xs:List V}{g:TG}{tb:TS}{D:Ends}{σ:St}{H:Hp}(Pv:Nat→St→Hp→Prop) (h0:Pv 0 σ H) (hl:∀ i σ H,i≤xs.length→Pv i σ H→SqL K H a xs)
  (hs:∀ i x σ H,xs[i]? = some x→Pv i σ H→g x σ H fun σ2 H2=>tb { D with nx:=Pv (i+1),ct:=Pv (i+1),bk:=D.nx } σ2 H2) (hd:∀ σ H,Pv xs.length σ H→D.nx σ H):LoopL K a g tb D σ H:=for_list Pv h0 hl hs hd
theorem Same.upd {H H':Hp}{a:Addr}{o:HO}(s:Same H H') (h:H a=none):Same H (upd H' a o):=fun b u e=>by
 rw [z0f (z0l e h)];exact s b u e
theorem Same.of_new {H:Hp}{a:Addr}{o:HO}(h:H a=none):Same H (L2.upd H a o):=(Same.refl H).upd h
theorem z9y {CX:CXT}{P:Program}{w:World}{K:PySem.W.Frag}{mg:Str→Option Value}{base:Heap}{N:List Str}{qual:Str}{scope:Scope}{f:Addr}{cd:Value}{A:Around}{outer:List Env}{s:Shared}{H:Hp}{E:XK}:(cxOf CX P w K mg base N qual scope f cd A outer s H E).K=K:=rfl
theorem y0h {CX:CXT}{P:Program}{w:World}{K:PySem.W.Frag}{mg:Str→Option Value}{base:Heap}{N:List Str}{qual:Str}{scope:Scope}{f:Addr}{cd:Value}{A:Around}{outer:List Env}{s:Shared}{H:Hp}{E:XK}:(cxOf CX P w K mg base N qual scope f cd A outer s H E).A=A.deeper (envOfC qual scope s.heap.objs.size f cd):=rfl
section
variable {X:Cx}
theorem z2l:IxR X (fun x y H Q=>∃ p i,x = .ref p∧y = .int i∧∃ xs,H p=some (.lst xs)∧∃ v,atI xs i=some v∧Q v H):=fun value slice pins s σ H x y v u Q I rx ry h hs =>
 ix_list value slice pins s σ H x y v u Q I rx ry (by obtain ⟨p,i,e1,e2,xs,e3,v,e4,q⟩:=h;exact ⟨p,xs,i,v,e1,e2,SqL.of e3,e4,q⟩) hs
theorem z1m:IxR X (fun x y H Q=>∃ p i,x = .ref p∧y = .int i∧∃ xs,H p=some (.tup xs)∧∃ v,atI xs i=some v∧Q v H):=fun value slice pins s σ H x y v u Q I rx ry h hs =>
 ix_tup value slice pins s σ H x y v u Q I rx ry (by obtain ⟨p,i,e1,e2,xs,e3,v,e4,q⟩:=h;exact ⟨p,xs,i,v,e1,e2,SqT.of e3,e4,q⟩) hs
theorem z1h:z6d X (.builtin "len") (fun xs H Q=>∃ p,xs=[.ref p]∧∃ ys,H p=some (.lst ys)∧Q (.int ys.length) H):=fun pins s σ H xs us Q I r h =>
 y3p pins s σ H xs us Q I r (by obtain ⟨p,e,ys,e2,q⟩:=h;exact ⟨p,ys,e,.inl (SqL.of e2),q⟩)
theorem y2c:z6d X (.type "list") (fun xs H Q=>∃ p,xs=[.ref p]∧∃ ys,H p=some (.lst ys)∧∀ l,H l=none→Q (.ref l) (upd H l (.lst ys))):=fun pins s σ H xs us Q I r h =>
 y2l pins s σ H xs us Q I r (by obtain ⟨p,e,ys,e2,q⟩:=h;exact ⟨p,ys,e,.inl (SqL.of e2),q⟩)
theorem sl_lst:SlR X (fun x lo hi H Q=>∃ a,x = .ref a∧∃ xs,H a=some (.lst xs)∧∀ p,H p=none→Q (.ref p) (upd H p (.lst (cutV xs lo hi)))):=fun pins s σ H x v vl vu lo hi sl Q I rx hs pl pu h =>
 sl_list pins s σ H x v vl vu lo hi sl Q I rx hs pl pu (by obtain ⟨a,e,xs,e2,q⟩:=h;exact ⟨a,xs,e,SqL.of e2,q⟩)
theorem tyV_lst {K:PySem.W.Frag}{H:Hp}{p:Addr}{xs:List V}(h:H p=some (.lst xs)):tyV K "list" (.ref p) H:=.inl ⟨rfl,_,SqL.of h⟩
variable {o e:Expr}{es:List Expr}{to:TE}{t:TA}{name:Str}{apos cpos:Pos}{id:String}{r:V→List V→Hp→VK→Prop}
def tLM (r:V→List V→Hp→VK→Prop) (to:TE) (t:TA):TE:=fun σ H Q=>to σ H fun x H1=>∃ p,x = .ref p∧(∃ xs,H1 p=some (.lst xs))∧t σ H1 fun vs H2=>r (.ref p) vs H2 Q
def tLM0 (r:V→List V→Hp→VK→Prop) (to:TE):TE:=fun σ H Q=>to σ H fun x H1=>∃ p,x = .ref p∧(∃ xs,H1 p=some (.lst xs))∧r (.ref p) [] H1 Q
theorem pe_lm0 (slot:Slot "list" name id) (hty:typeOf (.builtin id)=pure (.type "method_descriptor")) (hm:MtR X id r) (ho:PE X o to)
  (hbase:attributeBase o name X.env (eval o X.env)=eval o X.env:=by rfl) (hline:(apos.endLine == cpos.line)=true:=by rfl):PE X (.Call (.Attribute o name apos) [] [] cpos) (tLM0 r to):=by
 intro pins s σ H Q I h
 refine wpAny_Call_method0_late hbase hline (thn (ho pins s σ H _ I h) fun v s1 ⟨x,H1,I1,r1,p,e1,⟨xs,hx⟩,q1⟩=>?_)
 subst e1
 obtain ⟨h1,h2⟩:=tyV_is I1 r1 (tyV_lst hx)
 exact ⟨"list",id,PySem.F.plainAttrs_list,slot,hty,h1,h2,Calls.callWith_builtin rfl (PySem.evalArgs_none (hm pins s1 σ H1 _ [] v [] Q I1 r1 .nil q1))⟩
theorem y2a (slot:Slot "list" name id) (hty:typeOf (.builtin id)=pure (.type "method_descriptor")) (hm:MtR X id r) (ho:PE X o to) (ha:PA X (e::es) t)
  (hbase:attributeBase o name X.env (eval o X.env)=eval o X.env:=by rfl)
  (hfew:((backTo cpos (starEach (e::es) X.env)).all (fun x=>!x.1) && (backToKw cpos (keywordEach [] X.env)).all (fun x=>x.1.isSome)
   && decide ((e::es).length+([]:List Keyword).length+(if ([]:List Keyword).isEmpty then 0 else 1) < 30))=true:=by rfl)
  (hline:(apos.endLine == cpos.line)=true:=by rfl) (hs:starEach (e::es) X.env=(false,eval e X.env)::starEach es X.env:=by rfl) (hplain:(backTo cpos (starEach es X.env)).any (·.1)=false:=by rfl) :
  PE X (.Call (.Attribute o name apos) (e::es) [] cpos) (tLM r to t):=by
 intro pins s σ H Q I h
 refine wpAny_Call_method_late hbase hfew hline rfl (thn (ho pins s σ H _ I h) fun v s1 ⟨x,H1,I1,r1,p,e1,⟨xs,hx⟩,q1⟩=>?_)
 subst e1
 obtain ⟨h1,h2⟩:=tyV_is I1 r1 (tyV_lst hx)
 refine ⟨"list",id,PySem.F.plainAttrs_list,slot,hty,h1,h2,?_⟩
 have hA:=ha cpos pins s1 σ H1 _ I1 q1
 rw [hs] at hA ⊢
 refine Calls.callWith_builtin (by show (false || (backTo cpos (starEach es X.env)).any (·.1))=false;rw [hplain] <;> rfl) (Calls.evalArgs_plain ?_)
 exact thn hA fun us s2 ⟨vs,H2,I2,r2,q2⟩=>hm pins s2 σ H2 _ vs v us Q I2 r1 r2 q2
theorem upd_app {H:Hp}{a b:Addr}{o:HO}:upd H a o b=if b=a then some o else H b:=rfl
theorem z3t {H:Hp}{a b:Addr}{o:HO}:upd H a o b=none↔b≠a∧H b=none:=by
 rw [upd_app]
 by_cases h:b=a <;> simp [h]
theorem atI0 {α:Type}{a:α}{l:List α}:atI (a::l) 0=some a:=by
 have:=z8n (xs:=a::l) (j:=0) (v:=a) rfl
 simpa using this
theorem atI1 {α:Type}{a b:α}{l:List α}:atI (a::b::l) 1=some b:=by
 have:=z8n (xs:=a::b::l) (j:=1) (v:=b) rfl
 simpa using this
theorem atI2 {α:Type}{a b c:α}{l:List α}:atI (a::b::c::l) 2=some c:=by
 have:=z8n (xs:=a::b::c::l) (j:=2) (v:=c) rfl
 simpa using this
theorem z0u:sizeLine=16777216:=sizeLine_eq
end
end L2
namespace L2
open PySem PySem.Spec PyProof.Rows PySem.SeqAt
theorem z3z:plainId "list.__eq__.loop" = true:=by decide +kernel
theorem z7j:entryFor table "list.__eq__.loop" = some Builtin.«list.__eq__.loop»:=entryFor_of_tree (by kernel_rfl)
open AutoSeq1 (wpAny_loadPart')
theorem y2m (l b:Addr) (us ws:Array Value) (n n2:Nat) (hsz:us.size=ws.size) (k:Nat) :
  ∀ i:Nat,us.size - i=k→Meets (Builtin.«list.__eq__.loop» ⟨[.ref l,.ref b,rawInt i,rawInt 3],[]⟩)
   (fun A R s=>s.heap.get? l=some { cls:=.type "list",data:=.seq us n }∧s.heap.get? b=some { cls:=.type "list",data:=.seq ws n2 } ∧
    (∀ j (h1:j < us.size) (h2:j < ws.size),EqAt A.in1 s us[j] ws[j] true)∧R (.ok (.ret (.bool false))) s):=by
 induction k with
 |zero =>
  intro i hk prog w A R s h
  obtain ⟨hp,g,d,tk,os⟩:=s
  obtain ⟨hl,hb,he,h⟩:=h
  wp_walk using wpAny_loadPart' hl,wpAny_loadPart' hb
  have hi1:us[((i:Nat):Int).toNat]? = none:=by simp;omega
  have hi2:ws[((i:Nat):Int).toNat]? = none:=by simp;omega
  rw [hi1,hi2]
  wp_walk using wpAny_loadPart' hl,wpAny_loadPart' hb
  show R (.ok (.ret (.bool (us.size != ws.size)))) _
  rw [hsz]
  simpa using h
 |succ k ih =>
  intro i hk prog w A R s h
  obtain ⟨hp,g,d,tk,os⟩:=s
  obtain ⟨hl,hb,he,h⟩:=h
  wp_walk using wpAny_loadPart' hl,wpAny_loadPart' hb
  have hlt:i < us.size:=by omega
  have hlt2:i < ws.size:=by omega
  have hi1:us[((i:Nat):Int).toNat]? = some us[i]:=by simp [hlt]
  have hi2:ws[((i:Nat):Int).toNat]? = some ws[i]:=by simp [hlt2]
  have hc:((i:Int)+1)=((i+1:Nat):Int):=by omega
  rw [hi1,hi2]
  refine wpAny_bind (he i hlt hlt2 prog w _ _ ?_)
  wp_walk
  rw [hc]
  exact ⟨plainId_quiet z3z _,codeAny_builtin z7j (by
   rw [Around.under_plainId z3z _]
   exact ih (i+1) (by omega) prog w A R _ ⟨hl,hb,he,h⟩)⟩
theorem y3w (l b:Addr) (us ws:Array Value) (n n2:Nat) (hsz:us.size=ws.size) :
  Meets (Builtin.«list.__ne__» ⟨[.ref l,.ref b],[]⟩)
   (fun A R s=>s.heap.get? l=some { cls:=.type "list",data:=.seq us n }∧s.heap.get? b=some { cls:=.type "list",data:=.seq ws n2 } ∧
    (∀ j (h1:j < us.size) (h2:j < ws.size),EqAt A.in1 s us[j] ws[j] true)∧R (.ok (.ret (.bool false))) s):=by
 intro prog w A R s h
 obtain ⟨hp,g,d,tk,os⟩:=s
 obtain ⟨hl,hb,he,h⟩:=h
 have f3:=AutoSeq1.sub_list_list
 have hne:¬ (us.size != ws.size)=true:=by simp [hsz]
 wp_walk using wpAny_loadPart' hl,wpAny_loadPart' hb
 exact ⟨plainId_quiet z3z _,codeAny_builtin z7j (by
  rw [Around.under_plainId z3z _]
  exact y2m l b us ws n n2 hsz _ 0 rfl prog w A R _ ⟨hl,hb,he,h⟩)⟩
theorem y5j (l b:Addr) (us ws:Array Value) (n n2:Nat) (hc0:(us.size != ws.size)=true) :
  Meets (Builtin.«list.__ne__» ⟨[.ref l,.ref b],[]⟩)
   (fun _ R s=>s.heap.get? l=some { cls:=.type "list",data:=.seq us n }∧s.heap.get? b=some { cls:=.type "list",data:=.seq ws n2 }∧R (.ok (.ret (.bool true))) s) :=
 .of_wp fun prog w A R s h=>by
  obtain ⟨hp,g,d,tk,os⟩:=s
  obtain ⟨hl,hb,h⟩:=h
  have f3:=AutoSeq1.sub_list_list
  wp_walk using wpAny_loadPart' hl,wpAny_loadPart' hb
  exact ⟨_,rfl,h⟩
section
variable {X:Cx}
theorem Inv.plainL {pins:List (Addr × Obj)}{σ:St}{H:Hp}{s:Shared}{p:Addr}{xs:List V}(I:Inv X pins σ H s) (h:H p=some (.lst xs)) :
  ∃ (its:List Value) (n:Nat),Vals xs its∧s.heap.get? p=some { cls:=.type "list",data:=.seq its.toArray n }:=by
 obtain ⟨_,its,n,r,e⟩:=I.hok p _ h
 exact ⟨its,n,r,e⟩
theorem z4h:OpR X (compareOp .NotEq) (fun x y H Q=>∃ a b,x = .ref a∧y = .ref b∧∃ xs,H a=some (.lst xs)∧∃ ys,H b=some (.lst ys)∧X.A.units < cLine ∧
  ((xs.length≠ys.length∧Q (.bl true) H)∨(xs.length=ys.length∧(∃ n,(∀ (i:Nat) x y,xs[i]? = some x→ys[i]? = some y→EqT H n x y)∧X.A.units+n+1 < cLine)∧Q (.bl false) H))):=by
 intro pins s σ H x y v u Q I rx ry h
 obtain ⟨a,b,rfl,rfl,xs,ha,ys,hb,hu,h⟩:=h
 cases rx
 cases ry
 obtain ⟨us,n1,ru,eu⟩:=I.plainL ha
 obtain ⟨ws,n2,rw',ew⟩:=I.plainL hb
 have l1:=ru.length
 have l2:=rw'.length
 rcases h with ⟨hl,q⟩|⟨hl,⟨n,h,hn⟩,q⟩
 ·exact richCompare_meets_room (op:=.NotEq) ⟨_,eu,rfl⟩ ⟨_,ew,rfl⟩ F.slot_list_ne F.entry_list_ne (F.args_list_ne_2 _ _) (y5j a b us.toArray ws.toArray n1 n2 (by simp;omega))
   ⟨eu,ew,(show Value.bool true≠Value.notImplemented∧EP X pins σ Q (.bool true) s from ⟨(fun z=>nomatch z),⟨.bl true,H,I,rfl,q⟩⟩)⟩ hu
 ·exact richCompare_meets_room (op:=.NotEq) ⟨_,eu,rfl⟩ ⟨_,ew,rfl⟩ F.slot_list_ne F.entry_list_ne (F.args_list_ne_2 _ _) (y3w a b us.toArray ws.toArray n1 n2 (by simp;omega))
   ⟨eu,ew,fun j h1 h2=>EqT.items (X:=X) (H:=H) (n:=n) ru rw' hl (fun i x y e1 e2 _ _ q1 q2=>(h i x y e1 e2).at I q1 q2 (by show X.A.units+1+n < cLine;omega)) j h1 h2,(show Value.bool false≠Value.notImplemented∧EP X pins σ Q (.bool false) s from ⟨(fun z=>nomatch z),⟨.bl false,H,I,rfl,q⟩⟩)⟩ hu
theorem z3p:OpR X (compareOp .Eq) (fun x y H Q=>∃ a b,x = .ref a∧y = .ref b∧∃ xs,H a=some (.lst xs)∧∃ ys,H b=some (.lst ys)∧X.A.units < cLine ∧
  ((xs.length≠ys.length∧Q (.bl false) H)∨(xs.length=ys.length∧(∃ n,(∀ (i:Nat) x y,xs[i]? = some x→ys[i]? = some y→EqT H n x y)∧X.A.units+n+1 < cLine)∧Q (.bl true) H))):=by
 intro pins s σ H x y v u Q I rx ry h
 obtain ⟨a,b,rfl,rfl,xs,ha,ys,hb,hu,h⟩:=h
 rcases h with ⟨hl,q⟩|⟨hl,⟨n,h,hn⟩,q⟩
 ·cases rx
  cases ry
  obtain ⟨us,ru,pu,_⟩:=I.list (SqL.of ha)
  obtain ⟨ws,rw',pw,_⟩:=I.list (SqL.of hb)
  exact SeqAt.eq_list_lengthsAt pu.isList pw.isList (by simp [← ru.length,← rw'.length,hl]) hu ⟨.bl false,H,I,rfl,q⟩
 ·exact y7a pins s σ H _ _ v u Q I rx ry ⟨n,a,b,xs,ys,rfl,rfl,ha,hb,hl,h,hn,q⟩
theorem y0j:OpR X (compareOp .In) (fun x y H Q=>∃ p,y = .ref p∧∃ xs,H p=some (.tup xs)∧z4g x=true∧xs.all z4g=true∧Q (.bl (inV x xs)) H):=fun pins s σ H x y v u Q I rx ry h =>
 y3e pins s σ H x y v u Q I rx ry (by obtain ⟨p,e,xs,e2,h1,h2,q⟩:=h;exact ⟨p,xs,e,.inr (SqT.of e2),h1,h2,q⟩)
theorem op_in_lst:OpR X (compareOp .In) (fun x y H Q=>∃ p,y = .ref p∧∃ xs,H p=some (.lst xs)∧z4g x=true∧xs.all z4g=true∧Q (.bl (inV x xs)) H):=fun pins s σ H x y v u Q I rx ry h =>
 y3e pins s σ H x y v u Q I rx ry (by obtain ⟨p,e,xs,e2,h1,h2,q⟩:=h;exact ⟨p,xs,e,.inl (SqL.of e2),h1,h2,q⟩)
theorem z3y:OpR X (compareOp .NotIn) (fun x y H Q=>∃ p,y = .ref p∧∃ xs,H p=some (.lst xs)∧z4g x=true∧xs.all z4g=true∧Q (.bl (!inV x xs)) H):=fun pins s σ H x y v u Q I rx ry h =>
 y3j pins s σ H x y v u Q I rx ry (by obtain ⟨p,e,xs,e2,h1,h2,q⟩:=h;exact ⟨p,xs,e,.inl (SqL.of e2),h1,h2,q⟩)
theorem y1i (k:Str) (ks:List Str):inV (.str k) (ks.map V.str)=decide (k∈ks):=by
 unfold inV
 induction ks with
 |nil=>simp
 |cons a r ih =>
  rw [List.map_cons,List.any_cons,ih,Bool.eq_iff_iff]
  simp [eqV,@eq_comm _ a k]
theorem z8j (ks:List Str):(ks.map V.str).all z4g=true:=by
 induction ks with
 |nil=>rfl
 |cons a r ih=>rw [List.map_cons,List.all_cons,ih];rfl
end
end L2
namespace L2
open PySem PySem.Spec PyProof.Rows PySem.SeqAt
section
variable {X:Cx}
theorem DGet.s {H:Hp}{a:Addr}{kvs:List (Key × V)}{k:Str}{v:V}(e:H a=some (.dK kvs)) (h:valV kvs (Sum.inr k)=some v):DGet H a (.str k) (some v):=by
 rw [← h];exact DGet.k (k:=Sum.inr k) e
theorem DGet.o {H:Hp}{a:Addr}{kvs:List (Key × V)}{k:Str}(e:H a=some (.dK kvs)):DGet H a (.str k) (valV kvs (Sum.inr k)):=DGet.k (k:=Sum.inr k) e
theorem DPut.s {H:Hp}{a:Addr}{kvs:List (Key × V)}{k:Str}{v:V}(e:H a=some (.dK kvs)) (hl:kvs.length < sizeLine):DPut H a (.str k) v (upd H a (.dK (putK kvs (Sum.inr k) v))):=DPut.k (k:=Sum.inr k) e hl
def Itv (a:Addr) (n:Nat):It:=⟨fun i H=>∃ xs x,H a=some (.lst xs)∧i < n∧xs[n - 1 - i]? = some x,fun i H x H'=>H' = H∧∀ xs,H a=some (.lst xs)→xs[n - 1 - i]? = some x,fun i _=>i=n⟩
theorem turn_rev {P:Program}{w:World}{K:PySem.W.Frag}{tg:Expr}(a it:Addr) (n:Nat):Turn P w K tg (Itv a n) [it] it (fun i h=>i≤n∧h.IsRevIter it a ((n:Int) - 1 - (i:Int))) where
 mem:=by simp
 obj:=fun i h st b hb=>by
  have e:b=it:=by simpa using hb
  subst e
  obtain ⟨o,e,c,d⟩:=st.2
  exact ⟨o,e,fun v z=>by rw [d] at z;cases z⟩
 keep:=fun i h h' st k=>⟨st.1,st.2.at fun o e=>k it (by simp) o e⟩
 item:=by
  intro X hP hw hK hc i pins s σ H E I hf st hg
  subst hP hw hK
  obtain ⟨xs,x,hq,hi,hx⟩:=hg
  obtain ⟨its,rv,p,hz⟩:=I.list (SqL.of hq)
  obtain ⟨u,hu,ru⟩:=rv.get hx
  obtain ⟨f0,f1,f2,f3,f4,f5⟩:=hf it (by simp)
  have e:((n:Int) - 1 - (i:Int))=((n - 1 - i:Nat):Int):=by omega
  have st2:=st.2
  rw [e] at st2
  refine wpAny_pyNext_rev_item st2 p.isList (x:=u) (by simpa using hu) fun h' st' sb=>?_
  have I1:Inv X pins σ H { s with heap:=h' }:=I.turned (t':=s.toks) (fun b o hb e=>(sb.2 b hb).trans e) f0 f1 f3 f4 f5
  have e2:(((n - 1 - i:Nat):Int) - 1)=((n:Int) - 1 - ((i+1:Nat):Int)):=by omega
  rw [e2] at st'
  obtain ⟨o,e,c,d⟩:=id st'
  exact ⟨u,rfl,go_of (s:={ s with heap:=h' }) e c d (by decide) ⟨x,H,I1,ru,⟨rfl,fun ys hy=>by rw [hq] at hy;cases hy;exact hx⟩,⟨hi,st'⟩,fun b hb=>(hf b hb).1⟩⟩
 done:=by
  intro X hP hw hK hc i pins s σ H E I hf st hg
  subst hP hw hK
  have hg':i=n:=hg
  subst hg'
  obtain ⟨f0,f1,f2,f3,f4,f5⟩:=hf it (by simp)
  have st2:=st.2
  rw [show ((i:Int) - 1 - (i:Int)) = -1 by omega] at st2
  exact wpAny_pyNext_rev_end (I.ok.hd hc) st2 fun h' eb=>⟨rfl,I.turned (t':=s.toks) (fun b o hb e=>eb b o hb e) f0 f1 f3 f4 f5⟩
 self:=fun _ _ _ _ _ st h=>wpAny_pyIter_revIter st.2 h
def iRev (tl:TE):TI:=fun σ H R=>tl σ H fun x H1=>∃ a,x = .ref a∧∃ xs,H1 a=some (.lst xs)∧R (Itv a xs.length) H1
theorem pi_rev {tg l:Expr}{tl:TE}{p2 p3:Pos}(hgR:Gl X "reversed") (hmR:X.mg "reversed" = none) (hl:PE X l tl) (hs2:starEach [l] X.env=[(false,eval l X.env)]:=by rfl):PI X tg (.Call (.Name "reversed" p2) [l] [] p3) (iRev tl):=by
 intro pins s σ H R I h
 refine wpAny_Call_Name_kw (z4t I hgR hmR PyProof.Rows.boot_reversed ?_)
 refine PyProof.Rows.callWith_type1 ?_ hs2 rfl
 rw [hs2]
 show wpAny _ _ (spliced ((false,eval l X.env)::[])) _ _ s
 refine Calls.spliced_cons (thn (hl pins s σ H _ I h) fun v s1 ⟨x,H1,I1,r1,q1⟩=>Calls.spliced_nil ?_)
 obtain ⟨a,rfl,xs,hq,q⟩:=q1
 cases r1
 obtain ⟨its,rv,pl,hz⟩:=I1.list (SqL.of hq)
 have hlen:=rv.length
 refine call_reversed_list pl.isList ?_
 have hn:((its.toArray.size:Nat):Int) - 1=((xs.length:Nat):Int) - 1 - ((0:Nat):Int):=by simp [hlen]
 rw [hn]
 have hit:(s1.heap.push (revObj a ((xs.length:Int) - 1 - ((0:Nat):Int)))).IsRevIter s1.heap.objs.size a ((xs.length:Int) - 1 - ((0:Nat):Int)):=⟨_,Heap.get?_push_size _ rfl,rfl,rfl⟩
 refine wpAny_pyIter_revIter hit ?_
 refine ⟨s1.heap.objs.size,[s1.heap.objs.size],_,_,H1,rfl,I1.kept (t':=s1.toks) fun b o e=>Heap.get?_push_of_some _ e,turn_rev a _ xs.length,⟨Nat.zero_le _,hit⟩,fun b hb=>?_,q⟩
 have e:b=s1.heap.objs.size:=by simpa using hb
 subst e
 exact I1.fpOk (Nat.le_refl _) I1.fresh
end
end L2
namespace L2
open PySem PySem.Spec PyProof.Rows PySem.SeqAt
section
variable {X:Cx}
theorem Inv.turnsLaid {pins:List (Addr × Obj)}{σ:St}{H:Hp}{s:Shared}{h':Heap}{ch:List Addr}{a:Addr}{o:HO}{t':Nat}(I:Inv X pins σ H s) (k:∀ b u,b∉ch→s.heap.get? b=some u→h'.get? b=some u) (f:∀ b∈ch,FpOk X pins H b) (hp:s.heap.objs.size≤a)
  (new:ObjOk X.prog X.w (upd H a o) h' a o):Inv X pins σ (upd H a o) { s with heap:=h',toks:=t' }:=by
 have hn:H a=none:=I.hok.fresh hp
 have ne:∀ b u,s.heap.get? b=some u→b≠a:=fun b u e=>Nat.ne_of_lt (Nat.lt_of_lt_of_le (Heap.lt_size e) hp)
 have nch:∀ b u,H b=some u→b∉ch:=fun b u e z=>by rw [(f b z).1] at e;cases e
 refine I.step (g':=s.gens) (d':=s.drawn) (ch:=ch) (fun b hb=>?_) (fun b u _ _ hc e _=>k b u hc e) (fun b u _ _ hc e _=>⟨u.slots,k b u hc e⟩) (fun b u _ e n=>by rw [z0f (ne b u e)];exact n)
  (fun b u hc e=>⟨u,k b u hc e⟩) (fun b xs e=>by rw [z0f (z0l e hn)];exact e) (fun b u v e=>by rw [z0f (z0l e hn)];exact e) (fun b ps e=>⟨#[],by rw [z0f (z0l e hn),e];simp⟩) (fun m hm=>?_) (fun b u e=>?_) I.bare
 ·obtain ⟨_,f1,_,f3,f4,f5⟩:=f b hb
  exact ⟨f3,f1,f4,f5⟩
 ·obtain ⟨o',es,ep,ho,r⟩:=hm
  exact ⟨o',es,ep,k _ o' (fun z=>(f _ z).2.1 rfl) ho,r⟩
 ·by_cases hb:b=a
  ·subst hb;rw [z0d] at e;cases e;exact new
  ·rw [z0f hb] at e
   refine (I.hok b u e).stay (fun c v hc q=>k c v ?_ q) (fun c q=>by rw [z0f (z0l q hn)];exact q) fun c xs q=>by rw [z0f (z0l q hn)];exact q
   rcases hc with z|z
   ·rw [z];exact nch b u e
   ·exact nch c _ z
theorem Inv.turneds {pins:List (Addr × Obj)}{σ:St}{H:Hp}{s:Shared}{h':Heap}{ch:List Addr}{t':Nat}(I:Inv X pins σ H s) (k:∀ b u,b∉ch→s.heap.get? b=some u→h'.get? b=some u) (f:∀ b∈ch,FpOk X pins H b):Inv X pins σ H { s with heap:=h',toks:=t' }:=by
 have nch:∀ b u,H b=some u→b∉ch:=fun b u e z=>by rw [(f b z).1] at e;cases e
 refine I.step (g':=s.gens) (d':=s.drawn) (ch:=ch) (fun b hb=>?_) (fun b u _ _ hc e _=>k b u hc e) (fun b u _ _ hc e _=>⟨u.slots,k b u hc e⟩) (fun b u _ _ n=>n)
  (fun b u hc e=>⟨u,k b u hc e⟩) (fun b xs e=>e) (fun b u v e=>e) (fun b ps e=>⟨#[],by rw [e];simp⟩) (fun m hm=>?_) (fun b u e=>?_) I.bare
 ·obtain ⟨_,f1,_,f3,f4,f5⟩:=f b hb
  exact ⟨f3,f1,f4,f5⟩
 ·obtain ⟨o',es,ep,ho,r⟩:=hm
  exact ⟨o',es,ep,k _ o' (fun z=>(f _ z).2.1 rfl) ho,r⟩
 ·refine (I.hok b u e).stay (fun c v hc q=>k c v ?_ q) (fun c q=>q) fun c xs q=>q
  rcases hc with z|z
  ·rw [z];exact nch b u e
  ·exact nch c _ z
theorem y4d {n a b:Nat}(la:a < n) (lb:b < n):ZipApart (n+4) (n+2) (n+3) n (n+1) a b:=by
 constructor <;> (show (_:Nat)≠_;omega)
def Itz (a b:Addr):It :=
 ⟨fun i H=>∃ xs ys x y,H a=some (.lst xs)∧H b=some (.lst ys)∧xs[i]? = some x∧ys[i]? = some y,
 fun i H v H'=>∃ t,v = .ref t∧H t=none∧∀ xs ys,H a=some (.lst xs)→H b=some (.lst ys)→∃ x y,xs[i]? = some x∧ys[i]? = some y∧H' = upd H t (.tup [x,y]),
 fun i H=>∃ xs ys,H a=some (.lst xs)∧H b=some (.lst ys)∧(xs[i]? = none∨ys[i]? = none)⟩
theorem turn_zip {P:Program}{w:World}{K:PySem.W.Frag}{elts:List Expr}{x1:Nat}{pos:Pos}{l1 l2 z TI TO i1 i2:Addr}(D:ZipApart z TI TO i1 i2 l1 l2) (nd:z≠TO) :
  Turn P w K (.Tuple elts x1 pos) (Itz l1 l2) [z,TI,TO,i1,i2] z (fun i h=>IsZip h z TI TO .none∧IsPair h TI (.ref i1) (.ref i2)∧(∃ a b,IsPair h TO a b)∧h.IsListIter i1 l1 i∧h.IsListIter i2 l2 i) where
 mem:=by simp
 obj:=fun i h st b hb=>by
  obtain ⟨h1,h2,⟨c,d,h3⟩,⟨o4,e4,c4,d4⟩,⟨o5,e5,c5,d5⟩⟩:=st
  simp only [List.mem_cons,List.not_mem_nil,or_false] at hb
  rcases hb with rfl|rfl|rfl|rfl|rfl
  ·exact ⟨_,h1,fun v z=>by cases z⟩
  ·exact ⟨_,h2,fun v z=>by cases z⟩
  ·exact ⟨_,h3,fun v z=>by cases z⟩
  ·exact ⟨_,e4,fun v z=>by rw [d4] at z;cases z⟩
  ·exact ⟨_,e5,fun v z=>by rw [d5] at z;cases z⟩
 keep:=fun i h h' ⟨h1,h2,⟨c,d,h3⟩,h4,h5⟩ k=>⟨k z (by simp) _ h1,k TI (by simp) _ h2,⟨c,d,k TO (by simp) _ h3⟩,h4.at fun o e=>k i1 (by simp) o e,h5.at fun o e=>k i2 (by simp) o e⟩
 item:=by
  intro X hP hw hK hc i pins s σ H E I hf st hg
  subst hP hw hK
  obtain ⟨h1,h2,⟨c,d,h3⟩,h4,h5⟩:=st
  obtain ⟨xs,ys,x,y,ha,hb,hx,hy⟩:=hg
  obtain ⟨us,ru,pu,_⟩:=I.list (SqL.of ha)
  obtain ⟨ws,rw',pw,_⟩:=I.list (SqL.of hb)
  obtain ⟨ux,ex,rx⟩:=ru.get hx
  obtain ⟨uy,ey,ry⟩:=rw'.get hy
  refine wpAny_pyNext_zip_item D h1 h2 h3 h4 h5 pu.isList pw.isList (x:=ux) (y:=uy) (by simpa using ex) (by simpa using ey) fun h' a1 a2 a3 a4 a5 a6 a7=>?_
  have I1:Inv X pins σ (upd H s.heap.objs.size (.tup [x,y])) { s with heap:=h' }:=I.turnsLaid (t':=s.toks) (ch:=[z,TO,i1,i2]) (fun b u hb e=>a7 b u (fun q=>hb (by simp [q])) (fun q=>hb (by simp [q])) (fun q=>hb (by simp [q])) (fun q=>hb (by simp [q])) e)
   (fun b hb=>hf b (by simp at hb;rcases hb with h|h|h|h <;> simp [h])) (Nat.le_refl _) (show ObjOk X.prog X.w _ h' _ (.tup [x,y]) from ⟨by show 2≤sizeLine;decide,[ux,uy],.cons rx (.cons ry .nil),⟨_,a5,rfl,_,rfl⟩⟩)
  have hfr:=I.fresh
  have old:∀ b∈[z,TI,TO,i1,i2],upd H s.heap.objs.size (.tup [x,y]) b=none:=fun b hb=>by
   rw [z3t]
   refine ⟨fun e=>?_,(hf b hb).1⟩
   have ob:∃ o,s.heap.get? b=some o:=by
    obtain ⟨o4,e4,_⟩:=h4
    obtain ⟨o5,e5,_⟩:=h5
    simp only [List.mem_cons,List.not_mem_nil,or_false] at hb
    rcases hb with rfl|rfl|rfl|rfl|rfl
    ·exact ⟨_,h1⟩
    ·exact ⟨_,h2⟩
    ·exact ⟨_,h3⟩
    ·exact ⟨_,e4⟩
    ·exact ⟨_,e5⟩
   obtain ⟨o,eo⟩:=ob
   exact absurd (Heap.lt_size eo) (by rw [e];exact Nat.lt_irrefl _)
  refine ⟨_,rfl,wpAny_letOwnedTupleGo_zip (s:={ s with heap:=h' }) a1 fun h2' b1 b2=>?_⟩
  obtain ⟨_,f1,f2,f3,f4,f5⟩:=hf z (by simp)
  have I2:Inv X pins σ (upd H s.heap.objs.size (.tup [x,y])) { s with heap:=h2' }:=I1.turned (t':=s.toks) (fun b o hb e=>(b2.2 b hb).trans e) (old z (by simp)) f1 f3 f4 f5
  refine ⟨.ref s.heap.objs.size,_,I2,rfl,⟨_,rfl,hfr,fun xs' ys' q1 q2=>?_⟩,⟨b1,?_,⟨ux,uy,?_⟩,a3.at fun o e=>(b2.2 i1 D.i1z).trans e,a4.at fun o e=>(b2.2 i2 D.i2z).trans e⟩,old⟩
  ·rw [ha] at q1;cases q1
   rw [hb] at q2;cases q2
   exact ⟨x,y,hx,hy,rfl⟩
  ·exact (b2.2 TI D.TIz).trans (a7 TI _ D.TIz D.TITO D.TIi1 D.TIi2 h2)
  ·exact (b2.2 TO D.TOz).trans a2
 done:=by
  intro X hP hw hK hc i pins s σ H E I hf st hg
  subst hP hw hK
  obtain ⟨h1,h2,⟨c,d,h3⟩,h4,h5⟩:=st
  obtain ⟨xs,ys,ha,hb,hend⟩:=hg
  obtain ⟨us,ru,pu,_⟩:=I.list (SqL.of ha)
  obtain ⟨ws,rw',pw,_⟩:=I.list (SqL.of hb)
  refine wpAny_pyNext_zip_end (I.ok.hd hc) D h1 h2 h3 h4 h5 pu.isList pw.isList ?_ fun h' hk=>⟨rfl,I.turneds (t':=s.toks) (ch:=[z,TO,i1,i2]) (fun b u hb e=>hk b u (fun q=>hb (by simp [q])) (fun q=>hb (by simp [q])) (fun q=>hb (by simp [q])) (fun q=>hb (by simp [q])) e) (fun b hb=>hf b (by simp at hb;rcases hb with h|h|h|h <;> simp [h]))⟩
  rcases hend with e|e
  ·exact .inl (by simpa using Vals.none_of ru e)
  ·exact .inr (by simpa using Vals.none_of rw' e)
 self:=fun _ _ _ _ _ st h=>wpAny_pyIter_zip st.1 h
def iZip (ta:TA):TI:=fun σ H R=>ta σ H fun vs H1=>∃ a b,vs=[.ref a,.ref b]∧∃ xs,H1 a=some (.lst xs)∧∃ ys,H1 b=some (.lst ys)∧R (Itz a b) H1
theorem pi_zip {elts:List Expr}{x1:Nat}{pt:Pos}{e1 e2:Expr}{ta:TA}{p pos:Pos}(hg:Gl X "zip") (hm:X.mg "zip" = none) (ha:PA X [e1,e2] ta) (hs:starEach [e1,e2] X.env=(false,eval e1 X.env)::starEach [e2] X.env:=by rfl) (hpl:(backTo pos (starEach [e2] X.env)).any (·.1)=false:=by rfl) :
  PI X (.Tuple elts x1 pt) (.Call (.Name "zip" p) [e1,e2] [] pos) (iZip ta):=by
 intro pins s σ H R I h
 refine wpAny_Call_Name_kw (z4t I hg hm PyProof.Rows.boot_zip ?_)
 refine PyProof.Rows.callWith_type1 (thn (ha pos pins s σ H _ I h) fun us s1 ⟨vs,H1,I1,r1,q1⟩=>?_) hs hpl
 obtain ⟨a,b,rfl,xs,hA,ys,hB,q⟩:=q1
 obtain ⟨u,w',rfl,ru,rw'⟩:=vals2 r1
 cases ru
 cases rw'
 obtain ⟨us,ru,pu,_⟩:=I1.list (SqL.of hA)
 obtain ⟨ws,rw',pw,_⟩:=I1.list (SqL.of hB)
 obtain ⟨oa,ea,_⟩:=id pu.isList
 obtain ⟨ob,eb,_⟩:=id pw.isList
 have la:=Heap.lt_size ea
 have lb:=Heap.lt_size eb
 refine call_zip_2 pu.isList pw.isList fun h' z1 z2 z3 z4 z5 z6 z7=>wpAny_pyIter_zip z1 ?_
 have D:ZipApart (s1.heap.objs.size+4) (s1.heap.objs.size+2) (s1.heap.objs.size+3) s1.heap.objs.size (s1.heap.objs.size+1) a b:=y4d la lb
 refine ⟨s1.heap.objs.size+4,_,_,_,H1,rfl,I1.kept (t':=s1.toks) z7,turn_zip D (by show (_:Nat)≠_;omega),⟨z1,z2,⟨_,_,z3⟩,z4,z5⟩,fun c hc=>?_,q⟩
 have hge:s1.heap.objs.size≤c:=by
  simp only [List.mem_cons,List.not_mem_nil,or_false] at hc
  rcases hc with rfl|rfl|rfl|rfl|rfl
  ·exact Nat.le_add_right _ _
  ·exact Nat.le_add_right _ _
  ·exact Nat.le_add_right _ _
  ·exact Nat.le_refl _
  ·exact Nat.le_add_right _ _
 exact I1.fpOk hge (I1.hok.fresh hge)
end
end L2
namespace L2
open PySem PySem.Spec PyProof.Rows
structure CScopeG (osc:Scope) (N:List Str) (xs:List Str) (sc:Scope) (M:List Str):Prop where
 kind:sc.kind = .function
 cell:∀ y∈sc.names,y.2 ≠ .cell
 names:∀ y∈sc.names,y.2 = .local→sc.names.lookup y.1=some .local
 free:∀ y∈sc.names,y.2 = .free→osc.names.lookup y.1=some .cell∨osc.names.lookup y.1=some .free
 ok:namesOk sc N M=true
def y6n (n:Nat) (wi:TI) (g:TG) (tc:TT) (te:TE):TE:=fun σ H Q=>wi σ H fun J H1=>∀ D,H1 D=none→∃ W:Nat→Nat→List V→Hp→Prop,(∃ m,W 0 m [] (upd H1 D (.lst [])))∧∀ i m ys H2,W i m ys H2 →
 H2 D=some (.lst ys)∧((J.stop i H2∧Q (.ref D) H2)∨(J.go i H2∧∃ N:List V→Hp→Prop,(∀ ys' H',N ys' H'→∃ m',m' < m∧W (i+1) m' ys' H')∧∀ v H3,J.yld i H2 v H3→∀ τ:L2.St,τ.length=n→g v (τ ++ σ) H3 fun σ4 H4=>(∃ τ':L2.St,τ'.length=n∧σ4=τ' ++ σ)∧tc σ4 H4 fun b H5=>if b=true then te σ4 H5 fun y H6=>H6 D=some (.lst ys)∧ys.length < sizeLine∧N (ys ++ [y]) (upd H6 D (.lst (ys ++ [y])))
   else N ys H5))
theorem z4n {prog:Program}{w:World}{A:Around}{R:Result→Shared→Prop}{s:Shared}{elt target iter:Expr}{ifs:List Expr}{scope:Scope}{pos:Pos}{it acc:Value}{env:Env}(I:Nat→Shared→Prop)
  (turn:∀ n s,I n s→wpAny (model prog w) A (pyNext it) (fun r s₁=>match r with
   |none=>R (.ok .next) s₁
   |some v=>wpAny (model prog w) A (letOwnedTupleGo target it v >>= fun _=>assign target env v) (fun _ s₂ =>
     wpAny (model prog w) A (forIn ifs true fun c r=>if r=true then do let ok ← isTrue c env (eval c env);pure (ForInStep.yield ok) else pure (ForInStep.yield r)) (fun ok s₃ =>
      if ok=true then wpAny (model prog w) A (eval elt env) (fun x s₄ =>
       wpAny (model prog w) A (call (.builtin "list.append") [acc,x]) (fun _ s₅=>∃ m,m < n∧I m s₅) (notedBy (model prog w) A env fun e s'=>R (.error e) s') s₄) (notedBy (model prog w) A env fun e s'=>R (.error e) s') s₃
      else ∃ m,m < n∧I m s₃) (notedBy (model prog w) A env fun e s'=>R (.error e) s') s₂) (notedBy (model prog w) A env fun e s'=>R (.error e) s') s₁) (notedBy (model prog w) A env fun e s'=>R (.error e) s') s)
  (n:Nat) (h:I n s) :
  codeAny (model prog w) A (.compLoop (.ListComp elt [⟨target,iter,ifs,0⟩] scope pos) 0 it acc env) R s:=by
 refine codeAny_loop rfl I (fun n s hI=>?_) n h
 show wpAny _ A ((compTurn (.ListComp elt [⟨target,iter,ifs,0⟩] scope pos) 0 it acc env).onRaise (fun x=>do noteFrame x env;theTreesLotGoes x)) _ _ s
 refine wpAny_noted ?_
 rw [compTurn_list]
 refine wpAny_bind (wpAny_standAt (wpAny_bind (wpAny_mono (turn n s hI) (fun r s₁ h₁=>?_) fun _ _ h'=>h')))
 cases r with
 |none=>exact wpAny_pure h₁
 |some v =>
  show wpAny _ A (letOwnedTupleGo target it v >>= fun _=>assign target env v >>= _) _ _ s₁
  rw [← bind_assoc]
  refine wpAny_bind (wpAny_mono h₁ (fun _ s₂ h₂=>wpAny_bind (wpAny_mono h₂ (fun ok s₃ h₃=>?_) fun _ _ h'=>h')) fun _ _ h'=>h')
  cases ok with
  |false=>exact wpAny_pure ⟨rfl,h₃⟩
  |true =>
   exact wpAny_bind (wpAny_bind (wpAny_mono h₃ (fun x s₄ h₄=>wpAny_bind (wpAny_mono h₄ (fun _ s₅ h₅=>wpAny_pure (wpAny_pure ⟨rfl,h₅⟩)) fun _ _ h'=>h')) fun _ _ h'=>h'))
section
variable {X:Cx}
theorem y3m {elt iter tg:Expr}{xs:List Str}{pos:Pos}{ifs:List Expr}{sc:Scope}{M:List Str}{pins:List (Addr × Obj)}{σ:L2.St}{H2:Hp}{s2:Shared}{it:Addr}{fp:List Addr}{tn:Nat→Heap→Prop}{J:It}{g:TG}{tc:TT}{te:TE}{Q:VK}
  {RR:Value→Addr→Result→Shared→Prop}{E:Value→Shared→Prop}
  (hc:X.calm=true) (hg:∀ pins ex H₀ s₀ C,PG (z2w X sc (xs ++ M) pins ex H₀ s₀ C) tg g) (S:CScopeG X.env.scope X.N xs sc M)
  (ht:∀ pins ex H₀ s₀ C,PF (z2w X sc (xs ++ M) pins ex H₀ s₀ C) ifs tc) (he:∀ pins ex H₀ s₀ C,PE (z2w X sc (xs ++ M) pins ex H₀ s₀ C) elt te)
  (I2:Inv X pins σ H2 s2) (T:Turn X.prog X.w X.K tg J fp it tn) (st2:tn 0 s2.heap) (f2:∀ b∈fp,FpOk X pins H2 b)
  (hw:∀ D,H2 D=none→∃ W:Nat→Nat→List V→Hp→Prop,(∃ m,W 0 m [] (upd H2 D (.lst [])))∧∀ i m ys H2,W i m ys H2 →
   H2 D=some (.lst ys)∧((J.stop i H2∧Q (.ref D) H2)∨(J.go i H2∧∃ N:List V→Hp→Prop,(∀ ys' H',N ys' H'→∃ m',m' < m∧W (i+1) m' ys' H')∧∀ v H3,J.yld i H2 v H3→∀ τ:L2.St,τ.length=xs.length→g v (τ ++ σ) H3 fun σ4 H4=>(∃ τ':L2.St,τ'.length=xs.length∧σ4=τ' ++ σ)∧tc σ4 H4 fun b H5=>if b=true then te σ4 H5 fun y H6=>H6 D=some (.lst ys)∧ys.length < sizeLine∧N (ys ++ [y]) (upd H6 D (.lst (ys ++ [y])))
   else N ys H5)))
  (hRR:∀ (D C:Addr) (s':Shared) (H':Hp) (m:Str→Option Value),Inv X pins σ H' s'→s'.heap.Ns C m→H' C=none→s2.heap.objs.size≤C→Q (.ref D) H'→RR (.ref D) C (.ok .next) s') :
  wpAny (model X.prog X.w) X.A (newList []) (fun acc s₃=>wpAny (model X.prog X.w) X.A (newFunctionEnv sc X.env.globals (z5r sc.names X.env.cells []) [] X.env.qual none .none (some X.env)) (fun cenv s₄ =>
   codeAny (model X.prog X.w) X.A (.compStart (.ListComp elt [⟨tg,iter,ifs,0⟩] sc pos) 0 (.ref it) acc { cenv with scope:=relabel sc X.env }) (RR acc cenv.locals) s₄) E s₃) E s2:=by
 obtain ⟨W,⟨m0,w0⟩,turn⟩:=hw s2.heap.objs.size I2.fresh
 have hfreeC:∀ y∈sc.names,y.2 = .free→∃ c,X.env.cells.lookup y.1=some c:=fun y hy hf=>I2.ok.has y.1 (S.free y hy hf)
 have clk:∀ {y:Str}{c:Addr},(z5r sc.names X.env.cells []).lookup y=some c→X.env.cells.lookup y=some c:=fun {y c} e=>z7f sc.names [] hfreeC (fun z=>by cases z) e
 obtain ⟨nlen,nget⟩:=namesOk.get S.ok
 have I3:Inv X pins σ (upd H2 s2.heap.objs.size (.lst [])) { s2 with heap:=s2.heap.push { cls:=.type "list",data:=.seq ([]:List Value).toArray } }:=I2.lnew (its:=[]) (t':=s2.toks) .nil (Nat.zero_le _)
 refine wpAny_newObj_type ?_
 generalize hs3:({ s2 with heap:=s2.heap.push { cls:=.type "list",data:=.seq ([]:List Value).toArray } }:Shared)=s3 at I3
 have e3:s3.heap=s2.heap.push { cls:=.type "list",data:=.seq ([]:List Value).toArray }:=by rw [← hs3]
 have sz3:s3.heap.objs.size=s2.heap.objs.size+1:=by rw [e3,Heap.size_push]
 have up3:∀ b o,s2.heap.get? b=some o→s3.heap.get? b=some o:=fun b o e=>by rw [e3];exact Heap.get?_push_of_some _ e
 have st3:tn 0 s3.heap:=T.keep _ _ _ st2 fun b _ o e=>up3 b o e
 have fpL:∀ b∈fp,b < s2.heap.objs.size:=fun b hb=>let ⟨_,e,_⟩:=T.obj _ _ st2 b hb;Heap.lt_size e
 have f3:∀ b∈fp,FpOk X pins (upd H2 s2.heap.objs.size (.lst [])) b:=fun b hb=>⟨by rw [z0f (Nat.ne_of_lt (fpL b hb))];exact (f2 b hb).1,(f2 b hb).2⟩
 show wpAny _ _ (newFunctionEnv sc X.env.globals (z5r sc.names X.env.cells []) [] X.env.qual none .none (some X.env)) _ _ s3
 refine wpAny_newFunctionEnv S.cell (by intro y hy;simp at hy) (fun h₁ hns₁ hsb₁=>?_) S.kind
 have old:∀ b o,s3.heap.get? b=some o→h₁.get? b=some o:=fun b o e=>hsb₁.extBut b o (Nat.ne_of_lt (Heap.lt_size e)) (Heap.get?_push_of_some _ e)
 have cellLt:∀ {y:Str}{c:Addr},X.env.cells.lookup y=some c→c < s3.heap.objs.size:=fun {y c} e=>let ⟨_,z⟩:=I3.cell y c e;z.lt
 have locLt:=I3.lt
 generalize hC:s3.heap.objs.size=C at hns₁ hsb₁ cellLt locLt ⊢
 have hle:s2.heap.objs.size≤C:=by rw [← hC,sz3];exact Nat.le_succ _
 let X':Cx:=z2w X sc (xs ++ M) pins fp (upd H2 s2.heap.objs.size (.lst [])) s3 C
 have ok':X'.Ok:={
  mod:=I3.ok.mod
  kind:=S.kind
  glob:=I3.ok.glob
  blt:=I3.ok.blt
  above:=Nat.le_of_eq hC
  inj:=fun y z c e1 e2=>I3.ok.inj y z c (clk e1) (clk e2)
  has:=fun y hy=>by
   have hf:sc.names.lookup y=some .free:=by
    rcases hy with hy|hy
    ·rcases z5u hy with q|⟨_,q⟩
     ·exact absurd rfl (S.cell _ (z4i q))
     ·exact q
    ·rcases z5u hy with q|⟨q,_⟩
     ·exact q
     ·cases q
   exact Option.isSome_iff_exists.mp (z8k sc.names [] (.inl (z4i hf)))
  cab:=fun y c h _=>by cases h
  hd:=I3.ok.hd
  frames:=I3.ok.frames
  stk:=.inl rfl
  exf:=fun b hb=>⟨Nat.ne_of_lt (Nat.lt_of_lt_of_le (fpL b hb) hle),fun y c e=>(f3 b hb).2.2.2.2.1 y c (clk e)⟩
  bs:=I3.bs
  bsz:=Nat.le_trans I3.ok.bsz I3.sz
  noex:=fun b o e hb=>by
   rcases (f3 b hb).2.2.2.1 with z|z
   ·exact I3.ok.noex b o e z
   ·exact absurd (Nat.lt_of_lt_of_le (Heap.lt_size e) (Nat.le_trans I3.ok.bsz z)) (Nat.lt_irrefl _)
  exfs:=fun b hb z=>by
   rcases List.mem_cons.mp (I3.stkSub b z) with q|q
   ·exact (f3 b hb).2.1 q
   ·exact (f3 b hb).2.2.1 q
  funs:=I3.stack
  frf:=I3.stkFree }
 have seen:∀ {h':Heap}{m:Str→Option Value},(∀ b o,s3.heap.get? b=some o→h'.get? b=some o)→∀ (i:Nat) (y:Str) (v:V),(xs ++ M)[i]? = some y→(List.replicate xs.length none ++ σ)[i]? = some (some v)→Vis (relabel sc X.env) y→∃ u,RelV v u∧Look (compEnvC sc (z5r sc.names X.env.cells []) C X.env) h' m y u:=by
  intro h' m kp i y v e1 e2 e3
  by_cases hi:i < xs.length
  ·rw [List.getElem?_append_left (by simpa using hi),List.getElem?_replicate,if_pos hi] at e2
   cases e2
  ·obtain ⟨i,rfl⟩:∃ k,i=xs.length+k:=⟨i - xs.length,by omega⟩
   have e1':M[i]? = some y:=by rw [List.getElem?_append_right (by omega)] at e1;simpa using e1
   have e2':σ[i]? = some (some v):=by rw [List.getElem?_append_right (by simp)] at e2;simpa using e2
   rcases nget i y e1' with q|⟨q1,q2⟩
   ·rcases e3 with z|z|z <;> rcases z5u z with z|⟨_,z⟩ <;> rw [q] at z <;> cases z
   ·have ofree:=S.free (y,.free) (z4i q2) rfl
    obtain ⟨mo,_,hl⟩:=I3.loc
    obtain ⟨u,r,l⟩:=hl i y v q1 e2' (by rcases ofree with z|z;exact .inr (.inl z);exact .inr (.inr z))
    refine ⟨u,r,.inr ⟨y2s q2,?_⟩⟩
    rcases l with ⟨z,_⟩|⟨_,c,z1,z2⟩
    ·have z':X.env.scope.names.lookup y=some .local:=z
     rcases ofree with q|q <;> rw [z'] at q <;> cases q
    ·obtain ⟨c',hc'⟩:=Option.isSome_iff_exists.mp (z8k (cells:=X.env.cells) (y:=y) sc.names [] (.inl (z4i q2)))
     have z3:=clk hc'
     rw [z1] at z3
     cases z3
     obtain ⟨o,ho,hd⟩:=z2
     exact ⟨c,hc',o,kp c o ho,hd⟩
 have I4:Inv X' [] (List.replicate xs.length none ++ σ) (upd H2 s2.heap.objs.size (.lst [])) { s3 with heap:=h₁,toks:=s3.toks+([]:List (Str × Value)).length }:={
  ok:=ok'
  os:=rfl
  bare:=I3.bare
  base:=Un.kept old
  loc:=⟨_,hns₁,fun i y v e1 e2 e3=>seen old i y v e1 e2 e3⟩
  cell:=fun y c e=>by
   obtain ⟨v,o,ho,hd⟩:=I3.cell y c (clk e)
   exact ⟨v,o,old c o ho,hd⟩
  free:=I3.hok.fresh (Nat.le_of_eq hC)
  freeC:=fun y c e=>I3.freeC y c (clk e)
  pin:=fun p hp=>by
   have hp':p∈X.pn ++ pins:=by simpa [X',z2w] using hp
   obtain ⟨e,n,ne,nf,d⟩:=I3.pin p hp'
   refine ⟨old _ _ e,n,?_,fun z=>?_,d⟩
   ·exact Nat.ne_of_lt (Nat.lt_of_lt_of_le (Heap.lt_size e) (Nat.le_of_eq hC))
   ·rcases List.mem_cons.mp (I3.stkSub p.1 z) with q|q
    ·exact ne q
    ·exact nf q
  hok:=I3.hok.kept old
  len:=by
   have l3:=I3.len
   show (List.replicate xs.length none ++ σ).length=(xs ++ M).length
   rw [List.length_append,List.length_append,List.length_replicate,l3,nlen] }
 have fx:∀ {H':Hp},(∀ b∈fp,H' b=none)→∀ b∈fp,FpOk X' [] H' b:=fun hn b hb=>by
  refine ⟨hn b hb,(ok'.exf b hb).1,ok'.exfs b hb,.inl hb,(ok'.exf b hb).2,fun p hp=>?_⟩
  exact (f3 b hb).2.2.2.2.2 p (by simpa [X',z2w] using hp)
 have envE:({ newEnv sc C X.env.globals (z5r sc.names X.env.cells []) X.env.qual none .none (some X.env) builtinsNs with scope:=relabel sc X.env }:Env)=compEnvC sc (z5r sc.names X.env.cells []) C X.env:=rfl
 have loop:codeAny (model X.prog X.w) X.A (.compLoop (.ListComp elt [⟨tg,iter,ifs,0⟩] sc pos) 0 (.ref it) (.ref s2.heap.objs.size) (compEnvC sc (z5r sc.names X.env.cells []) C X.env)) (RR (.ref s2.heap.objs.size) C)
   { s3 with heap:=h₁,toks:=s3.toks+([]:List (Str × Value)).length }:=by
  refine z4n (fun n s'=>∃ i ys τ H',τ.length=xs.length∧Inv X' [] (τ ++ σ) H' s'∧tn i s'.heap∧(∀ b∈fp,H' b=none)∧W i n ys H') ?_ m0 ⟨0,[],List.replicate xs.length none,_,by simp,I4,T.keep _ _ _ st3 fun b _ o e=>old b o e,fun b hb=>(f3 b hb).1,w0⟩
  rintro n s' ⟨i,ys,τ0,H',hτ,I',st',fr',w'⟩
  obtain ⟨hD,step⟩:=turn i n ys H' w'
  rcases step with ⟨stop,q⟩|⟨go,N,hN,step⟩
  ·refine thn (T.done X' rfl rfl rfl hc i [] s' _ H' _ I' (fx fr') st' stop) fun r s5 ⟨hr,I5⟩=>?_
   subst hr
   obtain ⟨m5,hn5,_⟩:=I5.loc
   refine hRR _ C s5 H' m5 ?_ hn5 I5.free hle q
   refine I3.call' (ch:=fp) I5.os I5.base I5.hok I5.bare fun b hb=>?_
   obtain ⟨_,z1,_,z3,z4,z5⟩:=f3 b hb
   exact ⟨z3,z1,z4,z5⟩
  ·refine thn (T.item X' rfl rfl rfl hc i [] s' _ H' _ I' (fx fr') st' go) fun r s5 ⟨u,hr,h5⟩=>?_
   subst hr
   have h6:wpAny (model X.prog X.w) X.A (letOwnedTupleGo tg (.ref it) u >>= fun _=>assign tg X'.env u) (fun _ s7=>∃ (σ7:L2.St) (H7:Hp) (s6:Shared),Inv X' ([] ++ z9l fp s6.heap) σ7 H7 s7∧tn (i+1) s6.heap∧(∃ τ':L2.St,τ'.length=xs.length∧σ7=τ' ++ σ)∧tc σ7 H7 fun b H5=>if b=true then te σ7 H5 fun y H6=>H6 s2.heap.objs.size=some (.lst ys)∧ys.length < sizeLine∧N (ys ++ [y]) (upd H6 s2.heap.objs.size (.lst (ys ++ [y]))) else N ys H5)
     (notedBy (model X.prog X.w) X.A (compEnvC sc (z5r sc.names X.env.cells []) C X.env) fun e s'=>RR (.ref s2.heap.objs.size) C (.error e) s') s5:=by
    refine wpAny_bind (thn h5 fun _ s6 ⟨v,H6,I6,r6,y6,st6,fr6⟩=>?_)
    have I6':=I6.pinned (fx fr6) (T.obj _ _ st6)
    refine wpAny_mono (hg pins fp _ s3 C _ s6 _ H6 v u _ I6' r6 (step v H6 y6 τ0 hτ)) (fun _ s7 ⟨σ7,H7,I7,q7⟩=>?_) fun _ _ z=>z.elim
    exact ⟨σ7,H7,s6,I7,st6,q7⟩
   refine wpAny_mono h6 (fun _ s7 ⟨σ7,H7,s6,I7,st6,⟨τ',hτ',eσ⟩,q7⟩=>?_) fun _ _ z=>z
   subst eσ
   have again:∀ {σ8:L2.St}{H7:Hp}{s8:Shared},Inv X' ([] ++ z9l fp s6.heap) σ8 H7 s8→tn (i+1) s8.heap∧∀ b∈fp,H7 b=none:=fun {σ8 H7 s8} I8=>by
    refine ⟨T.keep _ _ _ st6 fun b hb o e=>(I8.pin (b,o) (List.mem_append_right _ (List.mem_append_right _ (z5q hb e)))).1,fun b hb=>?_⟩
    obtain ⟨o,e,d⟩:=T.obj _ _ st6 b hb
    exact (I8.pin (b,o) (List.mem_append_right _ (List.mem_append_right _ (z5q hb e)))).2.1
   refine wpAny_mono (ht pins fp _ s3 C _ s7 _ H7 _ I7 q7) (fun ok s8 ⟨H8,I8,q8⟩=>?_) fun _ _ z=>z.elim
   cases ok with
   |false =>
    rw [if_neg Bool.false_ne_true] at q8 ⊢
    obtain ⟨m',hm,w8⟩:=hN _ _ q8
    obtain ⟨t8,n8⟩:=again I8
    exact ⟨m',hm,i+1,ys,τ',H8,hτ',I8.unpinned,t8,n8,w8⟩
   |true =>
    rw [if_pos rfl] at q8 ⊢
    refine wpAny_mono (he pins fp _ s3 C _ s8 _ H8 _ I8 q8) (fun y s9 ⟨vy,H9,I9,r9,hD9,hz,q9⟩=>?_) fun _ _ z=>z.elim
    refine wpAny_mono (z1v (X:=X') _ s9 _ H9 (.ref s2.heap.objs.size) [vy] (.ref s2.heap.objs.size) [y] (fun _ H'=>H' = upd H9 s2.heap.objs.size (.lst (ys ++ [vy]))) I9 rfl (.cons r9 .nil) ⟨_,ys,vy,rfl,rfl,hD9,hz,rfl⟩) (fun _ s10 ⟨_,H10,I10,_,e10⟩=>?_) fun _ _ z=>z.elim
    subst e10
    obtain ⟨t10,n10⟩:=again I10
    obtain ⟨m',hm,w9⟩:=hN _ _ q9
    exact ⟨m',hm,i+1,ys ++ [vy],τ',_,hτ',I10.unpinned,t10,n10,w9⟩
 exact codeAny_compStart_list loop (T.self _ 0 _ _ _ (T.keep _ _ _ st3 fun b _ o e=>old b o e) loop)
theorem z7s {elt iter tg:Expr}(xs:List Str) {pos:Pos}{ifs:List Expr}{sc:Scope}(M:List Str) {wi:TI}{g:TG}{tc:TT}{te:TE}(hc:X.calm=true) (hg:∀ pins ex H₀ s₀ C,PG (z2w X sc (xs ++ M) pins ex H₀ s₀ C) tg g) (S:CScopeG X.env.scope X.N xs sc M) (hi:PI X tg iter wi)
  (ht:∀ pins ex H₀ s₀ C,PF (z2w X sc (xs ++ M) pins ex H₀ s₀ C) ifs tc) (he:∀ pins ex H₀ s₀ C,PE (z2w X sc (xs ++ M) pins ex H₀ s₀ C) elt te)
  (hs:∀ v,foldedSetIterable iter X.env v=pure v:=by intro _;rfl):PE X (.ListComp elt [⟨tg,iter,ifs,0⟩] sc pos) (y6n xs.length wi g tc te):=by
 intro pins s σ H Q I h
 rw [eval_ListComp]
 refine wpAny_comprehension_free (use:=none) rfl hs (z6h fun y hy hf=>I.ok.has y.1 (S.free y hy hf)) S.kind S.names (thn (hi pins s σ H _ I h) fun v s1 h1=>thn h1 fun itv s2 h2=>?_)
 obtain ⟨it,fp,tn,J,H2,rfl,I2,T,st2,f2,hw⟩:=h2
 refine y3m (RR:=fun acc C=>compPost (model X.prog X.w) X.A X.xe none (EP X pins σ Q) acc C) hc hg S ht he I2 T st2 f2 hw fun D C s' H' m I' hn hC hle q=>?_
 refine ⟨m,hn,fun h' hs'=>⟨.ref D,H',?_,rfl,q⟩⟩
 have fC:=I2.fpOk (H':=H') hle hC
 exact I'.turned (t':=s'.toks) (fun b o hb e=>(hs'.2 b hb).trans e) hC fC.2.1 fC.2.2.2.1 fC.2.2.2.2.1 fC.2.2.2.2.2
theorem y6p {elt iter tg:Expr}{y:Str}(xs:List Str) {py pos spos:Pos}{ifs:List Expr}{sc:Scope}{j:Nat}(M:List Str) {wi:TI}{g:TG}{tc:TT}{te:TE}(hN:X.N.Nodup) (hj:X.N[j]? = some y) (hy:X.env.scope.names.lookup y=some .local) (hc:X.calm=true) (hg:∀ pins ex H₀ s₀ C,PG (z2w X sc (xs ++ M) pins ex H₀ s₀ C) tg g) (S:CScopeG X.env.scope X.N xs sc M) (hi:PI X tg iter wi)
  (ht:∀ pins ex H₀ s₀ C,PF (z2w X sc (xs ++ M) pins ex H₀ s₀ C) ifs tc) (he:∀ pins ex H₀ s₀ C,PE (z2w X sc (xs ++ M) pins ex H₀ s₀ C) elt te)
  (hsw:swapsWith (.ListComp elt [⟨tg,iter,ifs,0⟩] sc pos) (some (.Name y py)) spos.line X.env=pure true:=by rfl)
  (hs:∀ v,foldedSetIterable iter X.env v=pure v:=by intro _;rfl):PS X (.Assign [.Name y py] (.ListComp elt [⟨tg,iter,ifs,0⟩] sc pos) spos) (tAsg (y6n xs.length wi g tc te) (z7n j)):=by
 intro pins s σ H D I h
 rw [exec_Assign_Name_used _ _ _ _ hsw]
 refine wpAny_bind (wpAny_standAt (wpAny_bind ?_))
 show wpAny _ _ (do let _ ← comprehension (.ListComp elt [⟨tg,iter,ifs,0⟩] sc pos) sc X.env _ (newList []) false (eval iter X.env) (some (assign (.Name y py) X.env))) _ _ s
 refine wpAny_bind (wpAny_mono (wpAny_comprehension_free (use:=some (assign (.Name y py) X.env)) (Q:=fun _ s'=>SP X pins D .next s') rfl hs (z6h fun y hy hf=>I.ok.has y.1 (S.free y hy hf)) S.kind S.names
  (thn (hi pins s σ H _ I h) fun v s1 h1=>thn h1 fun itv s2 h2=>?_)) (fun _ s' hq=>wpAny_pure (wpAny_pure hq)) fun _ _ e=>e)
 obtain ⟨it,fp,tn,J,H2,rfl,I2,T,st2,f2,hw⟩:=h2
 refine y3m (Q:=fun x H1=>z7n j x σ H1 D.nx) (RR:=fun acc C=>compPost (model X.prog X.w) X.A X.xe (some (assign (.Name y py) X.env)) (fun _ s'=>SP X pins D .next s') acc C) hc hg S ht he I2 T st2 f2 hw fun D' C s' H' m I' hn hC hle q=>?_
 have fC:=I2.fpOk (H':=H') hle hC
 show wpAny _ _ (assign (.Name y py) X.env (.ref D')) _ _ s'
 refine wpAny_assign_Name (y2i (v:=.ref D') I' hN hj (.inl hy) rfl (fun s3 I3 ⟨a,sb,ha⟩=>?_) (.inr hy))
 have haC:C≠a:=by
  rcases ha with rfl|ha
  ·exact fC.2.1
  ·exact fun z=>fC.2.2.2.2.1 y a ha z.symm
 refine ⟨m,hn.sameBut sb haC,fun h' hs'=>⟨_,H',?_,q⟩⟩
 exact I3.turned (t':=s3.toks) (fun b o hb e=>(hs'.2 b hb).trans e) hC fC.2.1 fC.2.2.2.1 fC.2.2.2.2.1 fC.2.2.2.2.2
end
end L2
namespace L2
open PySem PySem.Spec PyProof.Rows
section
variable {X:Cx}
theorem sl_str:SlR X (fun x lo hi H Q=>∃ z,x = .str z∧z.length≤sizeLine∧Q (.str (Txt.slice z lo hi)) H):=by
 intro pins s σ H x v vl vu lo hi sl Q I rx hs pl pu h
 obtain ⟨z,rfl,hz,q⟩:=h
 obtain ⟨t,rfl⟩:=rx
 refine ⟨"str",_,F.slot_str_getitem.lookup,typeIs_str _ _ _,?_⟩
 have key:∀ (l u:Option (Int × Tok)),vl=partValue l→vu=partValue u→lo=l.map (·.1)→hi=u.map (·.1)→wpAny (model X.prog X.w) X.A (getItem (.str z t) (.ref sl)) (EP X pins σ Q) X.xe s:=by
  intro l u e1 e2 e3 e4
  subst e1 e2 e3 e4
  refine wpAny_getItem_str_slice (l:=l) (u:=u) (st:=none) hs rfl (post_val_or_str ⟨Nat.le_trans (Txt.slice_le z _ _) hz,fun t' k=>?_⟩)
  exact ⟨.str _,H,I.tok k,⟨t',rfl⟩,q⟩
 cases pl with
 |none =>
  cases pu with
  |none=>exact key none none rfl rfl rfl rfl
  |int j u=>exact key none (some (j,u)) rfl rfl rfl rfl
 |int i u' =>
  cases pu with
  |none=>exact key (some (i,u')) none rfl rfl rfl rfl
  |int j u=>exact key (some (i,u')) (some (j,u)) rfl rfl rfl rfl
theorem z9x:∀ {ts:List Str}{us:List Value},Vals (ts.map V.str) us→∃ l:List (Str × Tok),us=strValues l∧l.map (·.1)=ts
 | [],_,.nil=>⟨[],rfl,rfl⟩
 |t::ts,_,.cons r rs=>by
  obtain ⟨k,rfl⟩:=r
  obtain ⟨l,rfl,e⟩:=z9x rs
  exact ⟨(t,k)::l,rfl,by simp [e]⟩
theorem mt_join:MtR X "str.join" (fun x vs H Q=>∃ sep p,x = .str sep∧vs=[.ref p]∧∃ ts:List Str,H p=some (.lst (ts.map V.str))∧JoinOk sep ts=true∧Q (.str (Txt.join sep ts)) H):=by
 intro pins s σ H x xs v us Q I rx rs h
 obtain ⟨sep,p,rfl,rfl,ts,hp,ok,q⟩:=h
 obtain ⟨t,rfl⟩:=rx
 obtain ⟨u,rfl,ru⟩:=z9d rs
 cases ru
 obtain ⟨its,rv,pl,hz⟩:=I.list (SqL.of hp)
 obtain ⟨l,rfl,el⟩:=z9x rv
 exact SC.join pl.isList el ok fun t' k=>⟨.str _,H,I.tok k,⟨t',rfl⟩,q⟩
theorem y5f:typeLookup (.type "list") "keys" = pure none:=by rw [typeLookup_type,builtinLookup_eq_fast];kernel_rfl
theorem getAttr?_miss_list {prog:Program}{w:World}{A:Around}{E:Value→Shared→Prop}{s:Shared}{a:Addr}{xs:Array Value}{k:Nat}{Q:Option Value→Shared→Prop}
  (hx:s.heap.get? a=some { cls:=.type "list",data:=.seq xs k }) (hA:A.handled=none)
  (h:∀ h' tk,(∀ b o,s.heap.get? b=some o→h'.get? b=some o)→Q none { s with heap:=h',toks:=tk }) :
  wpAny (model prog w) A (getAttr? (.ref a) "keys") Q E s:=by
 obtain ⟨hp,g,d,tk,os⟩:=s
 have hT:∀ tk',(⟨hp,g,d,tk',os⟩:Shared).TypeIs (.ref a) "list":=fun _=>⟨_,hx,rfl⟩
 have f1:=sub_AttributeError
 have f3:=F.slot_list_getattribute.lookup
 have f4:=F.slot_list_getattribute.bind (.ref a)
 have f5:=am_list_getattr_none
 unfold getAttr? getAttrBy? getAttrBy
 repeat (any_goals (first|assumption|exact hT _|((with_reducible show wpAny _ _ (call (Value.builtin "list.__getattribute__") _ _) _ _ _);refine call_meets F.slot_list_getattribute (hT _) am_entry_list_getattribute (F.args_list_getattribute_2 _ _) (meets_getattribute_miss_list a xs k #[] "keys" _ y5f (by decide +kernel) (by decide +kernel)) ⟨hx,hA,fun h' tk' e hx'=>?_⟩)|wp_step))
 obtain ⟨t',u',he⟩:=hx'.there
 show wpAny _ _ (getattributeRaised _ _ _ _ _ _ _) _ _ _
 unfold getattributeRaised
 repeat (any_goals (first|assumption|wp_step))
 exact h _ _ hx'.keeps
theorem y0i:entryFor table "dict.update.loop" = some Builtin.«dict.update.loop»:=entryFor_of_tree (by kernel_rfl)
theorem z5h:plainId "dict.update.loop" = true:=by decide +kernel
theorem y2g {prog:Program}{w:World}{A:Around}{E:Value→Shared→Prop}{s:Shared}{b:Addr}{its:Array Value}{Q:List Value→Shared→Prop}(h:IsTup s.heap b its) (q:Q its.toList s):wpAny (model prog w) A (Builtin.Dict.pairItems (.ref b)) Q E s:=by
 obtain ⟨o,ho,hc,n,hd⟩:=h
 unfold Builtin.Dict.pairItems
 refine wpAny_bind (wpAny_typeOf (show s.TypeIs (.ref b) "tuple" from ⟨o,ho,hc⟩) ?_)
 have hT:s.TypeIs (.ref b) "tuple":=⟨o,ho,hc⟩
 obtain ⟨hp,g,d,tk,os⟩:=s
 unfold seqItems?
 have hd':o.data = .seq its n:=hd
 obtain ⟨c,dct,dat,sl⟩:=o
 subst hd'
 repeat (any_goals (first|assumption|wp_step))
end
end L2
namespace L2
open PySem PySem.Spec PyProof.Rows
def PairAt (h:Heap) (u:Value) (k:Key) (r:Value):Prop:=∃ b ku,u = .ref b∧IsTup h b #[ku,r]∧RelV (kV k) ku
section
variable {prog:Program}{w:World}{A:Around}{R:Result→Shared→Prop}
theorem dupd_loop {it l S:Addr}{items:Array Value}(hh:A.in1.handled=none) (hne:l≠it) (hSi:S≠it) (hSl:S≠l) (ps:List (Key × Value)) (hps:ps.length=items.size) (hps':ps.length≤sizeLine) :
  ∀ (k i:Nat) (s:Shared) (vs:List (Key × Value)),items.size - i=k→i≤items.size→s.heap.IsListIter it l i→s.heap.IsList l items→s.heap.DictOf (z1t prog w) S vs→vs.length≤i →
  (∀ (j:Nat) (kv:Key × Value) (u:Value),ps[j]? = some kv→items[j]? = some u→∃ b,u = .ref b∧b≠S∧b≠it∧PairAt s.heap u kv.1 kv.2) →
  (∀ h' tk,(∀ b o,b≠it→b≠S→s.heap.get? b=some o→h'.get? b=some o)→h'.DictOf (z1t prog w) S (merged vs (ps.drop i))→R (.ok (.ret .none)) { s with heap:=h',toks:=tk }) →
  codeAny (model prog w) A (.builtin "dict.update.loop" ⟨[.ref S,.ref it,rawInt i,.none],[]⟩) R s:=by
 intro k
 have W:=(Walks.list (prog:=prog) (w:=w) (A:=A.in1) hh it l hne items)
 induction k with
 |zero =>
  intro i s vs hk hi h1 h2 hd hvl hp hR
  have hin:i=items.size:=by omega
  subst hin
  refine codeAny_builtin y0i ?_
  rw [Around.under_plainId z5h _]
  show wpAny _ A.in1 (pyNext (.ref it) >>= _) _ _ s
  refine wpAny_bind (W.done s _ _ ⟨h1,h2⟩ fun h' tk' hm=>?_)
  show wpAny _ _ (Builtin.Dict.addKeywords S [] >>= _) _ _ _
  refine wpAny_bind (wpAny_pure (wpAny_pure (hR h' tk' (fun b o hb hb' e=>hm b o (by simpa using hb) e) ?_)))
  rw [List.drop_of_length_le (by omega)]
  obtain ⟨o,es,ep,g,rest⟩:=hd
  exact ⟨o,es,ep,hm S o (by simpa using hSi) g,rest⟩
 |succ k ih =>
  intro i s vs hk hi h1 h2 hd hvl hp hR
  have hlt:i < items.size:=by omega
  have hlt':i < ps.length:=by omega
  refine codeAny_builtin y0i ?_
  rw [Around.under_plainId z5h _]
  show wpAny _ A.in1 (pyNext (.ref it) >>= _) _ _ s
  refine wpAny_bind (W.item i s _ _ hlt ⟨h1,h2⟩ fun v h' tk' hv st' hm=>?_)
  obtain ⟨b,eb,nbS,nbi,pa⟩:=hp i ps[i] v (List.getElem?_eq_getElem hlt') hv
  obtain ⟨b',ku,e2,ht,rk⟩:=pa
  rw [eb] at e2;cases e2
  subst eb
  have kp:∀ c o,c≠it→s.heap.get? c=some o→h'.get? c=some o:=fun c o hc e=>hm c o (by simpa using hc) e
  have ht':IsTup h' b #[ku,ps[i].2]:=by obtain ⟨o,ho,r⟩:=ht;exact ⟨o,kp b o nbi ho,r⟩
  have hd':h'.DictOf (z1t prog w) S vs:=by
   obtain ⟨o,es,ep,g,rest⟩:=hd
   exact ⟨o,es,ep,kp S o hSi g,rest⟩
  show wpAny _ A.in1 (holding [Value.ref b] _ >>= _) _ _ _
  refine wpAny_bind (wpAny_holding ?_)
  refine wpAny_bind ?_
  refine wpAny_tryCatch (y2g (s:={ s with heap:=h',toks:=tk' }) ht' ?_)
  show wpAny _ A.in1 (holding [ku,ps[i].2] (dictSet S ku ps[i].2)) _ _ _
  refine wpAny_holding (wpAny_dictSet_pairs (y7c rk) hd' (fun h2' hd2 hs2=>?_) (by omega))
  show wpAny _ A.in1 (again _) _ _ _
  refine wpAny_pure ⟨plainId_quiet z5h _,?_⟩
  have kp2:∀ c o,c≠it→c≠S→s.heap.get? c=some o→h2'.get? c=some o:=fun c o hc hc' e=>(hs2.2 c hc').trans (kp c o hc e)
  have ec:((i:Int)+1)=((i+1:Nat):Int):=by omega
  show codeAny _ _ (.builtin "dict.update.loop" ⟨[.ref S,.ref it,rawInt ((i:Int)+1),.none],[]⟩) _ _
  rw [ec]
  refine ih (i+1) _ (stored vs ps[i].1 ps[i].2) (by omega) hlt (st'.1.at fun o e=>(hs2.2 it (Ne.symm hSi)).trans e) (st'.2.at fun o e=>(hs2.2 l (Ne.symm hSl)).trans e) hd2 ?_ ?_ ?_
  ·have:(stored vs ps[i].1 ps[i].2).length≤vs.length+1:=by
    unfold stored
    split
    ·simp
    ·simp
   omega
  ·intro j kv u ej eu
   obtain ⟨c,e1,n1,n2,c',ku',e2,t2,r2⟩:=hp j kv u ej eu
   rw [e1] at e2;cases e2
   refine ⟨c,e1,n1,n2,c,ku',e1,?_,r2⟩
   obtain ⟨o,ho,r⟩:=t2
   exact ⟨o,kp2 c o n2 n1 ho,r⟩
  ·intro h3 tk3 k3 d3
   refine hR h3 tk3 (fun c o hc hc' e=>k3 c o hc hc' (kp2 c o hc hc' e)) ?_
   have e4:ps.drop i=ps[i]::ps.drop (i+1):=List.drop_eq_getElem_cons hlt'
   rw [e4]
   exact d3
end
section
variable {X:Cx}
theorem KVs_of:∀ {ps:List (Key × V)}{ys:List V}{us:List Value}{H:Hp}{h:Heap},(∀ b o,H b=some o→ObjOk X.prog X.w H h b o)→Vals ys us→ps.length=ys.length→(∀ (i:Nat) y kv,ys[i]? = some y→ps[i]? = some kv→∃ b,y = .ref b∧H b=some (.tup [kV kv.1,kv.2])) →
  ∃ qs:List (Key × Value),KV ps qs∧qs.length=ps.length∧∀ (j:Nat) kv u,qs[j]? = some kv→us[j]? = some u→∃ b,u = .ref b∧(∃ o,H b=some o)∧PairAt h u kv.1 kv.2
 | [],[],_,H,h,hok,.nil,_,_=>⟨[],.nil,rfl,fun j kv u e=>by simp at e⟩
 | [],y::ys,_,H,h,hok,_,hl,_=>by simp at hl
 |p::ps,[],_,H,h,hok,_,hl,_=>by simp at hl
 |p::ps,y::ys,_,H,h,hok,.cons (b:=u) (l₂:=us) r rs,hl,hp=>by
  obtain ⟨qs,k1,k2,k3⟩:=KVs_of (ps:=ps) (ys:=ys) (us:=us) hok rs (by simpa using hl) fun i y kv e1 e2=>hp (i+1) y kv (by simpa using e1) (by simpa using e2)
  obtain ⟨b,rfl,hb⟩:=hp 0 y p rfl rfl
  cases r
  obtain ⟨_,its,rv,ht⟩:=hok b _ hb
  obtain ⟨ku,u2,rfl,rk,ru⟩:=vals2 rv
  refine ⟨(p.1,u2)::qs,.cons ⟨rfl,ru⟩ k1,by simp [k2],fun j kv u e1 e2=>?_⟩
  cases j with
  |zero =>
   simp at e1 e2
   subst e1 e2
   exact ⟨b,rfl,⟨_,hb⟩,b,ku,rfl,ht,rk⟩
  |succ j=>exact k3 j kv u (by simpa using e1) (by simpa using e2)
theorem z2a (hc:X.calm=true):z6d X (.type "dict") (fun xs H Q=>∃ p ys,xs=[.ref p]∧H p=some (.lst ys)∧∃ ps:List (Key × V),ps.length=ys.length∧(∀ (i:Nat) y kv,ys[i]? = some y→ps[i]? = some kv→∃ b,y = .ref b∧H b=some (.tup [kV kv.1,kv.2])) ∧
  ∀ l,H l=none→Q (.ref l) (upd H l (.dK (z2n [] ps)))):=by
 intro pins s σ H xs us Q I r h
 obtain ⟨p,ys,rfl,hp,ps,hl,hpair,q⟩:=h
 obtain ⟨u,rfl,ru⟩:=z9d r
 cases ru
 obtain ⟨hz,its,nn,rv,el⟩:=I.hok p _ hp
 have hlen:=rv.length
 obtain ⟨qs,kv1,kv2,kv3⟩:=KVs_of (X:=X) I.hok rv hl hpair
 have lp:p < s.heap.objs.size:=Heap.lt_size el
 refine callType_codes (Q₁:=fun obj s₁=>obj = .ref s.heap.objs.size∧s₁ = { s with heap:=s.heap.push { cls:=.type "dict",data:=.dict #[] } }) F.kt_called_dict (F.kt_typeCall_dict_1 _) F.entry_dict_init (kt_code_dict_new _ ⟨rfl,rfl⟩) ?_
 rintro obj s₁ ⟨rfl,rfl⟩
 have hnew:(s.heap.push { cls:=.type "dict",data:=.dict #[] }).DictOf (z1t X.prog X.w) s.heap.objs.size []:=Heap.DictOf.new s.heap
 refine ⟨hnew.typeIs,F.args_dict_init_2 _ _,?_⟩
 unfold Builtin.«dict.__init__»
 refine wpAny_bind ?_
 unfold Builtin.Dict.selfAndRest
 refine wpAny_bind (wpAny_notOrdered_dict hnew.typeIs ?_)
 show wpAny _ _ (pure (s.heap.objs.size,[Value.ref p])) _ _ _
 refine wpAny_pure ?_
 show wpAny _ _ (Builtin.Dict.updateFrom "dict.__init__" s.heap.objs.size (.ref p) [] .none) _ _ _
 unfold Builtin.Dict.updateFrom
 have el1:(s.heap.push { cls:=.type "dict",data:=.dict #[] }).get? p=some { cls:=.type "list",data:=.seq its.toArray nn }:=Heap.get?_push_of_some _ el
 refine wpAny_bind (wpAny_typeOf (show Shared.TypeIs _ (.ref p) "list" from ⟨_,el1,rfl⟩) ?_)
 rw [if_pos (by decide)]
 refine wpAny_bind (getAttr?_miss_list el1 (I.ok.hd hc) fun h2 tk2 k2=>?_)
 show wpAny _ _ (rule _ >>= fun _=>pyIter (.ref p) >>= fun it=>again (Code.builtin "dict.update.loop" { pos:=[Value.ref s.heap.objs.size,it,rawInt 0,Value.none] })) _ _ _
 refine wpAny_bind (wpAny_rule ?_)
 have up1:∀ b o,s.heap.get? b=some o→h2.get? b=some o:=fun b o e=>k2 b o (Heap.get?_push_of_some _ e)
 have el2:h2.get? p=some { cls:=.type "list",data:=.seq its.toArray nn }:=up1 _ _ el
 have isl2:h2.IsList p its.toArray:=⟨_,el2,rfl,_,rfl⟩
 refine wpAny_bind (wpAny_pyIter_list (s:={ s with heap:=h2,toks:=tk2 }) isl2 ?_)
 have hS2:∃ o,h2.get? s.heap.objs.size=some o:=⟨_,k2 _ _ (Heap.get?_push_size _ rfl)⟩
 have ltS:s.heap.objs.size < h2.objs.size:=let ⟨_,e⟩:=hS2;Heap.lt_size e
 have ltp:p < h2.objs.size:=Heap.lt_size el2
 have hd2:h2.DictOf (z1t X.prog X.w) s.heap.objs.size []:=by
  obtain ⟨o,es,ep,g,rest⟩:=hnew
  exact ⟨o,es,ep,k2 _ _ g,rest⟩
 have hd3:(h2.push { cls:=.type "list_iterator",data:=.fields #[.ref p,.int 0 0] }).DictOf (z1t X.prog X.w) s.heap.objs.size []:=hd2.push _
 refine wpAny_pure ⟨plainId_quiet z5h _,?_⟩
 refine dupd_loop (A:=X.A.in1) (prog:=X.prog) (w:=X.w) (it:=h2.objs.size) (l:=p) (S:=s.heap.objs.size) (items:=its.toArray) (I.ok.hd hc) (Nat.ne_of_lt ltp) (Nat.ne_of_lt ltS) (Nat.ne_of_gt lp) qs (by simp [kv2,hl,hlen]) (by rw [kv2,hl];exact hz) _ 0 { s with heap:=h2.push { cls:=.type "list_iterator",data:=.fields #[.ref p,.int 0 0] },toks:=tk2 } [] rfl (Nat.zero_le _) ⟨_,Heap.get?_push_size _ rfl,rfl,rfl⟩ (isl2.push _) hd3 (Nat.le_refl _) ?_ ?_
 ·intro j kv u e1 e2
  obtain ⟨b,rfl,⟨o,hb⟩,b',ku,e3,t3,r3⟩:=kv3 j kv u e1 (by simpa using e2)
  cases e3
  obtain ⟨o',ho',rr⟩:=t3
  have lb:b < s.heap.objs.size:=Heap.lt_size ho'
  exact ⟨b,rfl,Nat.ne_of_lt lb,Nat.ne_of_lt (Nat.lt_trans lb ltS),b,ku,rfl,⟨o',Heap.get?_push_of_some _ (up1 _ _ ho'),rr⟩,r3⟩
 ·intro h' tk k3 d3
  refine ⟨rfl,.ref s.heap.objs.size,upd H s.heap.objs.size (.dK (z2n [] ps)),I.laid (t':=tk) (fun b o e=>?_) (Nat.le_refl _) (dk_new ?_ (beq_eq_false_iff_ne.mpr (Ne.symm (Nat.ne_of_lt I.big))) (KV.merge kv1 .nil) d3),rfl,q _ I.fresh⟩
  ·have lb:b < s.heap.objs.size:=Heap.lt_size e
   exact k3 b o (Nat.ne_of_lt (Nat.lt_trans lb ltS)) (Nat.ne_of_lt lb) (Heap.get?_push_of_some _ (up1 b o e))
  ·have:∀ (ps kvs:List (Key × V)),(z2n kvs ps).length≤kvs.length+ps.length:=by
    intro ps
    induction ps with
    |nil=>intro kvs;exact Nat.le_refl _
    |cons a r ih =>
     intro kvs
     have h1:=ih (putK kvs a.1 a.2)
     have h2:=z6a kvs a.1 a.2
     show (z2n (putK kvs a.1 a.2) r).length≤_
     simp only [List.length_cons]
     omega
   have:=this ps []
   simp at this
   omega
end
end L2
namespace L2
open PySem PySem.Spec PyProof.Rows
def Itd (a:Addr) (ob:Obj) (kvs:List (Key × V)):It:=⟨fun i H=>H a=some (.frz ob (.dK kvs))∧i < kvs.length,fun i H x H'=>H' = H∧∃ kv,kvs[i]? = some kv∧x=kV kv.1,fun i H=>H a=some (.frz ob (.dK kvs))∧i=kvs.length⟩
theorem kV_of {k:Key}{u:Value}(h:y5k k u=true):RelV (kV k) u:=by
 rcases z1x h with ⟨i,t,rfl,rfl⟩|⟨x,t,rfl,rfl⟩
 ·exact ⟨t,rfl⟩
 ·exact ⟨t,rfl⟩
theorem y3o {α β:Type}{R:α→β→Prop}:∀ {xs:List α}{ys:List β}{i:Nat}{x:α},Paired R xs ys→xs[i]? = some x→∃ y,ys[i]? = some y∧R x y
 |_,_,_,_,.nil,e=>by simp at e
 |_,_,0,_,.cons r _,e=>by simp at e;subst e;exact ⟨_,rfl,r⟩
 |_,_,i+1,x,.cons _ t,e=>by
  obtain ⟨u,h1,h2⟩:=y3o (i:=i) (x:=x) t (by simpa using e)
  exact ⟨u,by simpa using h1,h2⟩
theorem y3g {X:Cx}{pins:List (Addr × Obj)}{σ:St}{H:Hp}{s:Shared}{a:Addr}{ob:Obj}{kvs:List (Key × V)}{es:Array DictEntry}{ep:Nat}(I:Inv X pins σ H s) (e:H a=some (.frz ob (.dK kvs))) (ed:ob.data = .dict es ep):∃ vs,KV kvs vs∧vs.length=kvs.length∧s.heap.DictAt (z1t X.prog X.w) a vs ep:=by
 obtain ⟨g,z,hd,vs,rel,o',es',ep',g',x1,x2,x3⟩:=(show ObjOk X.prog X.w H s.heap a (.frz ob (.dK kvs)) from I.hok a _ e)
 rw [g] at g'
 cases g'
 rw [ed] at x2
 cases x2
 exact ⟨vs,rel,rel.length.symm,ob,es,g,x1,ed,x3⟩
theorem turn_dict {P:Program}{w:World}{K:PySem.W.Frag}{tg:Expr}(a it:Addr) (ob:Obj) (kvs:List (Key × V)):Turn P w K tg (Itd a ob kvs) [it] it (fun i h=>∃ es ep,ob.data = .dict es ep∧h.IsKeyIter it a i kvs.length ep) where
 mem:=by simp
 obj:=fun i h st b hb=>by
  have e:b=it:=by simpa using hb
  subst e
  obtain ⟨es,ep,_,o,e,c,d⟩:=st
  exact ⟨o,e,fun v z=>by rw [d] at z;cases z⟩
 keep:=fun i h h' st k=>by
  obtain ⟨es,ep,ed,o,e,c,d⟩:=st
  exact ⟨es,ep,ed,o,k it (by simp) o e,c,d⟩
 item:=by
  intro X hP hw hK hc i pins s σ H E I hf st hg
  subst hP hw hK
  obtain ⟨es,ep,ed,st⟩:=st
  obtain ⟨hq,hi⟩:=hg
  obtain ⟨vs,rel,hl,da⟩:=y3g I hq ed
  obtain ⟨f0,f1,f2,f3,f4,f5⟩:=hf it (by simp)
  rw [← hl] at st hi
  have e1:vs[i]? = some (vs[i].1,vs[i].2):=List.getElem?_eq_getElem hi
  refine wpAny_pyNext_dict_item st da e1 fun key h' hk st' sb=>?_
  have I1:Inv X pins σ H { s with heap:=h' }:=I.turned (t':=s.toks) (fun b o hb e=>(sb.2 b hb).trans e) f0 f1 f3 f4 f5
  obtain ⟨o,e,c,d⟩:=id st'
  rw [hl] at st'
  have hi':i < kvs.length:=by omega
  have e2:kvs[i]? = some kvs[i]:=List.getElem?_eq_getElem hi'
  have ek:kvs[i].1=vs[i].1:=by
   obtain ⟨q,g1,g2,_⟩:=y3o rel e2
   rw [e1] at g1;cases g1
   exact g2
  exact ⟨key,rfl,go_of (s:={ s with heap:=h' }) e c d (by decide) ⟨kV kvs[i].1,H,I1,by rw [ek];exact kV_of hk,⟨rfl,_,e2,rfl⟩,⟨es,ep,ed,st'⟩,fun b hb=>(hf b hb).1⟩⟩
 done:=by
  intro X hP hw hK hc i pins s σ H E I hf st hg
  subst hP hw hK
  obtain ⟨es,ep,ed,st⟩:=st
  obtain ⟨hq,hi⟩:=hg
  obtain ⟨vs,rel,hl,da⟩:=y3g I hq ed
  obtain ⟨f0,f1,f2,f3,f4,f5⟩:=hf it (by simp)
  rw [← hl] at st hi
  exact wpAny_pyNext_dict_end (I.ok.hd hc) st da (by rw [hi];simp) fun h' eb=>⟨rfl,I.turned (t':=s.toks) (fun b o hb e=>eb b o hb e) f0 f1 f3 f4 f5⟩
 self:=fun A i s Q E st h=>by
  obtain ⟨es,ep,ed,st⟩:=st
  exact wpAny_pyIter_keyiter st h
def iDict (tl:TE):TI:=fun σ H R=>tl σ H fun x H1=>∃ a,x = .ref a∧∃ kvs,H1 a=some (.dK kvs)∧∀ ob,R (Itd a ob kvs) (upd H1 a (.frz ob (.dK kvs)))
section
variable {X:Cx}
theorem pi_dict {tg l:Expr}{tl:TE}(hl:PE X l tl):PI X tg l (iDict tl):=by
 intro pins s σ H R I h
 refine thn (hl pins s σ H _ I h) fun v s1 ⟨x,H1,I1,r1,q1⟩=>?_
 obtain ⟨a,rfl,kvs,hq,q⟩:=q1
 cases r1
 have ok:=I1.hok a _ hq
 obtain ⟨z,hd,vs,rel,ob,es,ep,g,x1,x2,x3⟩:=(show ObjOk X.prog X.w H1 s1.heap a (.dK kvs) from ok)
 have da:s1.heap.DictAt (z1t X.prog X.w) a vs ep:=⟨ob,es,g,x1,x2,x3⟩
 have I2:Inv X pins σ (upd H1 a (.frz ob (.dK kvs))) s1:=I1.write (x:=a) (e:=a) (o:=.frz ob (.dK kvs)) (t':=s1.toks) (h':=s1.heap) (by rw [hq];exact True.intro) (.inl rfl) (fun b u _ e=>e) ⟨_,g⟩ ⟨g,z,hd,vs,rel,ob,es,ep,g,x1,x2,x3⟩
 refine wpAny_pyIter_dict hd da ?_
 refine ⟨s1.heap.objs.size,[s1.heap.objs.size],_,_,_,rfl,I2.kept (t':=s1.toks) fun b o e=>Heap.get?_push_of_some _ e,turn_dict a _ ob kvs,⟨es,ep,x2,_,Heap.get?_push_size _ rfl,rfl,by rw [KV.length rel];rfl⟩,fun b hb=>?_,q ob⟩
 have e:b=s1.heap.objs.size:=by simpa using hb
 subst e
 exact I2.fpOk (Nat.le_refl _) I2.fresh
end
end L2
namespace L2
open PySem PySem.Spec PyProof.Rows PySem.SeqAt
section
variable {X:Cx}
def Itn (a:Addr):It :=
 ⟨fun i H=>∃ xs x,H a=some (.lst xs)∧xs[i]? = some x,
 fun i H v H'=>∃ t,v = .ref t∧H t=none∧∀ xs,H a=some (.lst xs)→∃ x,xs[i]? = some x∧H' = upd H t (.tup [.int (i:Int),x]),
 fun i H=>∃ xs,H a=some (.lst xs)∧xs[i]? = none⟩
theorem turn_enum {P:Program}{w:World}{K:PySem.W.Frag}{elts:List Expr}{x1:Nat}{pos:Pos}{l e it:Addr}(nd:e≠it) :
  Turn P w K (.Tuple elts x1 pos) (Itn l) [e,it] e (fun i h=>(∃ old,IsEnum h e it ((i:Nat):Int) old)∧h.IsListIter it l i) where
 mem:=by simp
 obj:=fun i h st b hb=>by
  obtain ⟨⟨old,h1⟩,⟨o4,e4,c4,d4⟩⟩:=st
  simp only [List.mem_cons,List.not_mem_nil,or_false] at hb
  rcases hb with rfl|rfl
  ·exact ⟨_,h1,fun v z=>by cases z⟩
  ·exact ⟨_,e4,fun v z=>by rw [d4] at z;cases z⟩
 keep:=fun i h h' ⟨⟨old,h1⟩,h4⟩ k=>⟨⟨old,k e (by simp) _ h1⟩,h4.at fun o q=>k it (by simp) o q⟩
 item:=by
  intro X hP hw hK hc i pins s σ H E I hf st hg
  subst hP hw hK
  obtain ⟨⟨old,h1⟩,h4⟩:=st
  obtain ⟨xs,x,ha,hx⟩:=hg
  obtain ⟨us,ru,pu,_⟩:=I.list (SqL.of ha)
  obtain ⟨ux,ex,rx⟩:=ru.get hx
  refine wpAny_pyNext_enum_item h1 h4 pu.isList (x:=ux) (by simpa using ex) nd fun h' a1 a3 a5 a6 a7=>?_
  have I1:Inv X pins σ (upd H s.heap.objs.size (.tup [.int (i:Int),x])) { s with heap:=h',toks:=s.toks+1 }:=I.turnsLaid (t':=s.toks+1) (ch:=[e,it]) (fun b u hb q=>a7 b u (fun z=>hb (by simp [z])) (fun z=>hb (by simp [z])) q)
   hf (Nat.le_refl _) (show ObjOk X.prog X.w _ h' _ (.tup [.int (i:Int),x]) from ⟨by show 2≤sizeLine;decide,[_,ux],.cons ⟨_,rfl⟩ (.cons rx .nil),⟨_,a5,rfl,_,rfl⟩⟩)
  have hfr:=I.fresh
  have old':∀ b∈[e,it],upd H s.heap.objs.size (.tup [.int (i:Int),x]) b=none:=fun b hb=>by
   rw [z3t]
   refine ⟨fun q=>?_,(hf b hb).1⟩
   have ob:∃ o,s.heap.get? b=some o:=by
    obtain ⟨o4,e4,_⟩:=h4
    simp only [List.mem_cons,List.not_mem_nil,or_false] at hb
    rcases hb with rfl|rfl
    ·exact ⟨_,h1⟩
    ·exact ⟨_,e4⟩
   obtain ⟨o,eo⟩:=ob
   exact absurd (Heap.lt_size eo) (by rw [q];exact Nat.lt_irrefl _)
  refine ⟨_,rfl,wpAny_letOwnedTupleGo_enum (s:={ s with heap:=h',toks:=s.toks+1 }) a1 fun h2' b1 b2=>?_⟩
  obtain ⟨_,f1,f2,f3,f4⟩:=hf e (by simp)
  have I2:Inv X pins σ (upd H s.heap.objs.size (.tup [.int (i:Int),x])) { s with heap:=h2',toks:=s.toks+1 }:=I1.turned (t':=s.toks+1) (fun b o hb q=>(b2.2 b hb).trans q) (old' e (by simp)) f1 f3 f4.1 f4.2
  refine ⟨.ref s.heap.objs.size,_,I2,rfl,⟨_,rfl,hfr,fun xs' q1=>?_⟩,⟨⟨ux,?_⟩,a3.at fun o q=>(b2.2 it (Ne.symm nd)).trans q⟩,old'⟩
  ·rw [ha] at q1;cases q1
   exact ⟨x,hx,rfl⟩
  ·have:((i+1:Nat):Int)=(i:Int)+1:=by push_cast;rfl
   rw [this];exact b1
 done:=by
  intro X hP hw hK hc i pins s σ H E I hf st hg
  subst hP hw hK
  obtain ⟨⟨old,h1⟩,h4⟩:=st
  obtain ⟨xs,ha,hend⟩:=hg
  obtain ⟨us,ru,pu,_⟩:=I.list (SqL.of ha)
  refine wpAny_pyNext_enum_end (I.ok.hd hc) h1 h4 pu.isList (by simpa using Vals.none_of ru hend) fun h' hk=>⟨rfl,I.turneds (t':=s.toks) (ch:=[e,it]) (fun b u hb q=>hk b u (fun z=>hb (by simp [z])) q) hf⟩
 self:=fun _ _ _ _ _ st h=>by
  obtain ⟨⟨old,h1⟩,_⟩:=st
  exact wpAny_pyIter_enum h1 h
def iEnum (ta:TA):TI:=fun σ H R=>ta σ H fun vs H1=>∃ a,vs=[.ref a]∧∃ xs,H1 a=some (.lst xs)∧R (Itn a) H1
theorem pi_enum {elts:List Expr}{x1:Nat}{pt:Pos}{e1:Expr}{ta:TA}{p pos:Pos}(hg:Gl X "enumerate") (hm:X.mg "enumerate" = none) (ha:PA X [e1] ta) (hs:starEach [e1] X.env=(false,eval e1 X.env)::starEach [] X.env:=by rfl) (hpl:(backTo pos (starEach [] X.env)).any (·.1)=false:=by rfl) :
  PI X (.Tuple elts x1 pt) (.Call (.Name "enumerate" p) [e1] [] pos) (iEnum ta):=by
 intro pins s σ H R I h
 refine wpAny_Call_Name_kw (z4t I hg hm PyProof.Rows.boot_enumerate ?_)
 refine PyProof.Rows.callWith_type1 (thn (ha pos pins s σ H _ I h) fun us s1 ⟨vs,H1,I1,r1,q1⟩=>?_) hs hpl
 obtain ⟨a,rfl,xs,hA,q⟩:=q1
 obtain ⟨u,rfl,ru⟩:=z9d r1
 cases ru
 obtain ⟨us,ru,pu,_⟩:=I1.list (SqL.of hA)
 refine call_enumerate_list pu.isList fun h' z1 z2 z3 z7=>wpAny_pyIter_enum z1 ?_
 refine ⟨s1.heap.objs.size+1,_,_,_,H1,rfl,I1.kept (t':=s1.toks) z7,turn_enum (by show (_:Nat)≠_;omega),⟨⟨_,z1⟩,z2⟩,fun c hc=>?_,q⟩
 have hge:s1.heap.objs.size≤c:=by
  simp only [List.mem_cons,List.not_mem_nil,or_false] at hc
  rcases hc with rfl|rfl
  ·exact Nat.le_add_right _ _
  ·exact Nat.le_refl _
 exact I1.fpOk hge (I1.hok.fresh hge)
end
end L2
namespace L2
open PySem PySem.Spec PyProof.Rows
def y7 (acc:List Str) (x:Str):List Str:=if x∈acc then acc else acc ++ [x]
def metS (val:Nat→Str) (i:Nat):List Str:=((List.range i).map val).foldl y7 []
theorem y4o (val:Nat→Str) (i:Nat):metS val (i+1)=y7 (metS val i) (val i):=by
 unfold metS
 rw [List.range_succ,List.map_append,List.foldl_append]
 rfl
theorem y2h (acc:List Str) (x:Str):(y7 acc x).length=if decide (x∈acc)=true then acc.length else acc.length+1:=by
 unfold y7
 by_cases h:x∈acc <;> simp [h]
theorem stepS_mem (acc:List Str) (x y:Str):decide (y∈y7 acc x)=(decide (y∈acc) || decide (y=x)):=by
 unfold y7
 by_cases h:x∈acc
 ·rw [if_pos h]
  by_cases e:y=x
  ·subst e;simp [h]
  ·simp [e]
 ·rw [if_neg h];simp
theorem y0o (val:Nat→Str):∀ i,(metS val i).length≤i
 |0=>Nat.le_refl _
 |i+1=>by
  have h0:=y0o val i
  rw [y4o,y2h]
  split <;> omega
section
variable {pg:Program}{w:World}{A:Around}{R:Result→Shared→Prop}{J:Addr}{fp wr:List Addr}{G:Array GenState→Array GenState→Prop}{n:Nat}{P:Nat→Value→Prop}{St:Nat→Shared→Prop}
theorem y0d {a:Addr}{M:Str→Bool}{c:Nat}{h1 h2:Heap}(k:∀ o,h1.get? a=some o→h2.get? a=some o) (z:h1.SetOf (strKind pg w) a M c):h2.SetOf (strKind pg w) a M c:=by
 obtain ⟨o,es,ep,tb,ho,more⟩:=z
 exact ⟨o,es,ep,tb,k _ ho,more⟩
theorem z9h (W:WalksS pg w A.in1 J fp wr G n P St) (a:Addr) (out:a∉fp) (val:Nat→Str) (txt:∀ i v,P i v→∃ t,v = .str (val i) t) (room:n+1 < scanBound) :
  ∀ (k i:Nat) (s:Shared),n - i=k→i≤n→St i s→s.heap.SetOf (strKind pg w) a (fun c=>decide (c∈metS val i)) (metS val i).length →
   (∀ s2,Moved (a::wr) G s s2→s2.heap.SetOf (strKind pg w) a (fun c=>decide (c∈metS val n)) (metS val n).length→R (.ok (.ret .none)) s2) →
   codeAny (model pg w) A (.builtin "set.update.loop" ⟨[.ref a,.ref J],[]⟩) R s:=by
 have outw:a∉wr:=fun z=>out (W.sub _ z)
 have wider:∀ b∈wr,b∈a::wr:=fun b q=>List.mem_cons_of_mem _ q
 intro k
 induction k with
 |zero =>
  intro i s ek le st z kR
  have e:i=n:=by omega
  subst e
  refine codeAny_builtin PyProof.Rows.F.entry_set_update_loop ?_
  rw [Around.under_plainId PyProof.Rows.F.plain_set_update_loop _]
  show wpAny _ A.in1 (pyNext (.ref J) >>= _) _ _ s
  refine wpAny_bind (W.done s _ _ st fun s2 mv=>?_)
  show wpAny _ A.in1 (ret Value.none) _ _ s2
  exact wpAny_pure (kR s2 (mv.mono wider) (y0d (fun o q=>mv.heap a o outw q) z))
 |succ k ih =>
  intro i s ek le st z kR
  have lt:i < n:=by omega
  refine codeAny_builtin PyProof.Rows.F.entry_set_update_loop ?_
  rw [Around.under_plainId PyProof.Rows.F.plain_set_update_loop _]
  show wpAny _ A.in1 (pyNext (.ref J) >>= _) _ _ s
  refine wpAny_bind (W.item i s _ _ lt st fun v s2 hP st2 mv=>?_)
  obtain ⟨t,rfl⟩:=txt i v hP
  have z2:=y0d (pg:=pg) (w:=w) (fun o q=>mv.heap a o outw q) z
  show wpAny _ A.in1 (holding [Value.str (val i) t] (setAdd a (.str (val i) t)) >>= _) _ _ s2
  refine wpAny_bind (wpAny_holding ?_)
  unfold setAdd
  refine wpAny_holding ?_
  refine wpAny_bind ((strKind pg w).pyHash (k:=val i) (strKind_is _ _ _ _) ?_)
  have few:=y0o val i
  refine wpAny_setAddHashed_of (knd:=strKind pg w) (s:={ s2 with toks:=s2.toks+1 }) (strKind_is _ _ _ _) rfl z2 (by omega) fun h2 sb z3=>?_
  have z4:h2.SetOf (strKind pg w) a (fun c=>decide (c∈metS val (i+1))) (metS val (i+1)).length :=
   PyProof.Rows.SetOf_congr z3 (fun c=>by rw [y4o,stepS_mem]) (by rw [y4o,y2h])
  refine wpAny_pure ⟨plainId_quiet PyProof.Rows.F.plain_set_update_loop _,ih (i+1) _ (by omega) lt (W.frame _ s2 _ _ st2 (Nat.le_succ _) fun b hb o q=>?_) z4 fun s3 mv3 z5=>?_⟩
  ·rw [sb.2 b (fun y:b=a=>out (by rw [← y];exact hb))];exact q
  ·refine kR s3 (Moved.trans W.gtrans ((mv.mono wider).then_heap (Nat.le_succ _) fun b o hb q=>?_) mv3) z5
   rw [sb.2 b (fun y:b=a=>hb (by rw [y];exact List.mem_cons_self))];exact q
end
section
variable {pg:Program}{w:World}{A:Around}{E:Value→Shared→Prop}{s:Shared}
set_option maxHeartbeats 3200000 in
theorem z9 {l:Addr}{its:Array Value}{ks:List Str}{Q:Value→Shared→Prop}(calm:A.handled=none) (lst:s.heap.IsList l its)
  (txt:∀ (i:Nat) (v:Value),its[i]? = some v→∃ t,v = .str (ks.getD i "") t) (room:its.size+1 < scanBound)
  (kQ:∀ (h2:Heap) (tk:Nat),h2.SetOf (strKind pg w) s.heap.objs.size (fun c=>decide (c∈metS (fun i=>ks.getD i "") its.size)) (metS (fun i=>ks.getD i "") its.size).length →
   (∀ b o,b < s.heap.objs.size→s.heap.get? b=some o→h2.get? b=some o)→Q (.ref s.heap.objs.size) { s with heap:=h2,toks:=tk }) :
  wpAny (model pg w) A (call (.type "set") [.ref l]) Q E s:=by
 obtain ⟨c0,c1,mro⟩:=PySem.F.called_set.mro
 have made0:=PySem.F.called_set.made
 have sub0:=PySem.F.called_set.sub
 refine wpAny_call (codeAny_of_tree (?_:wpAny _ _ (callAny (.type "set") _) _ _ _))
 refine wpAny_pure ⟨Code.quiet_builtin _ (by decide +kernel),codeAny_builtin PySem.F.entry_type_call ?_⟩
 rw [Around.under_plain (weight_type_call_type "set" [.ref l] []) rfl]
 have f1:=PySem.F.called_set.notType
 have f2:=PySem.F.called_set.canCreate
 have f3:=PySem.F.typeCall_set_1 (.ref l)
 repeat (any_goals (first|assumption|wp_step))
 refine codeAny_mono (code_set_new_1 (.ref l) (E:=E) (Q₁:=fun ob s2=>∃ led:Bool,ob = .ref s.heap.objs.size∧s2 = { s with heap:=s.heap.push (⟨.type "set",none,.set #[] 0 (.fresh 0 0 led),#[]⟩:Obj) }) fun led=>⟨led,rfl,rfl⟩) fun r s2 hr=>?_
 cases r with
 |error e=>exact hr
 |ok fl =>
  cases fl with
  |ret ob =>
   obtain ⟨led,rfl,rfl⟩:=hr
   have at0:(s.heap.push (⟨.type "set",none,.set #[] 0 (.fresh 0 0 led),#[]⟩:Obj)).get? s.heap.objs.size=some ⟨.type "set",none,.set #[] 0 (.fresh 0 0 led),#[]⟩:=Heap.get?_push_size _ rfl
   have ty0:Shared.TypeIs { s with heap:=s.heap.push (⟨.type "set",none,.set #[] 0 (.fresh 0 0 led),#[]⟩:Obj) } (.ref s.heap.objs.size) "set":=⟨_,at0,rfl⟩
   have f4:=PySem.F.called_set.init.lookup
   have f5:=PySem.F.called_set.init.bind (.ref s.heap.objs.size)
   repeat (any_goals (first|assumption|wp_step))
   refine codeAny_mono (codeAny_call_builtin (R:=wants (fun r s3=>r = .none∧∃ h2 tk,s3 = { s with heap:=h2,toks:=tk } ∧
     h2.SetOf (strKind pg w) s.heap.objs.size (fun c=>decide (c∈metS (fun i=>ks.getD i "") its.size)) (metS (fun i=>ks.getD i "") its.size).length ∧
     (∀ b o,b < s.heap.objs.size→s.heap.get? b=some o→h2.get? b=some o)) E) PySem.F.called_set.init.plain PySem.F.entry_set_init (check_set_init_1 ty0 ?_)) fun r3 s3 hr3=>?_
   ·obtain ⟨⟨ocls,odict,odata,oslots⟩,ol1,ol2,nl,ol3⟩:=lst
    replace ol2:ocls = .type "list":=ol2
    replace ol3:odata = .seq its nl:=ol3
    subst ol2 ol3
    have ol4:(s.heap.push (⟨.type "set",none,.set #[] 0 (.fresh 0 0 led),#[]⟩:Obj)).get? l=some ⟨.type "list",odict,.seq its nl,oslots⟩:=Heap.get?_push_of_some _ ol1
    have f6:=PySem.F.sub_list_set
    have f7:=PySem.F.sub_list_frozenset
    have f8:(Value.type "list" == Value.type "dict")=false:=by decide
    have lst1:(s.heap.push (⟨.type "set",none,.set #[] 0 (.fresh 0 0 led),#[]⟩:Obj)).IsList l its:=⟨_,ol4,rfl,nl,rfl⟩
    unfold Builtin.«set.__init__» noKeywords Builtin.Frozenset.updateFrom
    generalize ePI:pyIter=PI
    wp_walk
    subst ePI
    refine wpAny_pyIter_list lst1 (wpAny_bind (wpAny_runValue ?_))
    have lt0:l < s.heap.objs.size:=Heap.lt_size ol1
    have calm3:A.in1.in1.in1.handled=none:=by simp [calm]
    have far:l≠(s.heap.push (⟨.type "set",none,.set #[] 0 (.fresh 0 0 led),#[]⟩:Obj)).objs.size:=by
     rw [Heap.size_push];exact Nat.ne_of_lt (Nat.lt_succ_of_lt lt0)
    have out:s.heap.objs.size∉[(s.heap.push (⟨.type "set",none,.set #[] 0 (.fresh 0 0 led),#[]⟩:Obj)).objs.size,l]:=by
     rw [Heap.size_push]
     simp only [List.mem_cons,List.mem_singleton,List.not_mem_nil,or_false,not_or]
     exact ⟨Nat.ne_of_lt (Nat.lt_succ_self _),Nat.ne_of_gt lt0⟩
    refine z9h ((Walks.list calm3 _ l far its).toS) s.heap.objs.size out (fun i=>ks.getD i "") txt room (its.size - 0) 0 _ (by omega) (Nat.zero_le _) ⟨⟨_,Heap.get?_push_size _ rfl,rfl,rfl⟩,lst1.push _⟩ ?z0 ?kR
    case z0 =>
     have at1:=Heap.get?_push_of_some (⟨.type "list_iterator",none,.fields #[.ref l,.int 0 0],#[]⟩:Obj) at0
     exact PyProof.Rows.SetOf_congr ((PyProof.Rows.setObjOf_fresh (knd:=strKind pg w) led).setOf at1 (by unfold scanBound;omega)) (fun _=>rfl) rfl
    case kR =>
     rintro ⟨h2,g2,d2,tk2,os2⟩ mv z
     have eg:g2=s.gens:=mv.gens
     have ed:d2=s.drawn:=mv.drawn
     have eo:os2=s.os:=mv.os
     subst eg ed eo
     refine (?_:wpAny _ _ _ _ _ _)
     refine wpAny_pure (?_:wpAny _ _ (ret Value.none) _ _ _)
     refine wpAny_pure ⟨rfl,h2,tk2,rfl,z,fun b o hb q=>mv.heap b o ?_ (Heap.get?_push_of_some _ (Heap.get?_push_of_some _ q))⟩
     simp only [List.mem_cons,List.mem_singleton,List.not_mem_nil,or_false,not_or]
     exact ⟨Nat.ne_of_lt hb,by rw [Heap.size_push];exact Nat.ne_of_lt (Nat.lt_succ_of_lt hb)⟩
   ·cases r3 with
    |error e=>exact hr3
    |ok fl3 =>
     cases fl3 with
     |ret r =>
      obtain ⟨rfl,h2,tk,rfl,z,kk⟩:=hr3
      repeat (any_goals (first|assumption|wp_step))
      exact kQ _ _ z kk
     |_=>exact hr3.elim
  |_=>exact hr.elim
end
section
variable {X:Cx}
def tLenSet (te:TE):TE:=fun σ H Q=>te σ H fun x H1=>∃ (a:Addr) (ks:List Str),x = .ref a∧H1 a=some (.lst (ks.map V.str))∧ks.length≤4000∧Q (.int (metS (fun i=>ks.getD i "") ks.length).length) H1
theorem pe_lenSet {e:Expr}{te:TE}{p p2 p3 p4:Pos}(hc:X.calm=true) (gl:Gl X "len") (ml:X.mg "len" = none) (gs:Gl X "set") (ms:X.mg "set" = none) (he:PE X e te)
  (s2:starEach [e] X.env=(false,eval e X.env)::starEach [] X.env:=by rfl) (n2:(backTo p3 (starEach [] X.env)).any (·.1)=false:=by rfl)
  (s1:starEach [.Call (.Name "set" p2) [e] [] p3] X.env=(false,eval (.Call (.Name "set" p2) [e] [] p3) X.env)::starEach [] X.env:=by rfl) (n1:(backTo p4 (starEach [] X.env)).any (·.1)=false:=by rfl) :
  PE X (.Call (.Name "len" p) [.Call (.Name "set" p2) [e] [] p3] [] p4) (tLenSet te):=by
 intro pins s σ H Q I h
 refine wpAny_Call_Name_kw (z4t I gl ml PySem.boot_len ?_)
 refine PyProof.Rows.callWith_builtin1 ?_ s1 n1
 rw [s1]
 show wpAny _ _ (spliced ((false,eval (.Call (.Name "set" p2) [e] [] p3) X.env)::backTo p4 (starEach [] X.env))) _ _ s
 refine Calls.spliced_cons ?_
 refine wpAny_Call_Name_kw (z4t I gs ms PyProof.Rows.boot_set ?_)
 refine PyProof.Rows.callWith_type1 (thn (z0b he z0j s2 p3 pins s σ H (fun vs H1=>∃ (a:Addr) (ks:List Str),vs=[.ref a]∧H1 a=some (.lst (ks.map V.str))∧ks.length≤4000∧Q (.int (metS (fun i=>ks.getD i "") ks.length).length) H1) I ?_) fun us sa ⟨vs,H1,I1,r1,q1⟩=>?_) s2 n2
 ·show te σ H fun x H1=>_
  refine (?_:te σ H _)
  have e:(fun (x:V) (H1:Hp)=>∃ (a:Addr) (ks:List Str),x=V.ref a∧H1 a=some (.lst (ks.map V.str))∧ks.length≤4000∧Q (.int (metS (fun i=>ks.getD i "") ks.length).length) H1)=fun x H1=>tNil σ H1 fun vs H2=>∃ (a:Addr) (ks:List Str),x::vs=[V.ref a]∧H2 a=some (.lst (ks.map V.str))∧ks.length≤4000∧Q (.int (metS (fun i=>ks.getD i "") ks.length).length) H2:=by
   funext x H1
   simp only [tNil,List.cons.injEq,and_true]
  rw [← e]
  exact h
 ·obtain ⟨a,ks,rfl,ha,hl,q⟩:=q1
  obtain ⟨u,rfl,ru⟩:=z9d r1
  cases ru
  obtain ⟨its,rv,pl,_⟩:=I1.list (SqL.of ha)
  have len:its.length=ks.length:=by have:=rv.length;simp at this;exact this.symm
  refine z9 (ks:=ks) (I1.ok.hd hc) pl.isList (fun i v ev=>?_) (by simp [len,scanBound];omega) fun h2 tk z kk=>?_
  ·have ev':its[i]? = some v:=by simpa using ev
   have hi:i < ks.length:=by rw [← len];exact (List.getElem?_eq_some_iff.mp ev').1
   obtain ⟨u,eu,ru⟩:=rv.get (i:=i) (x:=.str (ks.getD i "")) (by simp [hi])
   rw [ev'] at eu
   cases eu
   exact ru
  ·refine Calls.spliced_nil ?_
   obtain ⟨o,es,ep,tb,ho,ex,hd,_,_,_,hf,hz⟩:=z
   have I2:Inv X pins σ H1 { sa with heap:=h2,toks:=tk }:=I1.kept (t':=tk) fun b o q=>kk b o (Heap.lt_size q) q
   have few:=y0o (fun i=>ks.getD i "") its.toArray.size
   refine call_len_set ho ex hd hf (by rw [hz];simp at few ⊢;omega) ⟨.int (es.size:Int),H1,I2.tok _,⟨_,rfl⟩,?_⟩
   rw [hz]
   simpa [len] using q
end
end L2
namespace L2
open PySem PySem.Spec PyProof.Rows
section
variable {X:Cx}
end
end L2
namespace VL
open PySem L2
inductive D where
 |non|bl (b:Bool)|int (i:Int)|str (x:Str)|ty (n:String)
 |lst (xs:List D)|tup (xs:List D)|dct (kvs:List (Key × D))
mutual
def Rep (F:Hp):D→V→Prop
 |.non,v=>v = .non
 |.bl b,v=>v = .bl b
 |.int i,v=>v = .int i
 |.str x,v=>v = .str x
 |.ty n,v=>v = .ty n
 |.lst ds,v=>∃ a vs,v = .ref a∧F a=some (.lst vs)∧Reps F ds vs
 |.tup ds,v=>∃ a vs,v = .ref a∧F a=some (.tup vs)∧Reps F ds vs
 |.dct kds,v=>∃ a kvs,v = .ref a∧F a=some (.dK kvs)∧RepK F kds kvs
def Reps (F:Hp):List D→List V→Prop
 | [],vs=>vs=[]
 |d::ds,vs=>∃ v r,vs=v::r∧Rep F d v∧Reps F ds r
def RepK (F:Hp):List (Key × D)→List (Key × V)→Prop
 | [],vs=>vs=[]
 |p::ds,vs=>∃ v r,vs=v::r∧RepP F p v∧RepK F ds r
def RepP (F:Hp):Key × D→Key × V→Prop
 |(k,d),q=>q.1=k∧Rep F d q.2
end
mutual
theorem Rep.mono {F F':Hp}(s:Same F F'):∀ (d:D) (v:V),Rep F d v→Rep F' d v
 |.non,v,h=>h
 |.bl b,v,h=>h
 |.int i,v,h=>h
 |.str x,v,h=>h
 |.ty n,v,h=>h
 |.lst ds,v,h=>by obtain ⟨a,vs,e,h1,h2⟩:=h;exact ⟨a,vs,e,s _ _ h1,Reps.mono s ds vs h2⟩
 |.tup ds,v,h=>by obtain ⟨a,vs,e,h1,h2⟩:=h;exact ⟨a,vs,e,s _ _ h1,Reps.mono s ds vs h2⟩
 |.dct kds,v,h=>by obtain ⟨a,vs,e,h1,h2⟩:=h;exact ⟨a,vs,e,s _ _ h1,RepK.mono s kds vs h2⟩
theorem Reps.mono {F F':Hp}(s:Same F F'):∀ (ds:List D) (vs:List V),Reps F ds vs→Reps F' ds vs
 | [],vs,h=>h
 |d::ds,vs,h=>by obtain ⟨v,r,e,h1,h2⟩:=h;exact ⟨v,r,e,Rep.mono s d v h1,Reps.mono s ds r h2⟩
theorem RepK.mono {F F':Hp}(s:Same F F'):∀ (ds:List (Key × D)) (vs:List (Key × V)),RepK F ds vs→RepK F' ds vs
 | [],vs,h=>h
 |p::ds,vs,h=>by obtain ⟨v,r,e,h1,h2⟩:=h;exact ⟨v,r,e,RepP.mono s p v h1,RepK.mono s ds r h2⟩
theorem RepP.mono {F F':Hp}(s:Same F F'):∀ (p:Key × D) (q:Key × V),RepP F p q→RepP F' p q
 |(k,d),q,h=>⟨h.1,Rep.mono s d q.2 h.2⟩
end
theorem Reps.len {F:Hp}:∀ {ds:List D}{vs:List V},Reps F ds vs→ds.length=vs.length
 | [],vs,h=>by cases (show vs=[] from h);rfl
 |d::ds,vs,h=>by obtain ⟨v,r,rfl,h1,h2⟩:=h;simp [Reps.len h2]
theorem Reps.get {F:Hp}:∀ {ds:List D}{vs:List V}{i:Nat}{d:D},Reps F ds vs→ds[i]? = some d→∃ v,vs[i]? = some v∧Rep F d v
 | [],vs,i,d,h,e=>by simp at e
 |d::ds,vs,0,d',h,e=>by obtain ⟨v,r,rfl,h1,h2⟩:=h;simp at e;subst e;exact ⟨v,rfl,h1⟩
 |d::ds,vs,i+1,d',h,e=>by obtain ⟨v,r,rfl,h1,h2⟩:=h;simpa using Reps.get h2 (by simpa using e)
theorem Reps.app {F:Hp}:∀ {ds es:List D}{vs us:List V},Reps F ds vs→Reps F es us→Reps F (ds ++ es) (vs ++ us)
 | [],es,vs,us,h,h'=>by cases (show vs=[] from h);exact h'
 |d::ds,es,vs,us,h,h'=>by obtain ⟨v,r,rfl,h1,h2⟩:=h;exact ⟨v,r ++ us,rfl,h1,Reps.app h2 h'⟩
theorem Reps.one {F:Hp}{d:D}{v:V}(h:Rep F d v):Reps F [d] [v]:=⟨v,[],rfl,h,rfl⟩
theorem Reps.take {F:Hp}:∀ {ds:List D}{vs:List V}(n:Nat),Reps F ds vs→Reps F (ds.take n) (vs.take n)
 |_,_,0,_=>by rw [List.take_zero,List.take_zero];rfl
 | [],vs,n+1,h=>by cases (show vs=[] from h);rfl
 |d::ds,vs,n+1,h=>by obtain ⟨v,r,rfl,h1,h2⟩:=h;exact ⟨v,r.take n,rfl,h1,Reps.take n h2⟩
theorem Reps.drop {F:Hp}:∀ {ds:List D}{vs:List V}(n:Nat),Reps F ds vs→Reps F (ds.drop n) (vs.drop n)
 |_,_,0,h=>h
 | [],vs,n+1,h=>by cases (show vs=[] from h);rfl
 |d::ds,vs,n+1,h=>by obtain ⟨v,r,rfl,h1,h2⟩:=h;exact Reps.drop n h2
theorem Reps.set {F:Hp}{d:D}{v:V}(h:Rep F d v):∀ {ds:List D}{vs:List V}(n:Nat),Reps F ds vs→Reps F (ds.set n d) (vs.set n v)
 | [],vs,n,h=>by cases (show vs=[] from h);rfl
 |d::ds,vs,0,h=>by obtain ⟨v',r,rfl,h1,h2⟩:=h;exact ⟨_,r,rfl,by assumption,h2⟩
 |d::ds,vs,n+1,h=>by obtain ⟨v',r,rfl,h1,h2⟩:=h;exact ⟨v',r.set n v,rfl,h1,Reps.set (by assumption) n h2⟩
theorem Reps.rev {F:Hp}:∀ {ds:List D}{vs:List V},Reps F ds vs→Reps F ds.reverse vs.reverse
 | [],vs,h=>by cases (show vs=[] from h);rfl
 |d::ds,vs,h=>by
  obtain ⟨v',r,rfl,h1,h2⟩:=h
  rw [List.reverse_cons,List.reverse_cons]
  exact (Reps.rev h2).app (.one h1)
theorem Reps.dropLast {F:Hp}{ds:List D}{vs:List V}(h:Reps F ds vs):Reps F ds.dropLast vs.dropLast:=by
 rw [List.dropLast_eq_take,List.dropLast_eq_take,h.len];exact h.take _
inductive Slot where
 |no
 |fz (d:D)
 |ob (io:Bool) (c:D)
 |sc (K:PySem.W.Frag) (ns:List Int)
def Cont (F H:Hp) (a:Addr):D→Prop
 |.lst ds=>∃ vs,H a=some (.lst vs)∧Reps F ds vs
 |.dct kds=>∃ kvs,H a=some (.dK kvs)∧RepK F kds kvs
 |_=>False
theorem Cont.mono {F F' H H':Hp}{a:Addr}{c:D}(s:Same F F') (e:∀ o,H a=some o→H' a=some o) (h:Cont F H a c):Cont F' H' a c:=by
 cases c with
 |lst ds=>obtain ⟨vs,h1,h2⟩:=h;exact ⟨vs,e _ h1,Reps.mono s _ _ h2⟩
 |dct ds=>obtain ⟨vs,h1,h2⟩:=h;exact ⟨vs,e _ h1,RepK.mono s _ _ h2⟩
 |_=>exact h.elim
theorem Cont.some {F H:Hp}{a:Addr}{c:D}(h:Cont F H a c):∃ o,H a=some o:=by
 cases c with
 |lst ds=>obtain ⟨vs,h1,h2⟩:=h;exact ⟨_,h1⟩
 |dct ds=>obtain ⟨vs,h1,h2⟩:=h;exact ⟨_,h1⟩
 |_=>exact h.elim
theorem Cont.rep {F H:Hp}{a:Addr}{c:D}(h:Cont F H a c) (hf:F a=none):∃ o,H a=Option.some o∧Rep (upd F a o) c (.ref a):=by
 have s:∀ o,Same F (upd F a o):=fun o=>Same.of_new hf
 cases c with
 |lst ds=>obtain ⟨vs,h1,h2⟩:=h;exact ⟨_,h1,a,vs,rfl,z0d,Reps.mono (s _) _ _ h2⟩
 |dct ds=>obtain ⟨vs,h1,h2⟩:=h;exact ⟨_,h1,a,vs,rfl,z0d,RepK.mono (s _) _ _ h2⟩
 |_=>exact h.elim
def SOk (H0 F H:Hp) (io:Option Addr) (o:Option V):Slot→Prop
 |.no=>True
 |.fz d=>∃ v,o=some v∧Rep F d v
 |.ob b c=>∃ a,o=some (.ref a)∧H0 a=none∧F a=none∧Cont F H a c∧(b=true→io=some a)
 |.sc K ns=>∃ a,o=some (.ref a)∧SqL K F a (ns.map V.int)
structure EI (io:List (Option Addr)) (H0 F0 F:Hp) (δ:List Slot) (σ:St) (H:Hp):Prop where
 base:Same H0 H
 sub:Same F H
 ext:Same F0 F
 new:∀ b o,F b=some o→F0 b=none→H0 b=none
 len:δ.length=σ.length
 get:∀ i s,δ[i]? = some s→SOk H0 F H (io.getD i none) (σ.getD i none) s
 apart:∀ i j b c b' c' a,i≠j→δ[i]? = some (.ob b c)→δ[j]? = some (.ob b' c')→σ.getD i none=some (.ref a)→σ.getD j none=some (.ref a)→False
def rsl:Bool→D→Slot
 |true,d=>.ob false d
 |false,d=>.fz d
section
variable {io:List (Option Addr)}{H0 F0 F:Hp}{δ:List Slot}{σ:St}{H:Hp}
theorem SOk.mono {F' H':Hp}{i:Option Addr}{o:Option V}{s:Slot}(sf:Same F F') (h:SOk H0 F H i o s) (hn:∀ a b c,s = .ob b c→o=some (.ref a)→F' a=none∧∀ u,H a=some u→H' a=some u):SOk H0 F' H' i o s:=by
 cases s with
 |no=>trivial
 |fz d=>obtain ⟨v,e,r⟩:=h;exact ⟨v,e,Rep.mono sf _ _ r⟩
 |sc K ns=>obtain ⟨a,e,r⟩:=h;exact ⟨a,e,sf.seq r⟩
 |ob b c =>
  obtain ⟨a,e,h1,h2,h3,h4⟩:=h
  obtain ⟨n1,n2⟩:=hn a b c rfl e
  exact ⟨a,e,h1,n1,h3.mono sf n2,h4⟩
theorem EI.alloc {p:Addr}{o:HO}(I:EI io H0 F0 F δ σ H) (hp:H p=none):EI io H0 F0 F δ σ (upd H p o) where
 base:=I.base.upd (I.base.free hp)
 sub:=I.sub.upd (I.sub.free hp)
 ext:=I.ext
 new:=I.new
 len:=I.len
 get:=fun i s e=>(I.get i s e).mono (Same.refl _) fun a b c es eo=>by
  have h:=I.get i s e
  subst es
  obtain ⟨a',e1,h1,h2,h3,h4⟩:=h
  rw [eo] at e1;cases e1
  obtain ⟨u,hu⟩:=h3.some
  exact ⟨h2,fun u' hu'=>by rw [z0f (z0l hu hp)];exact hu'⟩
 apart:=I.apart
theorem EI.allocF {p:Addr}{o:HO}(I:EI io H0 F0 F δ σ H) (hp:H p=none):EI io H0 F0 (upd F p o) δ σ (upd H p o) where
 base:=I.base.upd (I.base.free hp)
 sub:=fun b u e=>by
  by_cases hb:b=p
  ·subst hb;rw [z0d] at e ⊢;exact e
  ·rw [z0f hb] at e ⊢;exact I.sub b u e
 ext:=I.ext.upd (I.ext.free (I.sub.free hp))
 new:=fun b u e h=>by
  by_cases hb:b=p
  ·subst hb;exact I.base.free hp
  ·rw [z0f hb] at e;exact I.new b u e h
 len:=I.len
 get:=fun i s e=>(I.get i s e).mono (Same.of_new (I.sub.free hp)) fun a b c es eo=>by
  have h:=I.get i s e
  subst es
  obtain ⟨a',e1,h1,h2,h3,h4⟩:=h
  rw [eo] at e1;cases e1
  obtain ⟨u,hu⟩:=h3.some
  have ne:=z0l hu hp
  exact ⟨by rw [z0f ne];exact h2,fun u' hu'=>by rw [z0f ne];exact hu'⟩
 apart:=I.apart
theorem EI.push {s:Slot}{v:V}(I:EI io H0 F0 F δ σ H) (h:SOk H0 F H none (some v) s) (ha:∀ b c a,s = .ob b c→v = .ref a→∀ j b' c',δ[j]? = some (.ob b' c')→σ.getD j none=some (.ref a)→False):EI (none::io) H0 F0 F (s::δ) (some v::σ) H where
 base:=I.base
 sub:=I.sub
 ext:=I.ext
 new:=I.new
 len:=by simp [I.len]
 get:=fun i t e=>by
  cases i with
  |zero=>simp at e;subst e;exact h
  |succ i=>simpa using I.get i t (by simpa using e)
 apart:=fun i j b c b' c' a ne e1 e2 e3 e4=>by
  cases i with
  |zero =>
   cases j with
   |zero=>exact ne rfl
   |succ j =>
    simp at e1 e2 e3 e4
    exact ha b c a e1 e3 j b' c' e2 (by simpa using e4)
  |succ i =>
   cases j with
   |zero =>
    simp at e1 e2 e3 e4
    exact ha b' c' a e2 e4 i b c e1 (by simpa using e3)
   |succ j =>
    simp at e1 e2 e3 e4
    exact I.apart i j b c b' c' a (by omega) e1 e2 (by simpa using e3) (by simpa using e4)
theorem EI.pushF {d:D}{v:V}(I:EI io H0 F0 F δ σ H) (h:Rep F d v):EI (none::io) H0 F0 F (.fz d::δ) (some v::σ) H :=
 I.push ⟨v,rfl,h⟩ fun b c a e=>by cases e
theorem EI.pop {x:Option Addr}{s:Slot}{o:Option V}(I:EI (x::io) H0 F0 F (s::δ) (o::σ) H):EI io H0 F0 F δ σ H where
 base:=I.base
 sub:=I.sub
 ext:=I.ext
 new:=I.new
 len:=by simpa using I.len
 get:=fun i t e=>by simpa using I.get (i+1) t (by simpa using e)
 apart:=fun i j b c b' c' a ne e1 e2 e3 e4=>I.apart (i+1) (j+1) b c b' c' a (by omega) (by simpa using e1) (by simpa using e2) (by simpa using e3) (by simpa using e4)
theorem EI.freeze {i:Nat}{c:D}(I:EI io H0 F0 F δ σ H) (e:δ[i]? = some (.ob false c)):∃ F' a,Same F F'∧EI io H0 F0 F' (δ.set i (.fz c)) σ H∧σ.getD i none=some (.ref a)∧Rep F' c (.ref a):=by
 obtain ⟨a,e1,h1,h2,h3,_⟩:=I.get i _ e
 obtain ⟨o,ho,hr⟩:=h3.rep h2
 have hs:Same F (upd F a o):=Same.of_new h2
 refine ⟨upd F a o,a,hs,⟨I.base,fun b u eb=>?_,I.ext.trans hs,fun b u eb hb=>?_,by simp [I.len],fun j s ej=>?_,fun j k b c1 b' c' a' ne e1 e2 e3 e4=>?_⟩,e1,hr⟩
 ·by_cases hb:b=a
  ·subst hb;rw [z0d] at eb;cases eb;exact ho
  ·rw [z0f hb] at eb;exact I.sub b u eb
 ·by_cases hb':b=a
  ·subst hb';exact h1
  ·rw [z0f hb'] at eb;exact I.new b u eb hb
 ·rw [List.getElem?_set] at ej
  split at ej
  ·rename_i hij
   subst hij
   split at ej
   ·cases ej
    exact ⟨_,e1,hr⟩
   ·cases ej
  ·rename_i hij
   refine (I.get j s ej).mono hs fun a' b' c' es eo=>?_
   subst es
   obtain ⟨a'',q1,q2,q3,q4,_⟩:=I.get j _ ej
   rw [eo] at q1;cases q1
   refine ⟨?_,fun u hu=>hu⟩
   rw [z0f]
   ·exact q3
   ·rintro rfl
    exact I.apart i j _ _ _ _ _ hij e ej e1 eo
 ·rw [List.getElem?_set] at e1 e2
  split at e1
  ·split at e1 <;> cases e1
  ·split at e2
   ·split at e2 <;> cases e2
   ·exact I.apart j k b c1 b' c' a' ne e1 e2 e3 e4
theorem EI.fr {b:Bool}{d:D}{v:V}(I:EI (none::io) H0 F0 F (rsl b d::δ) (some v::σ) H):∃ F',Same F F'∧EI io H0 F0 F' δ σ H∧Rep F' d v:=by
 cases b with
 |false =>
  obtain ⟨v',e,r⟩:=I.get 0 _ rfl
  simp at e;subst e
  exact ⟨F,Same.refl _,I.pop,r⟩
 |true =>
  obtain ⟨F',a,hs,I',e,r⟩:=I.freeze (i:=0) (c:=d) rfl
  simp at e;subst e
  exact ⟨F',hs,I'.pop,r⟩
def peek (δ:List Slot) (i:Nat):Option D :=
 match δ[i]? with
 |some (.fz d)=>some d
 |some (.ob _ c)=>some c
 |_=>none
def Pk (F H:Hp) (d:D) (v:V):Prop:=Rep F d v ∨ ∃ a,v = .ref a∧Cont F H a d
theorem EI.pk {i:Nat}{d:D}(I:EI io H0 F0 F δ σ H) (e:peek δ i=some d):∃ v,σ[i]? = some (some v)∧Pk F H d v:=by
 unfold peek at e
 split at e
 ·rename_i d' h
  cases e
  obtain ⟨v,e1,r⟩:=I.get i _ h
  refine ⟨v,?_,.inl r⟩
  rw [List.getD_eq_getElem?_getD] at e1
  cases q:σ[i]? with
  |none=>rw [q] at e1;cases e1
  |some o=>rw [q] at e1;simp at e1;rw [e1]
 ·rename_i b c h
  cases e
  obtain ⟨a,e1,_,_,h3,_⟩:=I.get i _ h
  refine ⟨.ref a,?_,.inr ⟨a,rfl,h3⟩⟩
  rw [List.getD_eq_getElem?_getD] at e1
  cases q:σ[i]? with
  |none=>rw [q] at e1;cases e1
  |some o=>rw [q] at e1;simp at e1;rw [e1]
 ·cases e
theorem Pk.lst {ds:List D}{v:V}(I:EI io H0 F0 F δ σ H) (h:Pk F H (.lst ds) v):∃ a vs,v = .ref a∧H a=some (.lst vs)∧Reps F ds vs:=by
 rcases h with ⟨a,vs,e,h1,h2⟩|⟨a,e,vs,h1,h2⟩
 ·exact ⟨a,vs,e,I.sub _ _ h1,h2⟩
 ·exact ⟨a,vs,e,h1,h2⟩
theorem Pk.tup {ds:List D}{v:V}(I:EI io H0 F0 F δ σ H) (h:Pk F H (.tup ds) v):∃ a vs,v = .ref a∧H a=some (.tup vs)∧Reps F ds vs:=by
 rcases h with ⟨a,vs,e,h1,h2⟩|⟨a,e,h⟩
 ·exact ⟨a,vs,e,I.sub _ _ h1,h2⟩
 ·exact h.elim
theorem Pk.dct {ds:List (Key × D)}{v:V}(I:EI io H0 F0 F δ σ H) (h:Pk F H (.dct ds) v):∃ a vs,v = .ref a∧H a=some (.dK vs)∧RepK F ds vs:=by
 rcases h with ⟨a,vs,e,h1,h2⟩|⟨a,e,vs,h1,h2⟩
 ·exact ⟨a,vs,e,I.sub _ _ h1,h2⟩
 ·exact ⟨a,vs,e,h1,h2⟩
theorem Pk.int {i:Int}{v:V}(h:Pk F H (.int i) v):v = .int i:=by
 rcases h with h|⟨a,e,h⟩
 ·exact h
 ·exact h.elim
theorem Pk.str {x:Str}{v:V}(h:Pk F H (.str x) v):v = .str x:=by
 rcases h with h|⟨a,e,h⟩
 ·exact h
 ·exact h.elim
theorem Pk.bl {x:Bool}{v:V}(h:Pk F H (.bl x) v):v = .bl x:=by
 rcases h with h|⟨a,e,h⟩
 ·exact h
 ·exact h.elim
theorem Pk.non {v:V}(h:Pk F H .non v):v = .non:=by
 rcases h with h|⟨a,e,h⟩
 ·exact h
 ·exact h.elim
theorem EI.setv {i:Nat}{b:Bool}{d:D}{v:V}(I:EI (none::io) H0 F0 F (rsl b d::δ) (some v::σ) H) (hn:∀ c,δ[i]? ≠ some (.ob true c)) (hi:i < δ.length):EI io H0 F0 F (δ.set i (rsl b d)) (σ.set i (some v)) H:=by
 have J:=I.pop
 refine ⟨I.base,I.sub,I.ext,I.new,by simpa using J.len,fun j s e=>?_,fun j k b1 c1 b2 c2 a ne e1 e2 e3 e4=>?_⟩
 ·rw [List.getElem?_set] at e
  split at e
  ·rename_i hij
   subst hij
   cases e
   have hl:i < σ.length:=by rw [← J.len];exact hi
   have h0:=I.get 0 _ rfl
   simp [List.getD_eq_getElem?_getD,hl]
   cases b with
   |false=>obtain ⟨v',e',r⟩:=h0;simp at e';subst e';exact ⟨v,rfl,r⟩
   |true=>obtain ⟨a,e',h1,h2,h3,h4⟩:=h0;simp at e';subst e';exact ⟨a,rfl,h1,h2,h3,fun z=>by cases z⟩
  ·rename_i hij
   have:=J.get j s e
   simp only [List.getD_eq_getElem?_getD] at this ⊢
   rw [List.getElem?_set_ne hij]
   exact this
 ·have hl:i < σ.length:=by rw [← J.len];exact hi
  have key:∀ {j:Nat}{b' c' b1 c1 a},j≠i→(rsl b d) = .ob b1 c1→δ[j]? = some (.ob b' c')→v = .ref a→σ.getD j none=some (.ref a)→False:=fun {j b' c' b1 c1 a} hj e1 e2 e3 e4 =>
   I.apart 0 (j+1) b1 c1 b' c' a (by omega) (by simp [e1]) (by simpa using e2) (by simp [e3]) (by simpa using e4)
  rw [List.getElem?_set] at e1 e2
  rw [List.getD_eq_getElem?_getD,List.getElem?_set] at e3 e4
  by_cases hj:i=j
  ·subst hj
   by_cases hk:i=k
   ·exact ne hk
   ·rw [if_pos rfl,if_pos hi] at e1
    rw [if_pos rfl,if_pos hl] at e3
    rw [if_neg hk] at e2 e4
    exact key (fun z=>hk z.symm) (Option.some.inj e1) e2 (by simpa using e3) (by simpa [List.getD_eq_getElem?_getD] using e4)
  ·rw [if_neg hj] at e1 e3
   by_cases hk:i=k
   ·subst hk
    rw [if_pos rfl,if_pos hi] at e2
    rw [if_pos rfl,if_pos hl] at e4
    exact key (fun z=>hj z.symm) (Option.some.inj e2) e1 (by simpa using e4) (by simpa [List.getD_eq_getElem?_getD] using e3)
   ·rw [if_neg hk] at e2 e4
    exact J.apart j k b1 c1 b2 c2 a ne e1 e2 (by simpa [List.getD_eq_getElem?_getD] using e3) (by simpa [List.getD_eq_getElem?_getD] using e4)
theorem EI.forget {i:Nat}(I:EI io H0 F0 F δ σ H):EI io H0 F0 F (δ.set i .no) σ H:=by
 refine ⟨I.base,I.sub,I.ext,I.new,by simpa using I.len,fun j s e=>?_,fun j k b1 c1 b2 c2 a ne e1 e2 e3 e4=>?_⟩
 ·rw [List.getElem?_set] at e
  split at e
  ·split at e
   ·cases e;trivial
   ·cases e
  ·exact I.get j s e
 ·rw [List.getElem?_set] at e1 e2
  split at e1
  ·split at e1 <;> cases e1
  ·split at e2
   ·split at e2 <;> cases e2
   ·exact I.apart j k b1 c1 b2 c2 a ne e1 e2 e3 e4
theorem EI.change {i:Nat}{b:Bool}{c c':D}{a:Addr}{o:HO}(I:EI io H0 F0 F δ σ H) (e:δ[i]? = some (.ob b c)) (ea:σ.getD i none=some (.ref a)) (hc:Cont F (upd H a o) a c'):EI io H0 F0 F (δ.set i (.ob b c')) σ (upd H a o):=by
 obtain ⟨a',e1,h1,h2,h3,h4⟩:=I.get i _ e
 rw [ea] at e1;cases e1
 refine ⟨I.base.upd h1,I.sub.upd h2,I.ext,I.new,by simpa using I.len,fun j s ej=>?_,fun j k b1 c1 b2 c2 a' ne e1 e2 e3 e4=>?_⟩
 ·rw [List.getElem?_set] at ej
  split at ej
  ·rename_i hij
   subst hij
   split at ej
   ·cases ej
    exact ⟨a,ea,h1,h2,hc,h4⟩
   ·cases ej
  ·rename_i hij
   refine (I.get j s ej).mono (Same.refl _) fun a' b' c' es eo=>?_
   subst es
   obtain ⟨a'',q1,q2,q3,q4,_⟩:=I.get j _ ej
   rw [eo] at q1;cases q1
   refine ⟨q3,fun u hu=>?_⟩
   rw [z0f]
   ·exact hu
   ·rintro rfl
    exact I.apart i j _ _ _ _ _ hij e ej ea eo
 ·have key:∀ {j:Nat}{b1:Bool}{c1:D},(δ.set i (.ob b c'))[j]? = some (Slot.ob b1 c1)→∃ b2 c2,δ[j]? = some (Slot.ob b2 c2):=fun {j b1 c1} h=>by
   rw [List.getElem?_set] at h
   split at h
   ·rename_i hij;subst hij;exact ⟨_,_,e⟩
   ·exact ⟨_,_,h⟩
  obtain ⟨b3,c3,q1⟩:=key e1
  obtain ⟨b4,c4,q2⟩:=key e2
  exact I.apart j k _ _ _ _ a' ne q1 q2 e3 e4
end
end VL
namespace VL
open PySem L2
abbrev TEd:=List Slot→(Bool→D→List Slot→Prop)→Prop
abbrev TTd:=List Slot→(Bool→List Slot→Prop)→Prop
abbrev TLd:=List Slot→(List D→List Slot→Prop)→Prop
structure EndsD where
 nx:List Slot→Prop
 rt:Bool→D→List Slot→Prop
 bk:List Slot→Prop:=fun _=>False
 ct:List Slot→Prop:=fun _=>False
abbrev TSd:=EndsD→List Slot→Prop
abbrev TGd:=D→List Slot→(List Slot→Prop)→Prop
def Sim (te:TE) (td:TEd):Prop:=∀ (io:List (Option Addr)) (H0 F0 F:Hp) (δ:List Slot) (σ:St) (H:Hp) (Q:VK) (Qd:Bool→D→List Slot→Prop),EI io H0 F0 F δ σ H→td δ Qd →
 (∀ b d v δ' F' H',Same F F'→EI (none::io) H0 F0 F' (rsl b d::δ') (some v::σ) H'→Qd b d δ'→Q v H')→te σ H Q
def SimT (te:TT) (td:TTd):Prop:=∀ (io:List (Option Addr)) (H0 F0 F:Hp) (δ:List Slot) (σ:St) (H:Hp) (Q:Bool→Hp→Prop) (Qd:Bool→List Slot→Prop),EI io H0 F0 F δ σ H→td δ Qd →
 (∀ b δ' F' H',Same F F'→EI io H0 F0 F' δ' σ H'→Qd b δ'→Q b H')→te σ H Q
def SimL (te:TA) (td:TLd):Prop:=∀ (io:List (Option Addr)) (H0 F0 F:Hp) (δ:List Slot) (σ:St) (H:Hp) (Q:List V→Hp→Prop) (Qd:List D→List Slot→Prop),EI io H0 F0 F δ σ H→td δ Qd →
 (∀ ds vs δ' F' H',Same F F'→EI io H0 F0 F' δ' σ H'→Reps F' ds vs→Qd ds δ'→Q vs H')→te σ H Q
def SimG (g:TG) (gd:TGd):Prop:=∀ (io:List (Option Addr)) (H0 F0 F:Hp) (δ:List Slot) (σ:St) (H:Hp) (d:D) (v:V) (Q:St→Hp→Prop) (Qd:List Slot→Prop),EI io H0 F0 F δ σ H→Rep F d v→gd d δ Qd →
 (∀ δ' σ',EI io H0 F0 F δ' σ' H→Qd δ'→Q σ' H)→g v σ H Q
structure ESim (io:List (Option Addr)) (H0 F0 F:Hp) (Ed:EndsD) (E:Ends):Prop where
 nx:∀ F' δ' σ' H',Same F F'→EI io H0 F0 F' δ' σ' H'→Ed.nx δ'→E.nx σ' H'
 rt:∀ b d v F' δ' σ' H',Same F F'→EI (none::io) H0 F0 F' (rsl b d::δ') (some v::σ') H'→Ed.rt b d δ'→E.rt v H'
 bk:∀ F' δ' σ' H',Same F F'→EI io H0 F0 F' δ' σ' H'→Ed.bk δ'→E.bk σ' H'
 ct:∀ F' δ' σ' H',Same F F'→EI io H0 F0 F' δ' σ' H'→Ed.ct δ'→E.ct σ' H'
theorem ESim.mono {io:List (Option Addr)}{H0 F0 F F1:Hp}{Ed:EndsD}{E:Ends}(s:Same F F1) (h:ESim io H0 F0 F Ed E):ESim io H0 F0 F1 Ed E :=
 ⟨fun F' δ' σ' H' q=>h.nx F' δ' σ' H' (s.trans q),fun b d v F' δ' σ' H' q=>h.rt b d v F' δ' σ' H' (s.trans q),fun F' δ' σ' H' q=>h.bk F' δ' σ' H' (s.trans q),fun F' δ' σ' H' q=>h.ct F' δ' σ' H' (s.trans q)⟩
def SimS (t:TS) (td:TSd):Prop:=∀ (io:List (Option Addr)) (H0 F0 F:Hp) (δ:List Slot) (σ:St) (H:Hp) (E:Ends) (Ed:EndsD),EI io H0 F0 F δ σ H→td Ed δ→ESim io H0 F0 F Ed E→t E σ H
def DE (X:Cx) (e:Expr) (td:TEd):Prop:=∃ te,PE X e te∧Sim te td
def DT (X:Cx) (e:Expr) (td:TTd):Prop:=∃ te,PT X e te∧SimT te td
def DW (X:Cx) (e:Expr) (td:TTd):Prop:=∃ te,PW X e te∧SimT te td
def DL (X:Cx) (es:List Expr) (td:TLd):Prop:=∃ te,PA X es te∧SimL te td
def DG (X:Cx) (e:Expr) (gd:TGd):Prop:=∃ g,PG X e g∧SimG g gd
def DS (X:Cx) (s:Stmt) (td:TSd):Prop:=∃ t,PS X s t∧SimS t td
def DSs (X:Cx) (s:List Stmt) (td:TSd):Prop:=∃ t,PSs X s t∧SimS t td
section
variable {io:List (Option Addr)}{H0 F0 F:Hp}{δ:List Slot}{σ:St}{H:Hp}
theorem Sim.fz {te:TE}{td:TEd}(s:Sim te td) {Q:VK}{Qd:D→List Slot→Prop}(I:EI io H0 F0 F δ σ H) (h:td δ fun _ d δ'=>Qd d δ')
  (k:∀ d v δ' F' H',Same F F'→EI io H0 F0 F' δ' σ H'→Rep F' d v→Qd d δ'→Q v H'):te σ H Q :=
 s io H0 F0 F δ σ H Q _ I h fun b d v δ' F' H' sf I' q=>by
  obtain ⟨F2,s2,I2,r⟩:=I'.fr
  exact k d v δ' F2 H' (sf.trans s2) I2 r q
theorem z2x {o:V}{i:Nat}(h:σ.getD i none=some o):σ[i]? = some (some o):=by
 rw [List.getD_eq_getElem?_getD] at h
 cases q:σ[i]? with
 |none=>rw [q] at h;cases h
 |some z=>rw [q] at h;simp at h;rw [h]
end
def dC (d:D):TEd:=fun δ Q=>Q false d δ
theorem sim_C {d:D}{v:V}(h:∀ F,Rep F d v):Sim (tC v) (dC d):=fun io H0 F0 F δ σ H Q Qd I q k=>k false d v δ F H (Same.refl _) (I.pushF (h F)) q
def dVar (i:Nat):TEd:=fun δ Q =>
 match δ[i]? with
 |some (.fz d)=>Q false d δ
 |some (.ob false c)=>Q false c (δ.set i (.fz c))
 |_=>False
def dMv (i:Nat):TEd:=fun δ Q =>
 match δ[i]? with
 |some (.fz d)=>Q false d δ
 |some (.ob false c)=>Q true c (δ.set i .no)
 |_=>False
theorem sim_var (i:Nat):Sim (tVar i) (dVar i):=by
 intro io H0 F0 F δ σ H Q Qd I q k
 unfold dVar at q
 split at q
 ·rename_i d h
  obtain ⟨v,e,r⟩:=I.get i _ h
  exact ⟨v,z2x e,k false d v δ F H (Same.refl _) (I.pushF r) q⟩
 ·rename_i c h
  obtain ⟨F',a,sf,I',e,r⟩:=I.freeze h
  exact ⟨.ref a,z2x e,k false c (.ref a) _ F' H sf (I'.pushF r) q⟩
 ·exact q.elim
theorem sim_mv (i:Nat):Sim (tVar i) (dMv i):=by
 intro io H0 F0 F δ σ H Q Qd I q k
 unfold dMv at q
 split at q
 ·rename_i d h
  obtain ⟨v,e,r⟩:=I.get i _ h
  exact ⟨v,z2x e,k false d v δ F H (Same.refl _) (I.pushF r) q⟩
 ·rename_i c h
  obtain ⟨a,e,h1,h2,h3,h4⟩:=I.get i _ h
  refine ⟨.ref a,z2x e,k true c (.ref a) _ F H (Same.refl _) (I.forget.push ⟨a,rfl,h1,h2,h3,fun z=>by cases z⟩ ?_) q⟩
  intro b c' a' es ev j b2 c2 ej eo
  cases ev
  rw [List.getElem?_set] at ej
  split at ej
  ·split at ej <;> cases ej
  ·rename_i hij
   exact I.apart i j _ _ _ _ a hij h ej e eo
 ·exact q.elim
section
variable {X:Cx}{pos:Pos}
theorem z0k {i j pos}:DE X (.Constant (.int i) j pos) (dC (.int i)):=⟨_,z1e,sim_C fun _=>rfl⟩
theorem z9b {b j pos}:DE X (.Constant (.bool b) j pos) (dC (.bl b)):=⟨_,pe_bl,sim_C fun _=>rfl⟩
theorem de_non {j pos}:DE X (.Constant .none j pos) (dC .non):=⟨_,z8u,sim_C fun _=>rfl⟩
theorem z1g {x j pos}:DE X (.Constant (.str x) j pos) (dC (.str x)):=⟨_,z2v,sim_C fun _=>rfl⟩
theorem dv (i:Nat) {x:Str}{pos:Pos}(hN:X.N[i]? = some x:=by rfl) (hv:Vis X.env.scope x:=by first|exact Or.inl rfl|exact Or.inr (Or.inl rfl)|exact Or.inr (Or.inr rfl)) (hd:(x == ("__debug__":Str))=false:=by decide)
  (hcd:(x == ("__classdict__":Str))=false:=by decide):DE X (.Name x pos) (dVar i):=⟨_,y0g hN hv hd hcd,sim_var i⟩
theorem dm (i:Nat) {x:Str}{pos:Pos}(hN:X.N[i]? = some x:=by rfl) (hv:Vis X.env.scope x:=by first|exact Or.inl rfl|exact Or.inr (Or.inl rfl)|exact Or.inr (Or.inr rfl)) (hd:(x == ("__debug__":Str))=false:=by decide)
  (hcd:(x == ("__classdict__":Str))=false:=by decide):DE X (.Name x pos) (dMv i):=⟨_,y0g hN hv hd hcd,sim_mv i⟩
theorem de_glob {x:Str}{d:D}{v:V}{u:Value}{pos:Pos}(hs:∀ F,Rep F d v) (hg:Gl X x) (hm:X.mg x=some u) (r:RelV v u) (hd:(x == ("__debug__":Str))=false:=by decide):DE X (.Name x pos) (dC d):=⟨_,pe_glob hg hm r hd,sim_C hs⟩
theorem de_ty {x:Str}{n:String}{pos:Pos}(hg:Gl X x) (hm:X.mg x=none) (hv:bootBuiltins x=some (.type n)) (hn:x ≠ "__name__":=by decide) (hd:(x == ("__debug__":Str))=false:=by decide):DE X (.Name x pos) (dC (.ty n)):=⟨_,y0s (v:=.ty n) hg hm hv rfl hn hd,sim_C fun _=>rfl⟩
end
def OpS (r:R2) (f:D→D→(Bool→D→Prop)→Prop):Prop:=∀ (io:List (Option Addr)) (H0 F0 F:Hp) (δ:List Slot) (σ:St) (H:Hp) (x y:D) (v u:V) (Q:VK) (Qd:Bool→D→Prop),EI io H0 F0 F δ σ H→Pk F H x v→Pk F H y u→f x y Qd →
 (∀ b d w F' H',Same F F'→EI (none::io) H0 F0 F' (rsl b d::δ) (some w::σ) H'→Qd b d→Q w H')→r v u H Q
def dOp (f:D→D→(Bool→D→Prop)→Prop) (da db:TEd):TEd:=fun δ Q=>da δ fun _ x δ1=>db δ1 fun _ y δ2=>f x y fun b d=>Q b d δ2
def dOpV (f:D→D→(Bool→D→Prop)→Prop) (i:Nat) (db:TEd):TEd:=fun δ Q=>(peek δ i).isSome=true∧db δ fun _ y δ2=>∃ x,peek δ2 i=some x∧f x y fun b d=>Q b d δ2
def dOpW (f:D→D→(Bool→D→Prop)→Prop) (da:TEd) (j:Nat):TEd:=fun δ Q=>da δ fun _ x δ1=>∃ y,peek δ1 j=some y∧f x y fun b d=>Q b d δ1
theorem y6i {r:R2}{f:D→D→(Bool→D→Prop)→Prop}{ta tb:TE}{da db:TEd}(hs:OpS r f) (sa:Sim ta da) (sb:Sim tb db):Sim (tOp r ta tb) (dOp f da db):=by
 intro io H0 F0 F δ σ H Q Qd I q k
 refine sa.fz I q fun x v δ1 F1 H1 s1 I1 r1 q1=>sb.fz I1 q1 fun y u δ2 F2 H2 s2 I2 r2 q2=>?_
 exact hs io H0 F0 F2 δ2 σ H2 x y v u Q _ I2 (.inl (Rep.mono s2 _ _ r1)) (.inl r2) q2 fun b d w F' H' s' I' z=>k b d w δ2 F' H' ((s1.trans s2).trans s') I' z
theorem y4r {r:R2}{f:D→D→(Bool→D→Prop)→Prop}{tb:TE}{i:Nat}{db:TEd}(hs:OpS r f) (sb:Sim tb db):Sim (tOp r (tVar i) tb) (dOpV f i db):=by
 intro io H0 F0 F δ σ H Q Qd I q k
 obtain ⟨p0,q⟩:=q
 obtain ⟨d0,e0⟩:=Option.isSome_iff_exists.mp p0
 obtain ⟨v0,ev,_⟩:=I.pk e0
 refine ⟨v0,ev,?_⟩
 refine sb.fz I q fun y u δ2 F2 H2 s2 I2 r2 q2=>?_
 obtain ⟨x,ex,q2⟩:=q2
 obtain ⟨v,ev',pv⟩:=I2.pk ex
 rw [ev] at ev';cases ev'
 exact hs io H0 F0 F2 δ2 σ H2 x y _ u Q _ I2 pv (.inl r2) q2 fun b d w F' H' s' I' z=>k b d w δ2 F' H' (s2.trans s') I' z
theorem sim_opW {r:R2}{f:D→D→(Bool→D→Prop)→Prop}{ta:TE}{j:Nat}{da:TEd}(hs:OpS r f) (sa:Sim ta da):Sim (tOp r ta (tVar j)) (dOpW f da j):=by
 intro io H0 F0 F δ σ H Q Qd I q k
 refine sa.fz I q fun x v δ1 F1 H1 s1 I1 r1 q1=>?_
 obtain ⟨y,ey,q1⟩:=q1
 obtain ⟨u,eu,pu⟩:=I1.pk ey
 exact ⟨u,eu,hs io H0 F0 F1 δ1 σ H1 x y v u Q _ I1 (.inl r1) pu q1 fun b d w F' H' s' I' z=>k b d w δ1 F' H' (s1.trans s') I' z⟩
section
variable {X:Cx}{pos:Pos}{a b:Expr}{da db:TEd}{f:D→D→(Bool→D→Prop)→Prop}{r:R2}
theorem z0s {op:Operator}(hs:OpS r f) (ho:OpR X (binaryOp op) r) (ha:DE X a da) (hb:DE X b db):DE X (.BinOp a op b pos) (dOp f da db):=by
 obtain ⟨ta,pa,sa⟩:=ha;obtain ⟨tb,pb,sb⟩:=hb;exact ⟨_,y5m ho pa pb,y6i hs sa sb⟩
theorem de_cmp {op:CmpOp}(hs:OpS r f) (ho:OpR X (compareOp op) r) (ha:DE X a da) (hb:DE X b db) (hm:behindInMarks op b=false):DE X (.Compare a [op] [b] pos) (dOp f da db):=by
 obtain ⟨ta,pa,sa⟩:=ha;obtain ⟨tb,pb,sb⟩:=hb;exact ⟨_,z7a ho pa pb hm,y6i hs sa sb⟩
theorem y5i {op:CmpOp}{i:Nat}{x:Str}{p:Pos}(hs:OpS r f) (ho:OpR X (compareOp op) r) (ha:PE X (.Name x p) (tVar i)) (hb:DE X b db) (hm:behindInMarks op b=false):DE X (.Compare (.Name x p) [op] [b] pos) (dOpV f i db):=by
 obtain ⟨tb,pb,sb⟩:=hb;exact ⟨_,z7a ho ha pb hm,y4r hs sb⟩
theorem de_ix (hs:OpS r f) (ho:IxR X r) (ha:DE X a da) (hb:DE X b db) (h:y4c b):DE X (.Subscript a b pos) (dOp f da db):=by
 obtain ⟨ta,pa,sa⟩:=ha;obtain ⟨tb,pb,sb⟩:=hb;exact ⟨_,z4d ho pa pb h,y6i hs sa sb⟩
theorem z0y {i:Nat}{x:Str}{p:Pos}(hs:OpS r f) (ho:IxR X r) (ha:PE X (.Name x p) (tVar i)) (hb:DE X b db) (h:y4c b):DE X (.Subscript (.Name x p) b pos) (dOpV f i db):=by
 obtain ⟨tb,pb,sb⟩:=hb;exact ⟨_,z4d ho ha pb h,y4r hs sb⟩
end
section
def fI (g:Int→Int→D):D→D→(Bool→D→Prop)→Prop:=fun x y Q=>∃ i j,x = .int i∧y = .int j∧Q false (g i j)
def fIc (C:Int→Int→Prop) (g:Int→Int→D):D→D→(Bool→D→Prop)→Prop:=fun x y Q=>∃ i j,x = .int i∧y = .int j∧C i j∧Q false (g i j)
theorem os_I {g:Int→Int→V}{g':Int→Int→D}(h:∀ i j F,Rep F (g' i j) (g i j)):OpS (rI0 g) (fI g'):=by
 intro io H0 F0 F δ σ H x y v u Q Qd I px py q k
 obtain ⟨i,j,rfl,rfl,q⟩:=q
 exact ⟨i,j,px.int,py.int,k false _ _ F H (Same.refl _) (I.pushF (h i j F)) q⟩
theorem os_Ic {C:Int→Int→Prop}{g:Int→Int→V}{g':Int→Int→D}(h:∀ i j F,Rep F (g' i j) (g i j)):OpS (rI C g) (fIc C g'):=by
 intro io H0 F0 F δ σ H x y v u Q Qd I px py q k
 obtain ⟨i,j,rfl,rfl,c,q⟩:=q
 exact ⟨i,j,px.int,py.int,c,k false _ _ F H (Same.refl _) (I.pushF (h i j F)) q⟩
end
end VL
namespace VL
open PySem L2
section
variable {io:List (Option Addr)}{H0 F0 F:Hp}{δ:List Slot}{σ:St}{H:Hp}
theorem EI.pS {x:Str}(I:EI io H0 F0 F δ σ H):EI (none::io) H0 F0 F (rsl false (.str x)::δ) (some (.str x)::σ) H:=I.pushF rfl
theorem EI.pI {x:Int}(I:EI io H0 F0 F δ σ H):EI (none::io) H0 F0 F (rsl false (.int x)::δ) (some (.int x)::σ) H:=I.pushF rfl
theorem EI.pB {x:Bool}(I:EI io H0 F0 F δ σ H):EI (none::io) H0 F0 F (rsl false (.bl x)::δ) (some (.bl x)::σ) H:=I.pushF rfl
theorem EI.pN (I:EI io H0 F0 F δ σ H):EI (none::io) H0 F0 F (rsl false .non::δ) (some .non::σ) H:=I.pushF rfl
end
theorem z3l:OpS (rI0 fun i j=>.int (i+j)) (fI fun i j=>.int (i+j)):=os_I fun _ _ _=>rfl
theorem os_sub:OpS (rI0 fun i j=>.int (i - j)) (fI fun i j=>.int (i - j)):=os_I fun _ _ _=>rfl
theorem z7k:OpS (rI CMul fun i j=>.int (i * j)) (fIc CMul fun i j=>.int (i * j)):=os_Ic fun _ _ _=>rfl
theorem z1p:OpS (rI (fun _ j=>0 < j) fun i j=>.int (i % j)) (fIc (fun _ j=>0 < j) fun i j=>.int (i % j)):=os_Ic fun _ _ _=>rfl
theorem z2h:OpS (rI (fun _ j=>0 < j∧j.natAbs.log2 < 9000) fun i j=>.int (i / j)) (fIc (fun _ j=>0 < j∧j.natAbs.log2 < 9000) fun i j=>.int (i / j)):=os_Ic fun _ _ _=>rfl
theorem os_lt:OpS (rI0 fun i j=>.bl (decide (i < j))) (fI fun i j=>.bl (decide (i < j))):=os_I fun _ _ _=>rfl
theorem os_gt:OpS (rI0 fun i j=>.bl (decide (j < i))) (fI fun i j=>.bl (decide (j < i))):=os_I fun _ _ _=>rfl
theorem os_ge:OpS (rI0 fun i j=>.bl (decide (j≤i))) (fI fun i j=>.bl (decide (j≤i))):=os_I fun _ _ _=>rfl
def sEq:D→D→Option Bool
 |.int i,.int j=>some (decide (i=j))
 |.str i,.str j=>some (decide (i=j))
 |.bl i,.bl j=>some (decide (i=j))
 |.non,.non=>some true
 |.non,.int _=>some false | .int _,.non=>some false | .non,.str _=>some false | .str _,.non=>some false | .non,.bl _=>some false | .bl _,.non=>some false
 |.int _,.str _=>some false | .str _,.int _=>some false | .bl _,.str _=>some false | .str _,.bl _=>some false
 |_,_=>none
def fEq:D→D→(Bool→D→Prop)→Prop:=fun x y Q=>∃ b,sEq x y=some b∧Q false (.bl b)
def fNe:D→D→(Bool→D→Prop)→Prop:=fun x y Q=>∃ b,sEq x y=some b∧Q false (.bl (!b))
theorem y6a {F H:Hp}{x y:D}{v u:V}{b:Bool}(px:Pk F H x v) (py:Pk F H y u) (h:sEq x y=some b):scal v u=true∧decide (v=u)=b:=by
 cases x <;> cases y <;> simp only [sEq] at h <;> first
  |(cases h;fail)
  |(have e1:=px.int;have e2:=py.int;subst e1 e2;cases h;exact ⟨rfl,by simp⟩)
  |(have e1:=px.str;have e2:=py.str;subst e1 e2;cases h;exact ⟨rfl,by simp⟩)
  |(have e1:=px.bl;have e2:=py.bl;subst e1 e2;cases h;exact ⟨rfl,by simp⟩)
  |(have e1:=px.non;have e2:=py.non;subst e1 e2;cases h;exact ⟨rfl,by simp⟩)
  |(have e1:=px.non;have e2:=py.int;subst e1 e2;cases h;exact ⟨rfl,by simp⟩)
  |(have e1:=px.int;have e2:=py.non;subst e1 e2;cases h;exact ⟨rfl,by simp⟩)
  |(have e1:=px.non;have e2:=py.str;subst e1 e2;cases h;exact ⟨rfl,by simp⟩)
  |(have e1:=px.str;have e2:=py.non;subst e1 e2;cases h;exact ⟨rfl,by simp⟩)
  |(have e1:=px.non;have e2:=py.bl;subst e1 e2;cases h;exact ⟨rfl,by simp⟩)
  |(have e1:=px.bl;have e2:=py.non;subst e1 e2;cases h;exact ⟨rfl,by simp⟩)
  |(have e1:=px.int;have e2:=py.str;subst e1 e2;cases h;exact ⟨rfl,by simp⟩)
  |(have e1:=px.str;have e2:=py.int;subst e1 e2;cases h;exact ⟨rfl,by simp⟩)
  |(have e1:=px.bl;have e2:=py.str;subst e1 e2;cases h;exact ⟨rfl,by simp⟩)
  |(have e1:=px.str;have e2:=py.bl;subst e1 e2;cases h;exact ⟨rfl,by simp⟩)
  |(cases h)
theorem z4v:OpS rEq fEq:=by
 intro io H0 F0 F δ σ H x y v u Q Qd I px py q k
 obtain ⟨b,e,q⟩:=q
 obtain ⟨h1,h2⟩:=y6a px py e
 refine ⟨h1,k false (.bl b) _ F H (Same.refl _) (I.pushF ?_) q⟩
 rw [h2];rfl
theorem os_ne:OpS rNe fNe:=by
 intro io H0 F0 F δ σ H x y v u Q Qd I px py q k
 obtain ⟨b,e,q⟩:=q
 obtain ⟨h1,h2⟩:=y6a px py e
 refine ⟨h1,k false (.bl (!b)) _ F H (Same.refl _) (I.pushF ?_) q⟩
 rw [h2];rfl
def isNon:D→Bool
 |.non=>true
 |_=>false
theorem Rep.isNon {F H:Hp}{d:D}{v:V}(h:Pk F H d v):decide (v = .non)=VL.isNon d:=by
 rcases h with h|⟨a,rfl,h⟩
 ·cases d with
  |non=>cases (show v = .non from h);rfl
  |bl b=>cases (show v = .bl b from h);rfl
  |int b=>cases (show v = .int b from h);rfl
  |str b=>cases (show v = .str b from h);rfl
  |ty b=>cases (show v = .ty b from h);rfl
  |lst ds=>obtain ⟨a,vs,rfl,_⟩:=h;rfl
  |tup ds=>obtain ⟨a,vs,rfl,_⟩:=h;rfl
  |dct ds=>obtain ⟨a,vs,rfl,_⟩:=h;rfl
 ·cases d with
  |lst ds=>rfl
  |dct ds=>rfl
  |_=>exact h.elim
def fNotN:D→D→(Bool→D→Prop)→Prop:=fun x y Q=>y = .non∧Q false (.bl (!isNon x))
theorem os_notN:OpS (fun x y H Q=>y = .non∧Q (.bl (!decide (x = .non))) H) fNotN:=by
 intro io H0 F0 F δ σ H x y v u Q Qd I px py q k
 obtain ⟨rfl,q⟩:=q
 refine ⟨py.non,k false _ _ F H (Same.refl _) (I.pushF ?_) q⟩
 rw [Rep.isNon px];rfl
def fCatS:D→D→(Bool→D→Prop)→Prop:=fun x y Q=>∃ i j,x = .str i∧y = .str j∧i.length+j.length≤sizeLine∧Q false (.str (i ++ j))
theorem os_catS:OpS (fun x y H Q=>∃ i j,x = .str i∧y = .str j∧i.length+j.length≤sizeLine∧Q (.str (i ++ j)) H) fCatS:=by
 intro io H0 F0 F δ σ H x y v u Q Qd I px py q k
 obtain ⟨i,j,rfl,rfl,h,q⟩:=q
 exact ⟨i,j,px.str,py.str,h,k false _ _ F H (Same.refl _) I.pS q⟩
theorem EI.newL {io:List (Option Addr)}{H0 F0 F:Hp}{δ:List Slot}{σ:St}{H:Hp}{p:Addr}{ds:List D}{vs:List V}(I:EI io H0 F0 F δ σ H) (hp:H p=none) (r:Reps F ds vs):EI (none::io) H0 F0 F (rsl true (.lst ds)::δ) (some (.ref p)::σ) (upd H p (.lst vs)):=by
 refine (I.alloc hp).push ⟨p,rfl,I.base.free hp,I.sub.free hp,⟨vs,z0d,r⟩,fun z=>by cases z⟩ fun b c a es ev j b' c' ej eo=>?_
 cases ev
 obtain ⟨a',e1,_,_,h3,_⟩:=I.get j _ ej
 rw [eo] at e1;cases e1
 obtain ⟨u,hu⟩:=h3.some
 rw [hp] at hu;cases hu
theorem EI.newD {io:List (Option Addr)}{H0 F0 F:Hp}{δ:List Slot}{σ:St}{H:Hp}{p:Addr}{ds:List (Key × D)}{vs:List (Key × V)}(I:EI io H0 F0 F δ σ H) (hp:H p=none) (r:RepK F ds vs):EI (none::io) H0 F0 F (rsl true (.dct ds)::δ) (some (.ref p)::σ) (upd H p (.dK vs)):=by
 refine (I.alloc hp).push ⟨p,rfl,I.base.free hp,I.sub.free hp,⟨vs,z0d,r⟩,fun z=>by cases z⟩ fun b c a es ev j b' c' ej eo=>?_
 cases ev
 obtain ⟨a',e1,_,_,h3,_⟩:=I.get j _ ej
 rw [eo] at e1;cases e1
 obtain ⟨u,hu⟩:=h3.some
 rw [hp] at hu;cases hu
theorem EI.newT {io:List (Option Addr)}{H0 F0 F:Hp}{δ:List Slot}{σ:St}{H:Hp}{p:Addr}{ds:List D}{vs:List V}(I:EI io H0 F0 F δ σ H) (hp:H p=none) (r:Reps F ds vs):∃ F',Same F F'∧EI io H0 F0 F' δ σ (upd H p (.tup vs))∧Rep F' (.tup ds) (.ref p) :=
 ⟨upd F p (.tup vs),Same.of_new (I.sub.free hp),I.allocF hp,p,vs,rfl,z0d,Reps.mono (Same.of_new (I.sub.free hp)) _ _ r⟩
def fCat:D→D→(Bool→D→Prop)→Prop:=fun x y Q=>∃ xs ys,x = .lst xs∧y = .lst ys∧xs.length+ys.length≤sizeLine∧Q true (.lst (xs ++ ys))
theorem z4s:OpS rCat fCat:=by
 intro io H0 F0 F δ σ H x y v u Q Qd I px py q k
 obtain ⟨xs,ys,rfl,rfl,hl,q⟩:=q
 obtain ⟨a,vs,rfl,h1,r1⟩:=px.lst I
 obtain ⟨b,us,rfl,h2,r2⟩:=py.lst I
 exact ⟨a,b,vs,us,rfl,rfl,h1,h2,by rw [← r1.len,← r2.len];exact hl,fun p hp=>k true _ _ F _ (Same.refl _) (I.newL hp (r1.app r2)) q⟩
def fIxL:D→D→(Bool→D→Prop)→Prop:=fun x y Q=>∃ xs i d,x = .lst xs∧y = .int i∧atI xs i=some d∧Q false d
def fIxT:D→D→(Bool→D→Prop)→Prop:=fun x y Q=>∃ xs i d,x = .tup xs∧y = .int i∧atI xs i=some d∧Q false d
def fIxS:D→D→(Bool→D→Prop)→Prop:=fun x y Q=>∃ z i c,x = .str z∧y = .int i∧z.length≤sizeLine∧atI z.cps.toList i=some c∧Q false (.str ⟨#[c]⟩)
theorem Reps.atI {F:Hp}{ds:List D}{vs:List V}{i:Int}{d:D}(r:Reps F ds vs) (h:atI ds i=some d):∃ v,L2.atI vs i=some v∧Rep F d v:=by
 unfold L2.atI at h ⊢
 rw [← r.len]
 cases e:ixN ds.length i with
 |none=>rw [e] at h;cases h
 |some j=>rw [e] at h;exact r.get h
theorem z2u:OpS (fun x y H Q=>∃ p i,x = .ref p∧y = .int i∧∃ xs,H p=some (.lst xs)∧∃ v,atI xs i=some v∧Q v H) fIxL:=by
 intro io H0 F0 F δ σ H x y v u Q Qd I px py q k
 obtain ⟨xs,i,d,rfl,rfl,h,q⟩:=q
 obtain ⟨a,vs,rfl,h1,r1⟩:=px.lst I
 obtain ⟨w,e,r⟩:=r1.atI h
 exact ⟨a,i,rfl,py.int,vs,h1,w,e,k false d w F H (Same.refl _) (I.pushF r) q⟩
theorem z1l:OpS (fun x y H Q=>∃ p i,x = .ref p∧y = .int i∧∃ xs,H p=some (.tup xs)∧∃ v,atI xs i=some v∧Q v H) fIxT:=by
 intro io H0 F0 F δ σ H x y v u Q Qd I px py q k
 obtain ⟨xs,i,d,rfl,rfl,h,q⟩:=q
 obtain ⟨a,vs,rfl,h1,r1⟩:=px.tup I
 obtain ⟨w,e,r⟩:=r1.atI h
 exact ⟨a,i,rfl,py.int,vs,h1,w,e,k false d w F H (Same.refl _) (I.pushF r) q⟩
theorem os_ixS:OpS rIxS fIxS:=by
 intro io H0 F0 F δ σ H x y v u Q Qd I px py q k
 obtain ⟨z,i,c,rfl,rfl,hl,h,q⟩:=q
 exact ⟨z,i,c,px.str,py.int,hl,h,k false _ _ F H (Same.refl _) I.pS q⟩
mutual
def eqb:D→Bool
 |.int _=>true
 |.str _=>true
 |.lst xs=>eqbL xs
 |.tup xs=>eqbL xs
 |_=>false
def eqbL:List D→Bool
 | []=>true
 |d::r=>eqb d && eqbL r
end
mutual
def dep:D→Nat
 |.lst xs=>depL xs+1
 |.tup xs=>depL xs+1
 |_=>0
def depL:List D→Nat
 | []=>0
 |d::r=>max (dep d) (depL r)
end
mutual
theorem eqT_of {F H:Hp}(s:Same F H):∀ (d:D) (n:Nat) (v u:V),eqb d=true→dep d≤n→Rep F d v→Rep F d u→EqT H n v u
 |.int i,n,v,u,_,_,h1,h2=>by cases (show v = .int i from h1);cases (show u = .int i from h2);exact .int i
 |.str i,n,v,u,_,_,h1,h2=>by cases (show v = .str i from h1);cases (show u = .str i from h2);exact .str i
 |.lst ds,0,v,u,_,h,h1,h2=>by simp [dep] at h
 |.lst ds,n+1,v,u,he,hn,h1,h2=>by
  obtain ⟨a,vs,rfl,e1,r1⟩:=h1
  obtain ⟨b,us,rfl,e2,r2⟩:=h2
  exact .lst (s _ _ e1) (s _ _ e2) (by rw [← r1.len,← r2.len]) (z8r s ds n vs us (by simpa [eqb] using he) (by simp [dep] at hn;omega) r1 r2)
 |.tup ds,0,v,u,_,h,h1,h2=>by simp [dep] at h
 |.tup ds,n+1,v,u,he,hn,h1,h2=>by
  obtain ⟨a,vs,rfl,e1,r1⟩:=h1
  obtain ⟨b,us,rfl,e2,r2⟩:=h2
  exact .tup (s _ _ e1) (s _ _ e2) (by rw [← r1.len,← r2.len]) (z8r s ds n vs us (by simpa [eqb] using he) (by simp [dep] at hn;omega) r1 r2)
 |.non,n,v,u,h,_,h1,h2=>by simp [eqb] at h
 |.bl _,n,v,u,h,_,h1,h2=>by simp [eqb] at h
 |.ty _,n,v,u,h,_,h1,h2=>by simp [eqb] at h
 |.dct _,n,v,u,h,_,h1,h2=>by simp [eqb] at h
theorem z8r {F H:Hp}(s:Same F H):∀ (ds:List D) (n:Nat) (vs us:List V),eqbL ds=true→depL ds≤n→Reps F ds vs→Reps F ds us→∀ (i:Nat) x y,vs[i]? = some x→us[i]? = some y→EqT H n x y
 | [],n,vs,us,_,_,h1,h2,i,x,y,e1,e2=>by cases (show vs=[] from h1);simp at e1
 |d::ds,n,vs,us,he,hn,h1,h2,i,x,y,e1,e2=>by
  obtain ⟨v,r,rfl,q1,r1⟩:=h1
  obtain ⟨u,r',rfl,q2,r2⟩:=h2
  simp [eqbL] at he
  simp [depL] at hn
  cases i with
  |zero=>simp at e1 e2;subst e1 e2;exact eqT_of s d n v u he.1 (by omega) q1 q2
  |succ i=>exact z8r s ds n r r' he.2 (by omega) r1 r2 i x y (by simpa using e1) (by simpa using e2)
end
def fEqL:D→D→(Bool→D→Prop)→Prop:=fun x y Q=>∃ xs ys,x = .lst xs∧y = .lst ys∧((xs.length≠ys.length∧Q false (.bl false))∨(xs=ys∧eqbL xs=true∧depL xs≤90∧Q false (.bl true)))
def fNeL:D→D→(Bool→D→Prop)→Prop:=fun x y Q=>∃ xs ys,x = .lst xs∧y = .lst ys∧((xs.length≠ys.length∧Q false (.bl true))∨(xs=ys∧eqbL xs=true∧depL xs≤90∧Q false (.bl false)))
theorem z9m {X:Cx}(hu:X.A.units+100 < cLine):OpS (fun x y H Q=>∃ a b,x = .ref a∧y = .ref b∧∃ xs,H a=some (.lst xs)∧∃ ys,H b=some (.lst ys)∧X.A.units < cLine ∧
  ((xs.length≠ys.length∧Q (.bl false) H)∨(xs.length=ys.length∧(∃ n,(∀ (i:Nat) x y,xs[i]? = some x→ys[i]? = some y→EqT H n x y)∧X.A.units+n+1 < cLine)∧Q (.bl true) H))) fEqL:=by
 intro io H0 F0 F δ σ H x y v u Q Qd I px py q k
 obtain ⟨xs,ys,rfl,rfl,q⟩:=q
 obtain ⟨a,vs,rfl,h1,r1⟩:=px.lst I
 obtain ⟨b,us,rfl,h2,r2⟩:=py.lst I
 refine ⟨a,b,rfl,rfl,vs,h1,us,h2,by omega,?_⟩
 rcases q with ⟨hl,q⟩|⟨rfl,he,hd,q⟩
 ·exact .inl ⟨by rw [← r1.len,← r2.len];exact hl,k false _ _ F H (Same.refl _) I.pB q⟩
 ·exact .inr ⟨by rw [← r1.len,← r2.len],⟨90,z8r I.sub xs 90 vs us he hd r1 r2,by omega⟩,k false _ _ F H (Same.refl _) I.pB q⟩
theorem y2w {X:Cx}(hu:X.A.units+100 < cLine):OpS (fun x y H Q=>∃ a b,x = .ref a∧y = .ref b∧∃ xs,H a=some (.lst xs)∧∃ ys,H b=some (.lst ys)∧X.A.units < cLine ∧
  ((xs.length≠ys.length∧Q (.bl true) H)∨(xs.length=ys.length∧(∃ n,(∀ (i:Nat) x y,xs[i]? = some x→ys[i]? = some y→EqT H n x y)∧X.A.units+n+1 < cLine)∧Q (.bl false) H))) fNeL:=by
 intro io H0 F0 F δ σ H x y v u Q Qd I px py q k
 obtain ⟨xs,ys,rfl,rfl,q⟩:=q
 obtain ⟨a,vs,rfl,h1,r1⟩:=px.lst I
 obtain ⟨b,us,rfl,h2,r2⟩:=py.lst I
 refine ⟨a,b,rfl,rfl,vs,h1,us,h2,by omega,?_⟩
 rcases q with ⟨hl,q⟩|⟨rfl,he,hd,q⟩
 ·exact .inl ⟨by rw [← r1.len,← r2.len];exact hl,k false _ _ F H (Same.refl _) I.pB q⟩
 ·exact .inr ⟨by rw [← r1.len,← r2.len],⟨90,z8r I.sub xs 90 vs us he hd r1 r2,by omega⟩,k false _ _ F H (Same.refl _) I.pB q⟩
theorem Reps.strs {F:Hp}:∀ {ks:List Str}{vs:List V},Reps F (ks.map D.str) vs→vs=ks.map V.str
 | [],vs,h=>h
 |k::ks,vs,h=>by obtain ⟨v,r,rfl,h1,h2⟩:=h;rw [Reps.strs h2];cases (show v = .str k from h1);rfl
theorem Reps.ints {F:Hp}:∀ {ks:List Int}{vs:List V},Reps F (ks.map D.int) vs→vs=ks.map V.int
 | [],vs,h=>h
 |k::ks,vs,h=>by obtain ⟨v,r,rfl,h1,h2⟩:=h;rw [Reps.ints h2];cases (show v = .int k from h1);rfl
def fInL:D→D→(Bool→D→Prop)→Prop:=fun x y Q=>∃ (k:Str) (ks:List Str),x = .str k∧y = .lst (ks.map .str)∧Q false (.bl (decide (k∈ks)))
def fNotInL:D→D→(Bool→D→Prop)→Prop:=fun x y Q=>∃ (k:Str) (ks:List Str),x = .str k∧y = .lst (ks.map .str)∧Q false (.bl (!decide (k∈ks)))
def fInT:D→D→(Bool→D→Prop)→Prop:=fun x y Q=>∃ (k:Str) (ks:List Str),x = .str k∧y = .tup (ks.map .str)∧Q false (.bl (decide (k∈ks)))
theorem os_inL:OpS (fun x y H Q=>∃ p,y = .ref p∧∃ xs,H p=some (.lst xs)∧z4g x=true∧xs.all z4g=true∧Q (.bl (inV x xs)) H) fInL:=by
 intro io H0 F0 F δ σ H x y v u Q Qd I px py q k
 obtain ⟨s,ks,rfl,rfl,q⟩:=q
 obtain ⟨b,us,rfl,h2,r2⟩:=py.lst I
 cases px.str
 cases r2.strs
 refine ⟨b,rfl,_,h2,rfl,z8j ks,k false _ _ F H (Same.refl _) (I.pushF ?_) q⟩
 rw [y1i];rfl
theorem z6f:OpS (fun x y H Q=>∃ p,y = .ref p∧∃ xs,H p=some (.lst xs)∧z4g x=true∧xs.all z4g=true∧Q (.bl (!inV x xs)) H) fNotInL:=by
 intro io H0 F0 F δ σ H x y v u Q Qd I px py q k
 obtain ⟨s,ks,rfl,rfl,q⟩:=q
 obtain ⟨b,us,rfl,h2,r2⟩:=py.lst I
 cases px.str
 cases r2.strs
 refine ⟨b,rfl,_,h2,rfl,z8j ks,k false _ _ F H (Same.refl _) (I.pushF ?_) q⟩
 rw [y1i];rfl
theorem os_inT:OpS (fun x y H Q=>∃ p,y = .ref p∧∃ xs,H p=some (.tup xs)∧z4g x=true∧xs.all z4g=true∧Q (.bl (inV x xs)) H) fInT:=by
 intro io H0 F0 F δ σ H x y v u Q Qd I px py q k
 obtain ⟨s,ks,rfl,rfl,q⟩:=q
 obtain ⟨b,us,rfl,h2,r2⟩:=py.tup I
 cases px.str
 cases r2.strs
 refine ⟨b,rfl,_,h2,rfl,z8j ks,k false _ _ F H (Same.refl _) (I.pushF ?_) q⟩
 rw [y1i];rfl
end VL
namespace VL
open PySem L2
def z9e (td:TEd):TTd:=fun δ Q=>td δ fun _ d δ'=>∃ c,d = .bl c∧Q c δ'
theorem z7q {te:TE}{td:TEd}(s:Sim te td):SimT (tB te) (z9e td):=by
 intro io H0 F0 F δ σ H Q Qd I q k
 refine s.fz I q fun d v δ' F' H' sf I' r q'=>?_
 obtain ⟨c,rfl,q'⟩:=q'
 exact ⟨c,r,k c δ' F' H' sf I' q'⟩
theorem z7x {te:TE}{td:TEd}(s:Sim te td):SimT (y2n te) (z9e td):=z7q s
def dNot (t:TTd):TTd:=fun δ Q=>t δ fun c δ'=>Q (!c) δ'
def dAnd (t u:TTd):TTd:=fun δ Q=>t δ fun c δ'=>if c=true then u δ' Q else Q false δ'
def dOr (t u:TTd):TTd:=fun δ Q=>t δ fun c δ'=>if c=true then Q true δ' else u δ' Q
theorem simT_not {t:TT}{td:TTd}(s:SimT t td):SimT (tNot t) (dNot td):=fun io H0 F0 F δ σ H Q Qd I q k =>
 s io H0 F0 F δ σ H _ _ I q fun b δ' F' H' sf I' q'=>k (!b) δ' F' H' sf I' q'
theorem simT_and {t u:TT}{td ud:TTd}(s:SimT t td) (s':SimT u ud):SimT (tAnd t u) (dAnd td ud):=by
 intro io H0 F0 F δ σ H Q Qd I q k
 refine s io H0 F0 F δ σ H _ _ I q fun b δ' F' H' sf I' q'=>?_
 cases b with
 |true=>rw [if_pos rfl] at q' ⊢;exact s' io H0 F0 F' δ' σ H' _ _ I' q' fun b δ2 F2 H2 s2 I2 q2=>k b δ2 F2 H2 (sf.trans s2) I2 q2
 |false=>rw [if_neg Bool.false_ne_true] at q' ⊢;exact k false δ' F' H' sf I' q'
theorem simT_or {t u:TT}{td ud:TTd}(s:SimT t td) (s':SimT u ud):SimT (tOr t u) (dOr td ud):=by
 intro io H0 F0 F δ σ H Q Qd I q k
 refine s io H0 F0 F δ σ H _ _ I q fun b δ' F' H' sf I' q'=>?_
 cases b with
 |false=>rw [if_neg Bool.false_ne_true] at q' ⊢;exact s' io H0 F0 F' δ' σ H' _ _ I' q' fun b δ2 F2 H2 s2 I2 q2=>k b δ2 F2 H2 (sf.trans s2) I2 q2
 |true=>rw [if_pos rfl] at q' ⊢;exact k true δ' F' H' sf I' q'
def truD:D→Option Bool
 |.lst xs=>some (!xs.isEmpty)
 |.tup xs=>some (!xs.isEmpty)
 |.dct xs=>some (!xs.isEmpty)
 |.bl b=>some b
 |.int i=>some (i != 0)
 |.non=>some false
 |_=>none
theorem Reps.isEmpty {F:Hp}{ds:List D}{vs:List V}(h:Reps F ds vs):vs.isEmpty=ds.isEmpty:=by
 cases ds with
 |nil=>cases (show vs=[] from h);rfl
 |cons d ds=>obtain ⟨v,r,rfl,_⟩:=h;rfl
theorem RepK.isEmpty {F:Hp}{ds:List (Key × D)}{vs:List (Key × V)}(h:RepK F ds vs):vs.isEmpty=ds.isEmpty:=by
 cases ds with
 |nil=>cases (show vs=[] from h);rfl
 |cons d ds=>obtain ⟨v,r,rfl,_⟩:=h;rfl
theorem truV_of {K:PySem.W.Frag}{io:List (Option Addr)}{H0 F0 F:Hp}{δ:List Slot}{σ:St}{H:Hp}{d:D}{v:V}{b:Bool}(I:EI io H0 F0 F δ σ H) (p:Pk F H d v) (h:truD d=some b):TruV K v H b:=by
 cases d with
 |lst xs =>
  obtain ⟨a,vs,rfl,h1,r⟩:=p.lst I
  cases h
  exact .inl ⟨vs,SqL.of h1,by rw [r.isEmpty]⟩
 |tup xs =>
  obtain ⟨a,vs,rfl,h1,r⟩:=p.tup I
  cases h
  exact .inr (.inl ⟨vs,SqT.of h1,by rw [r.isEmpty]⟩)
 |dct xs =>
  obtain ⟨a,vs,rfl,h1,r⟩:=p.dct I
  cases h
  exact .inr (.inr ⟨vs,h1,by rw [r.isEmpty]⟩)
 |bl c=>cases p.bl;cases h;rfl
 |int c=>cases p.int;cases h;rfl
 |non=>cases p.non;cases h;rfl
 |str c=>cases h
 |ty c=>cases h
def dTruV (i:Nat):TTd:=fun δ Q=>∃ d c,peek δ i=some d∧truD d=some c∧Q c δ
section
variable {X:Cx}{pos:Pos}{a b:Expr}{da db:TEd}{f:D→D→(Bool→D→Prop)→Prop}{r:R2}{rest:List Expr}
theorem z9n (h:DE X a da) (he:∀ whole,isTrue a X.env whole=(do let v ← whole;standAt a.pos;holding [v] (truthy v)):=by intro _;rfl):DT X a (z9e da):=by
 obtain ⟨ta,pa,sa⟩:=h;exact ⟨_,z5b pa he,z7q sa⟩
theorem z1k {op:CmpOp}(hs:OpS r f) (ho:OpR X (compareOp op) r) (ha:DE X a da) (hb:DE X b db) (hm:behindInMarks op b=false):DT X (.Compare a [op] [b] pos) (z9e (dOp f da db)):=by
 obtain ⟨ta,pa,sa⟩:=ha;obtain ⟨tb,pb,sb⟩:=hb;exact ⟨_,z1f ho pa pb hm,z7x (y6i hs sa sb)⟩
theorem y0y {op:CmpOp}{i:Nat}{x:Str}{p:Pos}(hs:OpS r f) (ho:OpR X (compareOp op) r) (ha:PE X (.Name x p) (tVar i)) (hb:DE X b db) (hm:behindInMarks op b=false):DT X (.Compare (.Name x p) [op] [b] pos) (z9e (dOpV f i db)):=by
 obtain ⟨tb,pb,sb⟩:=hb;exact ⟨_,z1f ho ha pb hm,z7x (y4r hs sb)⟩
theorem dt_cmpW {op:CmpOp}{i:Nat}{x:Str}{p:Pos}(hs:OpS r f) (ho:OpR X (compareOp op) r) (ha:DE X a da) (hb:PE X (.Name x p) (tVar i)) (hm:behindInMarks op (.Name x p)=false):DT X (.Compare a [op] [.Name x p] pos) (z9e (dOpW f da i)):=by
 obtain ⟨ta,pa,sa⟩:=ha;exact ⟨_,z1f ho pa hb hm,z7x (sim_opW hs sa)⟩
theorem y2j {t:TTd}(h:DT X a t):DT X (.UnaryOp .Not a pos) (dNot t):=by obtain ⟨u,p,s⟩:=h;exact ⟨_,pt_not p,simT_not s⟩
theorem y1u {t:TTd}(h:DT X a t):DW X (.BoolOp .And [a] pos) t:=by obtain ⟨u,p,s⟩:=h;exact ⟨_,y1q p,s⟩
theorem dw_or1 {t:TTd}(h:DT X a t):DW X (.BoolOp .Or [a] pos) t:=by obtain ⟨u,p,s⟩:=h;exact ⟨_,pw_or1 p,s⟩
theorem y6j {t u:TTd}(h:DT X a t) (h':DW X (.BoolOp .And (b::rest) pos) u):DW X (.BoolOp .And (a::b::rest) pos) (dAnd t u):=by
 obtain ⟨t',p,s⟩:=h;obtain ⟨u',p',s'⟩:=h';exact ⟨_,y5z p p',simT_and s s'⟩
theorem dw_or {t u:TTd}(h:DT X a t) (h':DW X (.BoolOp .Or (b::rest) pos) u):DW X (.BoolOp .Or (a::b::rest) pos) (dOr t u):=by
 obtain ⟨t',p,s⟩:=h;obtain ⟨u',p',s'⟩:=h';exact ⟨_,pw_or p p',simT_or s s'⟩
theorem dt_w {t:TTd}(h:DW X a t):DT X a t:=by obtain ⟨u,p,s⟩:=h;exact ⟨_,p.pt,s⟩
theorem y3u {i:Nat}{x:Str}{p:Pos}(ha:PE X (.Name x p) (tVar i)) (he:∀ whole,isTrue (.Name x p) X.env whole=(do let v ← whole;standAt (Expr.Name x p).pos;holding [v] (truthy v)):=by intro _;rfl):DT X (.Name x p) (dTruV i):=by
 refine ⟨_,y1r ha he,fun io H0 F0 F δ σ H Q Qd I q k=>?_⟩
 obtain ⟨d,c,e,ec,q⟩:=q
 obtain ⟨v,ev,pk⟩:=I.pk e
 exact ⟨v,ev,c,truV_of I pk ec,k c δ F H (Same.refl _) I q⟩
def dAndV (ta tb:TEd):TEd:=fun δ Q=>ta δ fun _ x δ'=>∃ c,x = .bl c∧if c=true then tb δ' Q else Q false (.bl false) δ'
def dIf (t:TTd) (ta tb:TEd):TEd:=fun δ Q=>t δ fun c δ'=>if c=true then ta δ' Q else tb δ' Q
theorem de_one {op} (h:DE X a da):DE X (.BoolOp op [a] pos) da:=by obtain ⟨t,p,s⟩:=h;exact ⟨_,pe_one p,s⟩
theorem de_and (ha:DE X a da) (hb:DE X (.BoolOp .And (b::rest) pos) db):DE X (.BoolOp .And (a::b::rest) pos) (dAndV da db):=by
 obtain ⟨ta,pa,sa⟩:=ha;obtain ⟨tb,pb,sb⟩:=hb
 refine ⟨_,y5x pa pb,fun io H0 F0 F δ σ H Q Qd I q k=>sa.fz I q fun d v δ' F' H' sf I' r q'=>?_⟩
 obtain ⟨c,rfl,q'⟩:=q'
 refine ⟨c,r,?_⟩
 cases c with
 |true=>rw [if_pos rfl] at q' ⊢;exact sb io H0 F0 F' δ' σ H' Q Qd I' q' fun b d v δ2 F2 H2 s2 I2 q2=>k b d v δ2 F2 H2 (sf.trans s2) I2 q2
 |false=>rw [if_neg Bool.false_ne_true] at q' ⊢;exact k false _ _ δ' F' H' sf I'.pB q'
theorem de_if {c:Expr}{t:TTd}(hc:DT X c t) (ha:DE X a da) (hb:DE X b db):DE X (.IfExp c a b pos) (dIf t da db):=by
 obtain ⟨tc,pc,sc⟩:=hc;obtain ⟨ta,pa,sa⟩:=ha;obtain ⟨tb,pb,sb⟩:=hb
 refine ⟨_,pe_ifExp pc pa pb,fun io H0 F0 F δ σ H Q Qd I q k=>sc io H0 F0 F δ σ H _ _ I q fun c δ' F' H' sf I' q'=>?_⟩
 cases c with
 |true=>rw [if_pos rfl] at q' ⊢;exact sa io H0 F0 F' δ' σ H' Q Qd I' q' fun b d v δ2 F2 H2 s2 I2 q2=>k b d v δ2 F2 H2 (sf.trans s2) I2 q2
 |false=>rw [if_neg Bool.false_ne_true] at q' ⊢;exact sb io H0 F0 F' δ' σ H' Q Qd I' q' fun b d v δ2 F2 H2 s2 I2 q2=>k b d v δ2 F2 H2 (sf.trans s2) I2 q2
def dNeg (ta:TEd):TEd:=fun δ Q=>ta δ fun _ x δ'=>∃ i,x = .int i∧Q false (.int (-i)) δ'
theorem de_neg (ha:DE X a da):DE X (.UnaryOp .USub a pos) (dNeg da):=by
 obtain ⟨ta,pa,sa⟩:=ha
 refine ⟨_,pe_un un_neg pa,fun io H0 F0 F δ σ H Q Qd I q k=>sa.fz I q fun d v δ' F' H' sf I' r q'=>?_⟩
 obtain ⟨c,rfl,q'⟩:=q'
 exact ⟨c,r,k false _ _ δ' F' H' sf I'.pI q'⟩
def dNil:TLd:=fun δ Q=>Q [] δ
def dCons (t:TEd) (u:TLd):TLd:=fun δ Q=>t δ fun _ d δ'=>u δ' fun ds δ''=>Q (d::ds) δ''
theorem z0g:DL X [] dNil:=⟨_,z0j,fun io H0 F0 F δ σ H Q Qd I q k=>k [] [] δ F H (Same.refl _) I rfl q⟩
theorem z0a {es:List Expr}{u:TLd}(ha:DE X a da) (hr:DL X es u) (hs:starEach (a::es) X.env=(false,eval a X.env)::starEach es X.env:=by rfl):DL X (a::es) (dCons da u):=by
 obtain ⟨ta,pa,sa⟩:=ha;obtain ⟨tr,pr,sr⟩:=hr
 refine ⟨_,z0b pa pr hs,fun io H0 F0 F δ σ H Q Qd I q k=>sa.fz I q fun d v δ' F' H' sf I' r q'=>sr io H0 F0 F' δ' σ H' _ _ I' q' fun ds vs δ2 F2 H2 s2 I2 r2 q2=>?_⟩
 exact k (d::ds) (v::vs) δ2 F2 H2 (sf.trans s2) I2 ⟨v,vs,rfl,Rep.mono s2 _ _ r,r2⟩ q2
def dTup (u:TLd):TEd:=fun δ Q=>u δ fun ds δ'=>ds.length≤sizeLine∧Q false (.tup ds) δ'
def dLst (u:TLd):TEd:=fun δ Q=>u δ fun ds δ'=>ds.length≤sizeLine∧Q true (.lst ds) δ'
theorem z3a {x1} {es:List Expr}{u:TLd}(h:DL X es u):DE X (.Tuple es x1 pos) (dTup u):=by
 obtain ⟨t,p,s⟩:=h
 refine ⟨_,z3i p,fun io H0 F0 F δ σ H Q Qd I q k=>s io H0 F0 F δ σ H _ _ I q fun ds vs δ' F' H' sf I' r q'=>⟨by rw [← r.len];exact q'.1,fun p hp=>?_⟩⟩
 obtain ⟨F2,s2,I2,r2⟩:=I'.newT hp r
 exact k false _ _ δ' F2 _ (sf.trans s2) (I2.pushF r2) q'.2
theorem z1c {es:List Expr}{u:TLd}(h:DL X es u):DE X (.List es pos) (dLst u):=by
 obtain ⟨t,p,s⟩:=h
 exact ⟨_,z1y p,fun io H0 F0 F δ σ H Q Qd I q k=>s io H0 F0 F δ σ H _ _ I q fun ds vs δ' F' H' sf I' r q'=>⟨by rw [← r.len];exact q'.1,fun p hp=>k true _ _ δ' F' _ sf (I'.newL hp r) q'.2⟩⟩
end
def z8p (r:List V→Hp→VK→Prop) (f:List D→(Bool→D→Prop)→Prop):Prop:=∀ (io:List (Option Addr)) (H0 F0 F:Hp) (δ:List Slot) (σ:St) (H:Hp) (xs:List D) (vs:List V) (Q:VK) (Qd:Bool→D→Prop),EI io H0 F0 F δ σ H→Paired (Pk F H) xs vs→f xs Qd →
 (∀ b d w F' H',Same F F'→EI (none::io) H0 F0 F' (rsl b d::δ) (some w::σ) H'→Qd b d→Q w H')→r vs H Q
theorem Reps.pks {F H:Hp}:∀ {ds:List D}{vs:List V},Reps F ds vs→Paired (Pk F H) ds vs
 | [],vs,h=>by cases (show vs=[] from h);exact .nil
 |d::ds,vs,h=>by obtain ⟨v,r,rfl,h1,h2⟩:=h;exact .cons (.inl h1) (Reps.pks h2)
def dCB (f:List D→(Bool→D→Prop)→Prop) (u:TLd):TEd:=fun δ Q=>u δ fun ds δ'=>f ds fun b d=>Q b d δ'
def dCBV (f:List D→(Bool→D→Prop)→Prop) (i:Nat):TEd:=fun δ Q=>∃ d,peek δ i=some d∧f [d] fun b d=>Q b d δ
theorem sim_CB {r:List V→Hp→VK→Prop}{f:List D→(Bool→D→Prop)→Prop}{t:TA}{u:TLd}(hs:z8p r f) (s:SimL t u):Sim (tCB r t) (dCB f u):=fun io H0 F0 F δ σ H Q Qd I q k =>
 s io H0 F0 F δ σ H _ _ I q fun ds vs δ' F' H' sf I' r q'=>hs io H0 F0 F' δ' σ H' ds vs Q _ I' r.pks q' fun b d w F2 H2 s2 I2 q2=>k b d w δ' F2 H2 (sf.trans s2) I2 q2
theorem sim_CBV {r:List V→Hp→VK→Prop}{f:List D→(Bool→D→Prop)→Prop}{i:Nat}(hs:z8p r f):Sim (tCB r (z6e (tVar i) tNil)) (dCBV f i):=fun io H0 F0 F δ σ H Q Qd I q k=>by
 obtain ⟨d,e,q⟩:=q
 obtain ⟨v,ev,pk⟩:=I.pk e
 exact ⟨v,ev,hs io H0 F0 F δ σ H [d] [v] Q _ I (.cons pk .nil) q fun b d w F2 H2 s2 I2 q2=>k b d w δ F2 H2 s2 I2 q2⟩
section
variable {X:Cx}{pos p p':Pos}{e:Expr}{es:List Expr}{x y:Str}{u:TLd}{f:List D→(Bool→D→Prop)→Prop}{r:List V→Hp→VK→Prop}{id T:String}
theorem z4r (hs:z8p r f) (hc:z6d X (.builtin id) r) (hg:Gl X x) (hm:X.mg x=none) (hv:bootBuiltins x=some (.builtin id)) (ha:DL X (e::es) u) (hn:x ≠ "__name__":=by decide) (hdb:(x == ("__debug__":Str))=false:=by decide)
  (he:starEach (e::es) X.env=(false,eval e X.env)::starEach es X.env:=by rfl) (hpl:(backTo pos (starEach es X.env)).any (·.1)=false:=by rfl):DE X (.Call (.Name x p) (e::es) [] pos) (dCB f u):=by
 obtain ⟨t,pt,s⟩:=ha;exact ⟨_,z2z hc hg hm hv pt hn hdb he hpl,sim_CB hs s⟩
theorem z2g {i:Nat}(hs:z8p r f) (hc:z6d X (.builtin id) r) (hg:Gl X x) (hm:X.mg x=none) (hv:bootBuiltins x=some (.builtin id)) (ha:PE X (.Name y p') (tVar i)) (hn:x ≠ "__name__":=by decide) (hdb:(x == ("__debug__":Str))=false:=by decide)
  (he:starEach [.Name y p'] X.env=[(false,eval (.Name y p') X.env)]:=by rfl) (hpl:(backTo pos (starEach [] X.env)).any (·.1)=false:=by rfl):DE X (.Call (.Name x p) [.Name y p'] [] pos) (dCBV f i) :=
 ⟨_,z2z hc hg hm hv (z0b ha z0j he) hn hdb he hpl,sim_CBV hs⟩
theorem z4y (hs:z8p r f) (hc:z6d X (.type T) r) (hg:Gl X x) (hm:X.mg x=none) (hv:bootBuiltins x=some (.type T)) (ha:DL X (e::es) u) (hn:x ≠ "__name__":=by decide) (hdb:(x == ("__debug__":Str))=false:=by decide)
  (he:starEach (e::es) X.env=(false,eval e X.env)::starEach es X.env:=by rfl) (hpl:(backTo pos (starEach es X.env)).any (·.1)=false:=by rfl):DE X (.Call (.Name x p) (e::es) [] pos) (dCB f u):=by
 obtain ⟨t,pt,s⟩:=ha;exact ⟨_,z4m hc hg hm hv pt hn hdb he hpl,sim_CB hs s⟩
end
theorem pks1 {F H:Hp}{d:D}{vs:List V}(h:Paired (Pk F H) [d] vs):∃ v,vs=[v]∧Pk F H d v:=by
 cases h with
 |cons h t=>cases t;exact ⟨_,rfl,h⟩
theorem pks2 {F H:Hp}{d d':D}{vs:List V}(h:Paired (Pk F H) [d,d'] vs):∃ v v',vs=[v,v']∧Pk F H d v∧Pk F H d' v':=by
 cases h with
 |cons h t =>
  cases t with
  |cons h' t=>cases t;exact ⟨_,_,rfl,h,h'⟩
def fLenL:List D→(Bool→D→Prop)→Prop:=fun ds Q=>∃ xs,ds=[.lst xs]∧Q false (.int xs.length)
def fLenS:List D→(Bool→D→Prop)→Prop:=fun ds Q=>∃ z,ds=[.str z]∧z.length≤sizeLine∧Q false (.int z.length)
theorem z3r:z8p (fun xs H Q=>∃ p,xs=[.ref p]∧∃ ys,H p=some (.lst ys)∧Q (.int ys.length) H) fLenL:=by
 intro io H0 F0 F δ σ H xs vs Q Qd I px q k
 obtain ⟨ys,rfl,q⟩:=q
 obtain ⟨v,rfl,pk⟩:=pks1 px
 obtain ⟨a,us,rfl,h1,r⟩:=pk.lst I
 refine ⟨a,rfl,us,h1,k false (.int ys.length) _ F H (Same.refl _) (I.pushF ?_) q⟩
 rw [r.len];rfl
theorem cs_lenS:z8p (fun xs H Q=>∃ z,xs=[.str z]∧z.length≤sizeLine∧Q (.int z.length) H) fLenS:=by
 intro io H0 F0 F δ σ H xs vs Q Qd I px q k
 obtain ⟨z,rfl,hz,q⟩:=q
 obtain ⟨v,rfl,pk⟩:=pks1 px
 cases pk.str
 exact ⟨z,rfl,hz,k false _ _ F H (Same.refl _) I.pI q⟩
def tyD:D→String
 |.non=>"NoneType" | .bl _=>"bool" | .int _=>"int" | .str _=>"str" | .ty _=>"type" | .lst _=>"list" | .tup _=>"tuple" | .dct _=>"dict"
def isTy (t T:String):Bool:=t == T || (t == "bool" && T == "int")
def KitOk (K:PySem.W.Frag):Prop:=∀ t∈["str","int","bool","list","tuple","dict","NoneType"],∀ T∈["str","int","bool","list","tuple","dict"],PySem.W.kitOne K (.type t) (.type T)=some (isTy t T)
def fIsI:List D→(Bool→D→Prop)→Prop:=fun ds Q=>∃ d T,ds=[d,.ty T]∧tyD d ≠ "type"∧T∈["str","int","bool","list","tuple","dict"]∧Q false (.bl (isTy (tyD d) T))
theorem tyOf_pk {K:PySem.W.Frag}{io:List (Option Addr)}{H0 F0 F:Hp}{δ:List Slot}{σ:St}{H:Hp}{d:D}{v:V}(I:EI io H0 F0 F δ σ H) (p:Pk F H d v) (h:tyD d ≠ "type"):TyOf K H v (.type (tyD d)):=by
 cases d with
 |lst xs=>obtain ⟨a,vs,rfl,h1,r⟩:=p.lst I;exact .lst h1
 |tup xs=>obtain ⟨a,vs,rfl,h1,r⟩:=p.tup I;exact .tup h1
 |dct xs=>obtain ⟨a,vs,rfl,h1,r⟩:=p.dct I;exact .dK h1
 |bl c=>cases p.bl;exact .bl c
 |int c=>cases p.int;exact .int c
 |str c=>cases p.str;exact .str c
 |non=>cases p.non;exact .non
 |ty c=>exact absurd rfl h
theorem z9q {K:PySem.W.Frag}(hk:KitOk K):z8p (fun xs H Q=>∃ x T t b,xs=[x,.ty T]∧TyOf K H x t∧PySem.W.kitOne K t (.type T)=some b∧Q (.bl b) H) fIsI:=by
 intro io H0 F0 F δ σ H xs vs Q Qd I px q k
 obtain ⟨d,T,rfl,hd,hT,q⟩:=q
 obtain ⟨v,v',rfl,p1,p2⟩:=pks2 px
 have e:v' = .ty T:=by
  rcases p2 with h|⟨a,_,h⟩
  ·exact h
  ·exact h.elim
 subst e
 refine ⟨v,T,_,_,rfl,tyOf_pk I p1 hd,hk _ ?_ T hT,k false _ _ F H (Same.refl _) I.pB q⟩
 cases d <;> first|exact absurd rfl hd|simp [tyD]
def fListOf:List D→(Bool→D→Prop)→Prop:=fun ds Q=>∃ xs,ds=[.lst xs]∧Q true (.lst xs)
theorem cs_list:z8p (fun xs H Q=>∃ p,xs=[.ref p]∧∃ ys,H p=some (.lst ys)∧∀ l,H l=none→Q (.ref l) (upd H l (.lst ys))) fListOf:=by
 intro io H0 F0 F δ σ H xs vs Q Qd I px q k
 obtain ⟨ys,rfl,q⟩:=q
 obtain ⟨v,rfl,pk⟩:=pks1 px
 obtain ⟨a,us,rfl,h1,r⟩:=pk.lst I
 exact ⟨a,rfl,us,h1,fun l hl=>k true _ _ F _ (Same.refl _) (I.newL hl r) q⟩
def fInt1:List D→(Bool→D→Prop)→Prop:=fun ds Q=>(∃ i,ds=[.int i]∧Q false (.int i)) ∨ ∃ b,ds=[.bl b]∧Q false (.int (if b then 1 else 0))
theorem cs_int:z8p (fun xs H Q=>(∃ i,xs=[.int i]∧Q (.int i) H) ∨ ∃ k,xs=[.bl k]∧Q (.int (if k then 1 else 0)) H) fInt1:=by
 intro io H0 F0 F δ σ H xs vs Q Qd I px q k
 rcases q with ⟨i,rfl,q⟩|⟨b,rfl,q⟩
 ·obtain ⟨v,rfl,pk⟩:=pks1 px
  cases pk.int
  exact .inl ⟨i,rfl,k false _ _ F H (Same.refl _) I.pI q⟩
 ·obtain ⟨v,rfl,pk⟩:=pks1 px
  cases pk.bl
  exact .inr ⟨b,rfl,k false _ _ F H (Same.refl _) I.pI q⟩
def dRev (td:TEd):TEd:=fun δ Q=>td δ fun _ d δ'=>∃ xs,d = .lst xs∧Q true (.lst xs.reverse) δ'
theorem sim_rev {K:PySem.W.Frag}{te:TE}{td:TEd}(s:Sim te td):Sim (tRev K te) (dRev td):=fun io H0 F0 F δ σ H Q Qd I q k=>s.fz I q fun d v δ' F' H' sf I' r q'=>by
 obtain ⟨xs,rfl,q'⟩:=q'
 obtain ⟨a,vs,rfl,h1,r1⟩:=r
 exact ⟨a,vs,rfl,I'.sub _ _ h1,fun l hl=>k true _ _ δ' F' _ sf (I'.newL hl r1.rev) q'⟩
theorem z9r {X:Cx}{e:Expr}{td:TEd}{p1 p2 p3 pos:Pos}(hc:X.calm=true) (hgL:Gl X "list") (hmL:X.mg "list" = none) (hgR:Gl X "reversed") (hmR:X.mg "reversed" = none) (he:DE X e td)
  (hs1:starEach [.Call (.Name "reversed" p2) [e] [] p3] X.env=[(false,eval (.Call (.Name "reversed" p2) [e] [] p3) X.env)]:=by rfl) (hs2:starEach [e] X.env=[(false,eval e X.env)]:=by rfl) :
  DE X (.Call (.Name "list" p1) [.Call (.Name "reversed" p2) [e] [] p3] [] pos) (dRev td):=by
 obtain ⟨t,p,s⟩:=he;exact ⟨_,z9p hc hgL hmL hgR hmR p hs1 hs2,sim_rev s⟩
def MtS (r:V→List V→Hp→VK→Prop) (f:D→List D→(D→D→Prop)→Prop):Prop:=∀ (F H:Hp) (a:Addr) (c:D) (xs:List D) (vs:List V) (Q:VK) (Qd:D→D→Prop),Same F H→Cont F H a c→F a=none→Reps F xs vs→f c xs Qd →
 (∀ c' d w o,Cont F (upd H a o) a c'→Rep F d w→Qd c' d→Q w (upd H a o))→r (.ref a) vs H Q
def isL:D→Bool
 |.lst _=>true
 |_=>false
def dMt (f:D→List D→(D→D→Prop)→Prop) (i:Nat) (u:TLd):TEd:=fun δ Q=>((peek δ i).map isL=some true)∧u δ fun ds δ'=>∃ fl c,δ'[i]? = some (.ob fl c)∧f c ds fun c' d=>Q false d (δ'.set i (.ob fl c'))
theorem isL_ex {d:D}(h:isL d=true):∃ xs,d = .lst xs:=by cases d <;> first|exact ⟨_,rfl⟩|cases h
theorem sim_mt {r:V→List V→Hp→VK→Prop}{f:D→List D→(D→D→Prop)→Prop}{i:Nat}{t:TA}{u:TLd}(hs:MtS r f) (s:SimL t u):Sim (tLM r (tVar i) t) (dMt f i u):=fun io H0 F0 F δ σ H Q Qd I q k=>by
 obtain ⟨h0,q⟩:=q
 obtain ⟨d0,e0,e1⟩:=Option.map_eq_some_iff.mp h0
 obtain ⟨xs,rfl⟩:=isL_ex e1
 obtain ⟨v,ev,pk⟩:=I.pk e0
 obtain ⟨a,vs,rfl,h1,_⟩:=pk.lst I
 refine ⟨_,ev,a,rfl,⟨vs,h1⟩,s io H0 F0 F δ σ H _ _ I q fun ds us δ' F' H' sf I' r q'=>?_⟩
 obtain ⟨fl,c,ec,q'⟩:=q'
 obtain ⟨a',ea,n1,n2,hc,hio⟩:=I'.get i _ ec
 have:a' = a:=by
  have:=z2x ea
  rw [ev] at this;cases this;rfl
 subst this
 refine hs F' H' a' c ds us Q _ I'.sub hc n2 r q' fun c' d w o hc' rd qd=>?_
 exact k false d w _ F' _ sf ((I'.change ec ea hc').pushF rd) qd
theorem sim_mt0 {r:V→List V→Hp→VK→Prop}{f:D→List D→(D→D→Prop)→Prop}{i:Nat}(hs:MtS r f):Sim (tLM0 r (tVar i)) (dMt f i dNil):=fun io H0 F0 F δ σ H Q Qd I q k=>by
 obtain ⟨v,ev,a,e,h1,h2⟩:=(sim_mt (t:=tNil) (u:=dNil) hs fun io H0 F0 F δ σ H Q Qd I q k=>k [] [] δ F H (Same.refl _) I rfl q) io H0 F0 F δ σ H Q Qd I q k
 exact ⟨v,ev,a,e,h1,h2⟩
section
variable {X:Cx}{x name:Str}{p apos cpos:Pos}{e:Expr}{es:List Expr}{i:Nat}{u:TLd}{f:D→List D→(D→D→Prop)→Prop}{r:V→List V→Hp→VK→Prop}{id:String}
theorem de_mt0 (hs:MtS r f) (slot:PySem.Slot "list" name id) (hty:typeOf (.builtin id)=pure (.type "method_descriptor")) (hm:MtR X id r) (ho:PE X (.Name x p) (tVar i))
  (hbase:attributeBase (.Name x p) name X.env (eval (.Name x p) X.env)=eval (.Name x p) X.env:=by rfl) (hline:(apos.endLine == cpos.line)=true:=by rfl):DE X (.Call (.Attribute (.Name x p) name apos) [] [] cpos) (dMt f i dNil):=⟨_,pe_lm0 slot hty hm ho hbase hline,sim_mt0 hs⟩
theorem y1z (hs:MtS r f) (slot:PySem.Slot "list" name id) (hty:typeOf (.builtin id)=pure (.type "method_descriptor")) (hm:MtR X id r) (ho:PE X (.Name x p) (tVar i)) (ha:DL X (e::es) u)
  (hbase:attributeBase (.Name x p) name X.env (eval (.Name x p) X.env)=eval (.Name x p) X.env:=by rfl)
  (hfew:((backTo cpos (starEach (e::es) X.env)).all (fun x=>!x.1) && (backToKw cpos (keywordEach [] X.env)).all (fun x=>x.1.isSome)
   && decide ((e::es).length+([]:List Keyword).length+(if ([]:List Keyword).isEmpty then 0 else 1) < 30))=true:=by rfl)
  (hline:(apos.endLine == cpos.line)=true:=by rfl) (hst:starEach (e::es) X.env=(false,eval e X.env)::starEach es X.env:=by rfl) (hplain:(backTo cpos (starEach es X.env)).any (·.1)=false:=by rfl) :
  DE X (.Call (.Attribute (.Name x p) name apos) (e::es) [] cpos) (dMt f i u):=by
 obtain ⟨t,pt,s⟩:=ha;exact ⟨_,y2a slot hty hm ho pt hbase hfew hline hst hplain,sim_mt hs s⟩
end
def y3y:D→List D→(D→D→Prop)→Prop:=fun c ds Q=>∃ xs d,c = .lst xs∧ds=[d]∧xs.length < sizeLine∧Q (.lst (xs ++ [d])) .non
def y5a:D→List D→(D→D→Prop)→Prop:=fun c ds Q=>∃ xs ys,c = .lst xs∧ds=[.lst ys]∧xs.length+ys.length≤sizeLine∧Q (.lst (xs ++ ys)) .non
def fPop:D→List D→(D→D→Prop)→Prop:=fun c ds Q=>∃ xs d,c = .lst xs∧ds=[]∧xs[xs.length - 1]? = some d∧Q (.lst xs.dropLast) d
theorem Reps.one_inv {F:Hp}{d:D}{vs:List V}(h:Reps F [d] vs):∃ v,vs=[v]∧Rep F d v:=by
 obtain ⟨v,r,rfl,h1,h2⟩:=h
 cases (show r=[] from h2)
 exact ⟨v,rfl,h1⟩
theorem z3o:MtS z4e y3y:=by
 intro F H a c xs vs Q Qd s hc hf r q k
 obtain ⟨ys,d,rfl,rfl,hl,q⟩:=q
 obtain ⟨us,h1,r1⟩:=hc
 obtain ⟨v,rfl,rv⟩:=r.one_inv
 exact ⟨a,us,v,rfl,rfl,h1,by rw [← r1.len];exact hl,k (.lst _) .non .non _ ⟨_,z0d,r1.app (.one rv)⟩ rfl q⟩
theorem ms_extend:MtS z4q y5a:=by
 intro F H a c xs vs Q Qd s hc hf r q k
 obtain ⟨ys,d,rfl,rfl,hl,q⟩:=q
 obtain ⟨us,h1,r1⟩:=hc
 obtain ⟨v,rfl,b,ws,rfl,h2,r2⟩:=r.one_inv
 exact ⟨a,b,us,ws,rfl,rfl,h1,s _ _ h2,by rw [← r1.len,← r2.len];exact hl,k (.lst _) .non .non _ ⟨_,z0d,r1.app r2⟩ rfl q⟩
theorem ms_pop:MtS rPop fPop:=by
 intro F H a c xs vs Q Qd s hc hf r q k
 obtain ⟨ys,d,rfl,rfl,hl,q⟩:=q
 obtain ⟨us,h1,r1⟩:=hc
 cases (show vs=[] from r)
 obtain ⟨v,ev,rv⟩:=r1.get hl
 exact ⟨a,us,v,rfl,rfl,h1,by rw [← r1.len];exact ev,k (.lst _) d v _ ⟨_,z0d,r1.dropLast⟩ rv q⟩
end VL
namespace VL
open PySem L2
def dNext:TSd:=fun E δ=>E.nx δ
def dSeq (t u:TSd):TSd:=fun E δ=>t { E with nx:=u E } δ
def dRet (td:TEd):TSd:=fun E δ=>td δ E.rt
def dNever:TSd:=fun _ _=>False
def dDrop (td:TEd):TSd:=fun E δ=>td δ fun _ _ δ'=>E.nx δ'
def dIfS (c:TTd) (t u:TSd):TSd:=fun E δ=>c δ fun b δ'=>if b=true then t E δ' else u E δ'
def noIo (δ:List Slot) (i:Nat):Prop :=
 match δ[i]? with
 |some (.ob true _)=>False
 |none=>False
 |_=>True
theorem noIo.ne {δ:List Slot}{i:Nat}(h:noIo δ i):(∀ c,δ[i]? ≠ some (.ob true c))∧i < δ.length:=by
 unfold noIo at h
 split at h
 ·exact h.elim
 ·exact h.elim
 ·rename_i h1 h2
  refine ⟨fun c e=>h1 c e,?_⟩
  cases q:δ[i]? with
  |none=>exact absurd q h2
  |some s=>exact (List.getElem?_eq_some_iff.mp q).1
def dSet (i:Nat) (td:TEd):TSd:=fun E δ=>td δ fun b d δ'=>noIo δ' i∧E.nx (δ'.set i (rsl b d))
section
variable {X:Cx}{pos:Pos}{a b:Expr}{da db:TEd}
theorem simS_next:SimS y1a dNext:=fun io H0 F0 F δ σ H E Ed I q S=>S.nx F δ σ H (Same.refl _) I q
theorem simS_never:SimS z9t dNever:=fun io H0 F0 F δ σ H E Ed I q S=>q.elim
theorem simS_seq {t u:TS}{td ud:TSd}(s:SimS t td) (s':SimS u ud):SimS (tSeq t u) (dSeq td ud):=fun io H0 F0 F δ σ H E Ed I q S =>
 s io H0 F0 F δ σ H _ _ I q ⟨fun F' δ' σ' H' sf I' q'=>s' io H0 F0 F' δ' σ' H' E Ed I' q' (S.mono sf),S.rt,S.bk,S.ct⟩
theorem simS_ret {te:TE}{td:TEd}(s:Sim te td):SimS (tRet te) (dRet td):=fun io H0 F0 F δ σ H E Ed I q S =>
 s io H0 F0 F δ σ H _ _ I q fun b d v δ' F' H' sf I' q'=>S.rt b d v F' δ' σ H' sf I' q'
theorem simS_drop {te:TE}{td:TEd}(s:Sim te td):SimS (z9k te) (dDrop td):=fun io H0 F0 F δ σ H E Ed I q S =>
 s io H0 F0 F δ σ H _ _ I q fun b d v δ' F' H' sf I' q'=>S.nx F' δ' σ H' sf I'.pop q'
theorem simS_if {c:TT}{cd:TTd}{t u:TS}{td ud:TSd}(sc:SimT c cd) (s:SimS t td) (s':SimS u ud):SimS (tIfS c t u) (dIfS cd td ud):=fun io H0 F0 F δ σ H E Ed I q S =>
 sc io H0 F0 F δ σ H _ _ I q fun b δ' F' H' sf I' q'=>by
  cases b with
  |true=>rw [if_pos rfl] at q' ⊢;exact s io H0 F0 F' δ' σ H' E Ed I' q' (S.mono sf)
  |false=>rw [if_neg Bool.false_ne_true] at q' ⊢;exact s' io H0 F0 F' δ' σ H' E Ed I' q' (S.mono sf)
theorem y6q {te:TE}{td:TEd}{i:Nat}(s:Sim te td):SimS (tAsg te (z7n i)) (dSet i td):=fun io H0 F0 F δ σ H E Ed I q S =>
 s io H0 F0 F δ σ H _ _ I q fun b d v δ' F' H' sf I' q'=>by
  obtain ⟨h,q'⟩:=q'
  obtain ⟨h1,h2⟩:=h.ne
  exact S.nx F' _ _ H' sf (I'.setv h1 h2) q'
theorem z1a:DSs X [] dNext:=⟨_,z0t,simS_next⟩
theorem z0e {st:Stmt}{rest:List Stmt}{t u:TSd}(h:DS X st t) (h':DSs X rest u):DSs X (st::rest) (dSeq t u):=by
 obtain ⟨t,p,s⟩:=h;obtain ⟨t',p',s'⟩:=h';exact ⟨_,z0h p p',simS_seq s s'⟩
theorem z0i {st:Stmt}{t:TSd}(h:DS X st t):DSs X [st] t:=by obtain ⟨t,p,s⟩:=h;exact ⟨_,z0m p,s⟩
theorem z1u {st:Stmt}:DS X st dNever:=⟨_,z1z,simS_never⟩
theorem z0z (h:DE X a da):DS X (.Return (some a) pos) (dRet da):=by obtain ⟨t,p,s⟩:=h;exact ⟨_,z1q p,simS_ret s⟩
theorem z3q (h:DE X a da) (hs:swapsWith a none pos.line X.env=pure false:=by rfl):DS X (.Expr a pos) (dDrop da):=by obtain ⟨t,p,s⟩:=h;exact ⟨_,z1n p hs,simS_drop s⟩
theorem z2e {c:Expr}{x y:List Stmt}{cd:TTd}{t u:TSd}(hc:DT X c cd) (h:DSs X x t) (h':DSs X y u):DS X (.If c x y pos) (dIfS cd t u):=by
 obtain ⟨tc,pc,sc⟩:=hc;obtain ⟨t,p,s⟩:=h;obtain ⟨t',p',s'⟩:=h';exact ⟨_,z2d pc p p',simS_if sc s s'⟩
theorem z1d {i:Nat}{x:Str}{pos':Pos}(hN:X.N.Nodup) (hi:X.N[i]? = some x) (hx:Loc X.env.scope x) (he:DE X a da) (hs:swapsWith a (some (.Name x pos')) pos.line X.env=pure false:=by rfl) (hf:X.fn x=true∨X.env.scope.names.lookup x=some .local:=by first|exact .inl rfl|exact .inr rfl|assumption) :
  DS X (.Assign [.Name x pos'] a pos) (dSet i da):=by obtain ⟨t,p,s⟩:=he;exact ⟨_,z2f hN hi hx p hs hf,y6q s⟩
def dgN (i:Nat):TGd:=fun d δ Q=>noIo δ i∧Q (δ.set i (.fz d))
abbrev TGsd:=List D→List Slot→(List Slot→Prop)→Prop
def dgNil:TGsd:=fun ds δ Q=>ds=[]∧Q δ
def z8i (g:TGd) (u:TGsd):TGsd:=fun ds δ Q=>∃ d r,ds=d::r∧g d δ fun δ'=>u r δ' Q
def dgTup (n:Nat) (u:TGsd):TGd:=fun d δ Q=>∃ ds,d = .tup ds∧ds.length=n∧u ds δ Q
def SimGs (g:TGs) (gd:TGsd):Prop:=∀ (io:List (Option Addr)) (H0 F0 F:Hp) (δ:List Slot) (σ:St) (H:Hp) (ds:List D) (vs:List V) (Q:St→Hp→Prop) (Qd:List Slot→Prop),EI io H0 F0 F δ σ H→Reps F ds vs→gd ds δ Qd →
 (∀ δ' σ',EI io H0 F0 F δ' σ' H→Qd δ'→Q σ' H)→g vs σ H Q
def DGs (X:Cx) (es:List Expr) (gd:TGsd):Prop:=∃ g,PGs X es g∧SimGs g gd
theorem simG_name (i:Nat):SimG (z7n i) (dgN i):=fun io H0 F0 F δ σ H d v Q Qd I r q k=>by
 obtain ⟨h,q⟩:=q
 obtain ⟨h1,h2⟩:=h.ne
 exact k _ _ ((I.pushF r).setv (b:=false) h1 h2) q
theorem z1i {i:Nat}{x:Str}(hN:X.N.Nodup) (hi:X.N[i]? = some x) (hx:Loc X.env.scope x) (hf:X.fn x=true∨X.env.scope.names.lookup x=some .local:=by first|exact .inl rfl|exact .inr rfl|assumption):DG X (.Name x pos) (dgN i):=⟨_,z4b hN hi hx hf,simG_name i⟩
theorem z5z:DGs X [] dgNil:=⟨_,z7v,fun io H0 F0 F δ σ H ds vs Q Qd I r q k=>by
 obtain ⟨rfl,q⟩:=q
 exact ⟨r,k _ _ I q⟩⟩
theorem z2k {e:Expr}{es:List Expr}{g:TGd}{u:TGsd}(h1:DG X e g) (h2:DGs X es u)
  (hs:(assignEach (e::es) X.env).map (·.2)=assign e X.env::(assignEach es X.env).map (·.2):=by rfl):DGs X (e::es) (z8i g u):=by
 obtain ⟨t,p,s⟩:=h1;obtain ⟨t',p',s'⟩:=h2
 refine ⟨_,z3x p p' hs,fun io H0 F0 F δ σ H ds vs Q Qd I r q k=>?_⟩
 obtain ⟨d,dr,rfl,q⟩:=q
 obtain ⟨v,vr,rfl,r1,r2⟩:=r
 exact ⟨v,vr,rfl,s io H0 F0 F δ σ H d v _ _ I r1 q fun δ' σ' I' q'=>s' io H0 F0 F δ' σ' H dr vr Q Qd I' r2 q' k⟩
theorem z8 {es:List Expr}{k:Nat}{u:TGsd}{n:Nat}(hc:X.calm=true) (h:DGs X es u)
  (hn:(assignEach es X.env).length=n:=by rfl) (hst:(assignEach es X.env).findIdx? (·.1)=none:=by rfl):DG X (.Tuple es k pos) (dgTup n u):=by
 obtain ⟨t,p,s⟩:=h
 refine ⟨_,y2q hc p hn hst,fun io H0 F0 F δ σ H d v Q Qd I r q k=>?_⟩
 obtain ⟨ds,rfl,hl,q⟩:=q
 obtain ⟨a,vs,rfl,h1,r1⟩:=r
 exact ⟨a,vs,rfl,SqT.of (I.sub _ _ h1),by rw [← r1.len];exact hl,s io H0 F0 F δ σ H ds vs Q Qd I r1 q k⟩
def dAsg (td:TEd) (g:TGd):TSd:=fun E δ=>td δ fun _ d δ'=>g d δ' E.nx
theorem ds_asg {tg:Expr}{g:TGd}(he:DE X a da) (hg:DG X tg g) (hs:swapsWithSole [tg] a pos.line X.env=pure false:=by rfl) (hw:swappedStores [tg] a X.env=pure none:=by rfl)
  (h1:(assignEach [tg] X.env).map (·.2)=[assign tg X.env]:=by rfl):DS X (.Assign [tg] a pos) (dAsg da g):=by
 obtain ⟨t,p,s⟩:=he;obtain ⟨t',p',s'⟩:=hg
 exact ⟨_,ps_asg p p' hs hw h1,fun io H0 F0 F δ σ H E Ed I q S=>s.fz I q fun d v δ' F' H' sf I' r q'=>s' io H0 F0 F' δ' σ H' d v _ _ I' r q' fun δ2 σ2 I2 q2=>S.nx F' δ2 σ2 H' sf I2 q2⟩
def dSetL (i:Nat) (ti tv:TEd):TSd:=fun E δ=>tv δ fun _ v δ1=>(peek δ1 i).isSome=true∧ti δ1 fun _ y δ2=>∃ fl xs k j,δ2[i]? = some (.ob fl (.lst xs))∧y = .int k∧ixN xs.length k=some j∧E.nx (δ2.set i (.ob fl (.lst (xs.set j v))))
theorem ds_setL {i:Nat}{x:Str}{p pos':Pos}{ie ve:Expr}{ti tv:TEd}(ho:PE X (.Name x p) (tVar i)) (hi:DE X ie ti) (hv:DE X ve tv) (ha:∀ v,assign (.Subscript (.Name x p) ie pos') X.env v=(do
   let ov ← holding [v] (eval (.Name x p) X.env)
   let iv ← holding [v,ov] (eval ie X.env)
   standAt pos'
   holding [v,ov,iv] (setItem ov iv v)
   release [v,ov,iv] []):=by intro _;rfl) (hs:swapsWithSole [.Subscript (.Name x p) ie pos'] ve pos.line X.env=pure false:=by rfl) (hw:swappedStores [.Subscript (.Name x p) ie pos'] ve X.env=pure none:=by rfl)
  (h1:(assignEach [.Subscript (.Name x p) ie pos'] X.env).map (·.2)=[assign (.Subscript (.Name x p) ie pos') X.env]:=by rfl):DS X (.Assign [.Subscript (.Name x p) ie pos'] ve pos) (dSetL i ti tv):=by
 obtain ⟨t,pi,si⟩:=hi;obtain ⟨t',pv,sv⟩:=hv
 refine ⟨_,ps_asg pv (pg_sub ho pi set_list ha) hs hw h1,fun io H0 F0 F δ σ H E Ed I q S=>sv.fz I q fun d v δ1 F1 H1 s1 I1 r1 q1=>?_⟩
 obtain ⟨p0,q1⟩:=q1
 obtain ⟨d0,e0⟩:=Option.isSome_iff_exists.mp p0
 obtain ⟨v0,ev,_⟩:=I1.pk e0
 refine ⟨v0,ev,si.fz I1 q1 fun y u δ2 F2 H2 s2 I2 r2 q2=>?_⟩
 obtain ⟨fl,xs,k,j,ec,rfl,hj,q2⟩:=q2
 obtain ⟨a',ea,n1,n2,⟨vs,hc,rc⟩,hio⟩:=I2.get i _ ec
 have e:=z2x ea
 rw [ev] at e;cases e
 exact ⟨a',vs,k,j,rfl,r2,hc,by rw [← rc.len];exact hj,S.nx F2 _ σ _ (s1.trans s2) (I2.change (c':=.lst (xs.set j d)) ec ea ⟨_,z0d,rc.set (Rep.mono s2 _ _ r1) j⟩) q2⟩
def ItOk (J:It) (F:Hp) (ds:List D):Prop:=∀ (io:List (Option Addr)) (H0 F0 F':Hp) (δ:List Slot) (σ:St) (H':Hp),Same F F'→EI io H0 F0 F' δ σ H'→∀ i,
 (∀ d,ds[i]? = some d→J.go i H'∧∀ x H'',J.yld i H' x H''→∃ F'',Same F' F''∧EI io H0 F0 F'' δ σ H''∧Rep F'' d x)∧(i=ds.length→J.stop i H')
def SimI (wi:TI) (di:TLd):Prop:=∀ (io:List (Option Addr)) (H0 F0 F:Hp) (δ:List Slot) (σ:St) (H:Hp) (R:It→Hp→Prop) (Qd:List D→List Slot→Prop),EI io H0 F0 F δ σ H→di δ Qd →
 (∀ J ds δ' F' H',Same F F'→EI io H0 F0 F' δ' σ H'→ItOk J F' ds→Qd ds δ'→R J H')→wi σ H R
def DI (X:Cx) (tg e:Expr) (di:TLd):Prop:=∃ wi,PI X tg e wi∧SimI wi di
def diList (td:TEd):TLd:=fun δ Q=>td δ fun _ d δ'=>∃ ds,d = .lst ds∧Q ds δ'
theorem itOk_list {K:PySem.W.Frag}{F:Hp}{a:Addr}{vs:List V}{ds:List D}(h:F a=some (.lst vs)) (r:Reps F ds vs):ItOk (Itl K a) F ds:=by
 intro io H0 F0 F' δ σ H' sf I i
 have hH:H' a=some (.lst vs):=I.sub _ _ (sf _ _ h)
 refine ⟨fun d e=>?_,fun e=>?_⟩
 ·obtain ⟨v,ev,rv⟩:=r.get e
  refine ⟨⟨vs,v,SqL.of hH,ev⟩,fun x H'' y=>?_⟩
  obtain ⟨e1,y⟩:=y
  subst e1
  have:=y vs (SqL.of hH)
  rw [ev] at this
  cases this
  exact ⟨F',Same.refl _,I,Rep.mono sf _ _ rv⟩
 ·exact ⟨vs,SqL.of hH,by rw [e,r.len];exact Nat.le_refl _⟩
theorem z2i {tg:Expr}(h:DE X a da):DI X tg a (diList da):=by
 obtain ⟨t,p,s⟩:=h
 refine ⟨_,z8f p,fun io H0 F0 F δ σ H R Qd I q k=>s.fz I q fun d v δ' F' H' sf I' r q'=>?_⟩
 obtain ⟨ds,rfl,q'⟩:=q'
 obtain ⟨a,vs,rfl,h1,r1⟩:=r
 exact ⟨a,rfl,⟨vs,SqL.of (I'.sub _ _ h1)⟩,k _ ds δ' F' H' sf I' (itOk_list h1 r1) q'⟩
def rngD (lo:Int) (n:Nat):List D:=(List.range n).map fun (k:Nat)=>D.int (lo+(k:Int))
def diRng1 (u:TLd):TLd:=fun δ Q=>u δ fun ds δ'=>∃ j:Int,ds=[.int j]∧-(2 ^ 62)≤j∧j < 2 ^ 62∧Q (rngD 0 j.toNat) δ'
theorem itOk_rng {F:Hp}(lo:Int) (n:Nat):ItOk (Itr lo n) F (rngD lo n):=by
 intro io H0 F0 F' δ σ H' sf I i
 refine ⟨fun d e=>?_,fun e=>?_⟩
 ·have hi:i < n:=by
   have:=(List.getElem?_eq_some_iff.mp e).1
   simpa [rngD] using this
  have ed:d = .int (lo+(i:Int)):=by
   simp [rngD,hi] at e
   exact e.symm
  subst ed
  refine ⟨by simpa [Itr] using hi,fun x H'' y=>?_⟩
  have y':x = .int (lo+(i:Int))∧H'' = H':=by
   obtain ⟨y1,y2⟩:=y
   first
    |exact ⟨y1,y2⟩
    |exact ⟨y2,y1⟩
    |exact ⟨y1,y2.symm⟩
  obtain ⟨rfl,rfl⟩:=y'
  exact ⟨F',Same.refl _,I,rfl⟩
 ·simp [rngD] at e
  subst e
  simp [Itr]
theorem z2q {tg e:Expr}{u:TLd}{p pos:Pos}(hg:Gl X "range") (hm:X.mg "range" = none) (ha:DL X [e] u) (hs:starEach [e] X.env=[(false,eval e X.env)]:=by rfl):DI X tg (.Call (.Name "range" p) [e] [] pos) (diRng1 u):=by
 obtain ⟨t,pt,s⟩:=ha
 refine ⟨_,pi_range1 hg hm pt hs,fun io H0 F0 F δ σ H R Qd I q k=>s io H0 F0 F δ σ H _ _ I q fun ds vs δ' F' H' sf I' r q'=>?_⟩
 obtain ⟨j,rfl,h1,h2,q'⟩:=q'
 obtain ⟨v,rfl,rv⟩:=r.one_inv
 cases (show v = .int j from rv)
 exact ⟨j,rfl,h1,h2,k _ _ δ' F' H' sf I' (itOk_rng 0 _) q'⟩
def fgt:List Nat→List Slot→List Slot
 | [],δ=>δ
 |i::is,δ=>fgt is (δ.set i .no)
theorem EI.fgt {io:List (Option Addr)}{H0 F0 F H:Hp}{σ:St}:∀ (is:List Nat) {δ:List Slot},EI io H0 F0 F δ σ H→EI io H0 F0 F (VL.fgt is δ) σ H
 | [],_,I=>I
 |i::is,_,I=>EI.fgt is I.forget
def dFor (di:TLd) (g:TGd) (tb:TSd):TSd:=fun E δ=>di δ fun ds δ'=>∃ (fg:List Nat) (P:List D→List Slot→Prop),P ds (fgt fg δ') ∧
 (∀ d r δ,P (d::r) δ→g d δ fun δ2=>tb { E with nx:=fun δ'=>P r (fgt fg δ'),ct:=fun δ'=>P r (fgt fg δ'),bk:=E.nx } δ2)∧∀ δ,P [] δ→E.nx δ
theorem simS_for {wi:TI}{di:TLd}{g:TG}{gd:TGd}{tb:TS}{td:TSd}(si:SimI wi di) (sg:SimG g gd) (s:SimS tb td):SimS (tFor wi g tb) (dFor di gd td):=by
 intro io H0 F0 F δ σ H E Ed I q S
 refine si io H0 F0 F δ σ H _ _ I q fun J ds δ' F' H' sf I' ok q'=>?_
 obtain ⟨fg,P,p0,step,fin⟩:=q'
 refine ⟨fun i m σ H=>m=ds.length - i∧i≤ds.length∧∃ F1 δ1,Same F' F1∧EI io H0 F0 F1 δ1 σ H∧P (ds.drop i) δ1,⟨ds.length,by simp,Nat.zero_le _,F',_,Same.refl _,I'.fgt fg,p0⟩,?_⟩
 rintro i m σ1 H1 ⟨rfl,hi,F1,δ1,s1,I1,p1⟩
 obtain ⟨o1,o2⟩:=ok io H0 F0 F1 δ1 σ1 H1 s1 I1 i
 by_cases hlt:i < ds.length
 ·have ed:ds[i]? = some ds[i]:=by simp [hlt]
  have edr:ds.drop i=ds[i]::ds.drop (i+1):=List.drop_eq_getElem_cons hlt
  rw [edr] at p1
  obtain ⟨go,yl⟩:=o1 _ ed
  refine .inr ⟨go,fun σ' H'=>∃ F2 δ2,Same F' F2∧EI io H0 F0 F2 δ2 σ' H'∧P (ds.drop (i+1)) δ2,fun σ' H' hN=>⟨ds.length - (i+1),by omega,rfl,hlt,hN⟩,fun x H2 y=>?_⟩
  obtain ⟨F2,s2,I2,r2⟩:=yl x H2 y
  refine sg io H0 F0 F2 δ1 σ1 H2 _ x _ _ I2 r2 (step _ _ δ1 p1) fun δ3 σ3 I3 q3=>?_
  refine s io H0 F0 F2 δ3 σ3 H2 _ _ I3 q3 ⟨fun F4 δ4 σ4 H4 s4 I4 q4=>⟨F4,_,(s1.trans s2).trans s4,I4.fgt fg,q4⟩,fun b d v F4 δ4 σ4 H4 s4 I4 q4=>S.rt b d v F4 δ4 σ4 H4 (((sf.trans s1).trans s2).trans s4) I4 q4,fun F4 δ4 σ4 H4 s4 I4 q4=>S.nx F4 δ4 σ4 H4 (((sf.trans s1).trans s2).trans s4) I4 q4,fun F4 δ4 σ4 H4 s4 I4 q4=>⟨F4,_,(s1.trans s2).trans s4,I4.fgt fg,q4⟩⟩
 ·have e:i=ds.length:=by omega
  subst e
  rw [List.drop_length] at p1
  exact .inl ⟨o2 rfl,S.nx F1 δ1 σ1 H1 (sf.trans s1) I1 (fin δ1 p1)⟩
theorem z2t {tg iter:Expr}{body:List Stmt}{di:TLd}{gd:TGd}{td:TSd}(hp:PassesOwn (model X.prog X.w) X.A X.env X.xe) (hc:X.calm=true) (hi:DI X tg iter di) (hg:DG X tg gd) (hb:DSs X body td)
  (hs:∀ x,foldedSetIterable iter X.env x=pure x:=by intro _;rfl):DS X (.For tg iter body [] pos) (dFor di gd td):=by
 obtain ⟨wi,p1,s1⟩:=hi;obtain ⟨g,p2,s2⟩:=hg;obtain ⟨t,p3,s3⟩:=hb
 exact ⟨_,ps_for hp hc p1 p2 p3 hs,simS_for s1 s2 s3⟩
def dWhile (c:TTd) (tb:TSd):TSd:=fun E δ=>∃ (fg:List Nat) (P:List Slot→Prop) (μ:List Slot→Nat),P (fgt fg δ)∧∀ δ,P δ→c δ fun b δ'=>if b=true then tb { E with nx:=fun δ2=>P (fgt fg δ2)∧μ (fgt fg δ2) < μ δ,ct:=fun δ2=>P (fgt fg δ2)∧μ (fgt fg δ2) < μ δ,bk:=E.nx } δ' else E.nx δ'
theorem y6z {c:TT}{cd:TTd}{tb:TS}{td:TSd}(sc:SimT c cd) (s:SimS tb td):SimS (tWhile c tb) (dWhile cd td):=by
 intro io H0 F0 F δ σ H E Ed I q S
 obtain ⟨fg,P,μ,p0,step⟩:=q
 refine ⟨fun m σ H=>∃ F1 δ1,Same F F1∧EI io H0 F0 F1 δ1 σ H∧P δ1∧μ δ1=m,⟨_,F,_,Same.refl _,I.fgt fg,p0,rfl⟩,?_⟩
 rintro m σ1 H1 ⟨F1,δ1,s1,I1,p1,rfl⟩
 refine sc io H0 F0 F1 δ1 σ1 H1 _ _ I1 (step δ1 p1) fun b δ2 F2 H2 s2 I2 q2=>?_
 cases b with
 |false=>rw [if_neg Bool.false_ne_true] at q2 ⊢;exact S.nx F2 δ2 σ1 H2 (s1.trans s2) I2 q2
 |true =>
  rw [if_pos rfl] at q2 ⊢
  refine ⟨fun σ' H'=>∃ F3 δ3,Same F F3∧EI io H0 F0 F3 δ3 σ' H'∧P δ3∧μ δ3 < μ δ1,fun σ' H' ⟨F3,δ3,h1,h2,h3,h4⟩=>⟨μ δ3,h4,F3,δ3,h1,h2,h3,rfl⟩,?_⟩
  exact s io H0 F0 F2 δ2 σ1 H2 _ _ I2 q2 ⟨fun F4 δ4 σ4 H4 s4 I4 q4=>⟨F4,_,(s1.trans s2).trans s4,I4.fgt fg,q4.1,q4.2⟩,fun b d v F4 δ4 σ4 H4 s4 I4 q4=>S.rt b d v F4 δ4 σ4 H4 ((s1.trans s2).trans s4) I4 q4,fun F4 δ4 σ4 H4 s4 I4 q4=>S.nx F4 δ4 σ4 H4 ((s1.trans s2).trans s4) I4 q4,fun F4 δ4 σ4 H4 s4 I4 q4=>⟨F4,_,(s1.trans s2).trans s4,I4.fgt fg,q4.1,q4.2⟩⟩
theorem ds_while {c:Expr}{body:List Stmt}{cd:TTd}{td:TSd}(hp:PassesOwn (model X.prog X.w) X.A X.env X.xe) (hc:DT X c cd) (hb:DSs X body td):DS X (.While c body [] pos) (dWhile cd td):=by
 obtain ⟨t1,p1,s1⟩:=hc;obtain ⟨t,p3,s3⟩:=hb
 exact ⟨_,y1x hp p1 p3,y6z s1 s3⟩
end
end VL
namespace VL
open PySem L2 PySem.Spec PyProof.Rows
def er (H:Hp):Option Addr→Hp
 |none=>H
 |some a=>fun b=>if b=a then none else H b
abbrev RD:=List Slot→(Bool→D→List Slot→Prop)→Prop
def spD (R:RD):Sp:=fun vs H Q _=>∃ (Hx:Hp) (ic:List (Option Addr)) (F:Hp) (δ:List Slot) (Qd:Bool→D→List Slot→Prop),(∀ p a,ic.getD p none=some a→vs[p]? = some (.ref a))∧EI ic Hx F F δ (vs.map some) H∧R δ Qd ∧
 ∀ b d v δ' F' H',EI (none::ic) Hx F F' (rsl b d::δ') (some v::vs.map some) H'→Qd b d δ'→Q v H'
section
variable {io ic:List (Option Addr)}{H0 F0 F F' H H':Hp}{δ δc:List Slot}{σ σc:L2.St}{b:Bool}{d:D}{v:V}
theorem EI.back0 (I:EI io H0 F0 F δ σ H) (s:Same F F') (s':Same H H') (sub:Same F' H') (new:∀ b o,F' b=some o→F b=none→H b=none):EI io H0 F0 F' δ σ H' where
 base:=I.base.trans s'
 sub:=sub
 ext:=I.ext.trans s
 new:=fun b o e h=>by
  cases q:F b with
  |none=>exact I.base.free (new b o e q)
  |some u=>exact I.new b u q h
 len:=I.len
 get:=fun i t e=>(I.get i t e).mono s fun a b c es eo=>by
  subst es
  obtain ⟨a',e1,h1,h2,h3,h4⟩:=I.get i _ e
  rw [eo] at e1;cases e1
  obtain ⟨u,hu⟩:=h3.some
  refine ⟨?_,fun u hu=>s' _ _ hu⟩
  cases q:F' a with
  |none=>rfl
  |some o=>rw [new a o q h2] at hu;cases hu
 apart:=I.apart
theorem EI.back (I:EI io H0 F0 F δ σ H) (C:EI ic H F F' (rsl b d::δc) (some v::σc) H'):EI (none::io) H0 F0 F' (rsl b d::δ) (some v::σ) H':=by
 have J:=I.back0 C.ext C.base C.sub C.new
 refine J.push ?_ fun b' c a es ev j b2 c2 ej eo=>?_
 ·have h0:=C.get 0 _ rfl
  cases b with
  |false=>obtain ⟨v',e,r⟩:=h0;simp at e;subst e;exact ⟨v,rfl,r⟩
  |true =>
   obtain ⟨a,e,h1,h2,h3,h4⟩:=h0
   simp at e;subst e
   exact ⟨a,rfl,I.base.free h1,h2,h3,fun z=>by cases z⟩
 ·subst ev
  obtain ⟨a',e1,h1,h2,h3,h4⟩:=I.get j _ ej
  rw [eo] at e1;cases e1
  obtain ⟨u,hu⟩:=h3.some
  have h0:=C.get 0 _ rfl
  cases b with
  |false=>cases es
  |true =>
   obtain ⟨a,e,h1,_⟩:=h0
   simp at e;subst e
   rw [h1] at hu;cases hu
theorem y2t {ds:List D}{vs:List V}(s:Same F H) (r:Reps F ds vs):EI [] H F F (ds.map .fz) (vs.map some) H where
 base:=Same.refl _
 sub:=s
 ext:=Same.refl _
 new:=fun b o e h=>by rw [h] at e;cases e
 len:=by simp [r.len]
 get:=fun i t e=>by
  rw [List.getElem?_map] at e
  cases q:ds[i]? with
  |none=>rw [q] at e;cases e
  |some d =>
   rw [q] at e
   cases e
   obtain ⟨v,ev,rv⟩:=r.get q
   exact ⟨v,by simp [List.getD_eq_getElem?_getD,ev],rv⟩
 apart:=fun i j b c b' c' a ne e1=>by
  rw [List.getElem?_map] at e1
  cases q:ds[i]? <;> rw [q] at e1 <;> cases e1
end
def dCall (R:RD) (u:TLd):TEd:=fun δ Q=>u δ fun ds δ'=>R (ds.map .fz) fun b d _=>Q b d δ'
theorem sim_call {R:RD}{t:TA}{u:TLd}{E:XK}(s:SimL t u):Sim (z7m (spD R) [] E t) (dCall R u):=fun io H0 F0 F δ σ H Q Qd I q k =>
 s io H0 F0 F δ σ H _ _ I q fun ds vs δ' F' H' sf I' r q'=>by
  show spD R (vs ++ []) H' Q E
  rw [List.append_nil]
  refine ⟨H',[],F',_,_,fun p a e=>by simp at e,y2t I'.sub r,q',fun b d v δ2 F2 H2 C q2=>?_⟩
  exact k b d v δ' F2 H2 (sf.trans C.ext) (I'.back C) q2
section
variable {X:Cx}{CX:CXT}{k:Nat}{f:Addr}{fd:FuncData}{ps:List Str}{R:RD}{E:XK}{x:Str}{p pos:Pos}{e:Expr}{es:List Expr}{u:TLd}
theorem z0v (G:FnOk X.prog X.w X.K X.mg X.base CX k f fd ps (spD R)) (hr:Room k X.A) (hg:Gl X x) (hm:X.mg x=some (.ref f)) (hk:PySem.W.keepIn X.K (.ref f)=true) (hb:Binds X.K fd ps []) (hx:z8q CX X E)
  (ha:DL X (e::es) u) (hdb:(x == ("__debug__":Str))=false:=by decide) (he:starEach (e::es) X.env=(false,eval e X.env)::starEach es X.env:=by rfl) (hpl:(backTo pos (starEach es X.env)).any (·.1)=false:=by rfl) :
  DE X (.Call (.Name x p) (e::es) [] pos) (dCall R u):=by
 obtain ⟨t,pt,s⟩:=ha
 exact ⟨_,z0r G hr hg hm hk hb .nil hx pt hdb he hpl,sim_call s⟩
end
abbrev TAd:=List Slot→(List (Option D)→List Slot→Prop)→Prop
def AOk (F:Hp) (w:V) (o:Option D) (v:V):Prop:=match o with|some d=>Rep F d v|none=>v=w
def SimA (i:Nat) (te:TA) (td:TAd):Prop:=∀ (io:List (Option Addr)) (H0 F0 F:Hp) (δ:List Slot) (σ:L2.St) (H:Hp) (w:V) (Q:List V→Hp→Prop) (Qd:List (Option D)→List Slot→Prop),EI io H0 F0 F δ σ H→σ[i]? = some (some w)→td δ Qd →
 (∀ os vs δ' F' H',Same F F'→EI io H0 F0 F' δ' σ H'→Paired (AOk F' w) os vs→Qd os δ'→Q vs H')→te σ H Q
def DA (X:Cx) (i:Nat) (es:List Expr) (td:TAd):Prop:=∃ te,PA X es te∧SimA i te td
def daNil:TAd:=fun δ Q=>Q [] δ
def daV (t:TEd) (u:TAd):TAd:=fun δ Q=>t δ fun _ d δ'=>u δ' fun os δ''=>Q (some d::os) δ''
def daO (u:TAd):TAd:=fun δ Q=>u δ fun os δ''=>Q (none::os) δ''
section
variable {X:Cx}{i:Nat}{a:Expr}{es:List Expr}{da:TEd}{u:TAd}
theorem z6i:DA X i [] daNil:=⟨_,z0j,fun io H0 F0 F δ σ H w Q Qd I hw q k=>k [] [] δ F H (Same.refl _) I .nil q⟩
theorem da_v (ha:DE X a da) (hr:DA X i es u) (hs:starEach (a::es) X.env=(false,eval a X.env)::starEach es X.env:=by rfl):DA X i (a::es) (daV da u):=by
 obtain ⟨ta,pa,sa⟩:=ha;obtain ⟨tr,pr,sr⟩:=hr
 refine ⟨_,z0b pa pr hs,fun io H0 F0 F δ σ H w Q Qd I hw q k=>sa.fz I q fun d v δ' F' H' sf I' r q'=>sr io H0 F0 F' δ' σ H' w _ _ I' hw q' fun ds vs δ2 F2 H2 s2 I2 r2 q2=>?_⟩
 exact k (some d::ds) (v::vs) δ2 F2 H2 (sf.trans s2) I2 (.cons (show Rep F2 d v from Rep.mono s2 _ _ r) r2) q2
theorem da_o {x:Str}{p:Pos}(ha:PE X (.Name x p) (tVar i)) (hr:DA X i es u) (hs:starEach (.Name x p::es) X.env=(false,eval (.Name x p) X.env)::starEach es X.env:=by rfl):DA X i (.Name x p::es) (daO u):=by
 obtain ⟨tr,pr,sr⟩:=hr
 refine ⟨_,z0b ha pr hs,fun io H0 F0 F δ σ H w Q Qd I hw q k=>⟨w,hw,sr io H0 F0 F δ σ H w _ _ I hw q fun ds vs δ2 F2 H2 s2 I2 r2 q2=>?_⟩⟩
 exact k (none::ds) (w::vs) δ2 F2 H2 s2 I2 (.cons rfl r2) q2
end
def y1s (c:D):Option D→Slot
 |some d=>.fz d
 |none=>.ob true c
def z9c:List Slot→Option D
 |.ob true c::_=>some c
 |_::r=>z9c r
 | []=>none
def y1o (R:RD) (i:Nat) (u:TAd):TEd:=fun δ Q=>(peek δ i).isSome=true∧u δ fun os δ'=>∃ fl c,δ'[i]? = some (.ob fl c)∧(os.filter Option.isNone).length=1∧R (os.map (y1s c)) fun b d δ2=>∃ c',z9c δ2=some c'∧Q b d (δ'.set i (.ob fl c'))
theorem z4z:∀ {δ:List Slot}{c:D},z9c δ=some c→∃ p:Nat,δ[p]? = some (Slot.ob true c)
 | [],c,h=>by cases h
 |.no::r,c,h=>by obtain ⟨p,e⟩:=z4z (δ:=r) h;exact ⟨p+1,by simpa using e⟩
 |.fz d::r,c,h=>by obtain ⟨p,e⟩:=z4z (δ:=r) h;exact ⟨p+1,by simpa using e⟩
 |.sc K d::r,c,h=>by obtain ⟨p,e⟩:=z4z (δ:=r) h;exact ⟨p+1,by simpa using e⟩
 |.ob false d::r,c,h=>by obtain ⟨p,e⟩:=z4z (δ:=r) h;exact ⟨p+1,by simpa using e⟩
 |.ob true d::r,c,h=>by cases h;exact ⟨0,rfl⟩
theorem Paired.getE {α β:Type}{R:α→β→Prop}:∀ {xs:List α}{ys:List β}{i:Nat}{x:α},Paired R xs ys→xs[i]? = some x→∃ y,ys[i]? = some y∧R x y
 |_,_,_,_,.nil,e=>by simp at e
 |_,_,0,_,.cons r _,e=>by simp at e;subst e;exact ⟨_,rfl,r⟩
 |_,_,i+1,x,.cons _ t,e=>by
  obtain ⟨u,h1,h2⟩:=Paired.getE (i:=i) (x:=x) t (by simpa using e)
  exact ⟨u,by simpa using h1,h2⟩
theorem one_none {os:List (Option D)}(h:(os.filter Option.isNone).length=1) {i j:Nat}(hi:os[i]? = some none) (hj:os[j]? = some none):i=j:=by
 induction os generalizing i j with
 |nil=>simp at hi
 |cons o os ih =>
  cases o with
  |none =>
   simp at h
   have key:∀ k,os[k]? ≠ some none:=fun k e=>by
    have:=List.mem_of_getElem? e
    exact absurd rfl (h none this)
   cases i with
   |zero =>
    cases j with
    |zero=>rfl
    |succ j=>exact absurd (by simpa using hj) (key j)
   |succ i=>exact absurd (by simpa using hi) (key i)
  |some d =>
   cases i with
   |zero=>simp at hi
   |succ i =>
    cases j with
    |zero=>simp at hj
    |succ j=>exact congrArg (· + 1) (ih (by simpa using h) (by simpa using hi) (by simpa using hj))
theorem sim_callIO {R:RD}{i:Nat}{t:TA}{u:TAd}{E:XK}(s:SimA i t u):Sim (z7m (spD R) [] E t) (y1o R i u):=fun io H0 F0 F δ σ H Q Qd I q k=>by
 obtain ⟨p0,q⟩:=q
 obtain ⟨d0,e0⟩:=Option.isSome_iff_exists.mp p0
 obtain ⟨w,ew,_⟩:=I.pk e0
 refine s io H0 F0 F δ σ H w _ _ I ew q fun os vs δ' F' H' sf I' r q'=>?_
 obtain ⟨fl,c,ec,hone,q'⟩:=q'
 obtain ⟨a,ea,n1,n2,hc,hio⟩:=I'.get i _ ec
 have e:=z2x ea
 rw [ew] at e;cases e
 show spD R (vs ++ []) H' Q E
 rw [List.append_nil]
 have erNe:∀ b,b≠a→er H' (some a) b=H' b:=fun b hb=>if_neg hb
 have erA:er H' (some a) a=none:=if_pos rfl
 have lenE:os.length=vs.length:=Paired.length r
 refine ⟨er H' (some a),os.map (fun o=>match o with|none=>some a|some _=>none),F',_,_,fun p b ep=>?_,⟨fun b o eb=>?_,I'.sub,Same.refl _,fun b o eb hb=>?_,by simp [lenE],fun j t ej=>?_,fun j l b1 c1 b2 c2 a' ne e1 e2 _ _=>?_⟩,q',fun b d v δ2 F2 H2 C q2=>?_⟩
 ·rw [List.getD_eq_getElem?_getD,List.getElem?_map] at ep
  cases eo:os[p]? with
  |none=>rw [eo] at ep;cases ep
  |some o =>
   rw [eo] at ep
   cases o with
   |some d=>cases ep
   |none =>
    cases ep
    obtain ⟨v,ev,rv⟩:=Paired.getE r eo
    cases (show v = .ref a from rv)
    exact ev
 ·by_cases hb:b=a
  ·subst hb;rw [erA] at eb;cases eb
  ·rw [erNe b hb] at eb;exact eb
 ·rw [hb] at eb;cases eb
 ·rw [List.getElem?_map] at ej
  cases eo:os[j]? with
  |none=>rw [eo] at ej;cases ej
  |some o =>
   rw [eo] at ej
   cases ej
   obtain ⟨v,ev,rv⟩:=Paired.getE r eo
   cases o with
   |some d=>exact ⟨v,by simp [List.getD_eq_getElem?_getD,ev],rv⟩
   |none =>
    cases (show v = .ref a from rv)
    exact ⟨a,by simp [List.getD_eq_getElem?_getD,ev],erA,n2,hc,fun _=>by simp [List.getD_eq_getElem?_getD,eo]⟩
 ·rw [List.getElem?_map] at e1 e2
  have key:∀ {j:Nat}{b:Bool}{c':D},Option.map (y1s c) os[j]? = some (.ob b c')→os[j]? = some none:=fun {j b c'} h=>by
   cases eo:os[j]? with
   |none=>rw [eo] at h;cases h
   |some o =>
    rw [eo] at h
    cases o with
    |none=>rfl
    |some d=>cases h
  exact ne (one_none hone (key e1) (key e2))
 ·obtain ⟨c',eo,q2⟩:=q2
  obtain ⟨p,ep⟩:=z4z eo
  obtain ⟨a2,ea2,m1,m2,hc2,hio2⟩:=C.get (p+1) _ (by simpa using ep)
  have ea3:a2=a:=by
   have h1:=hio2 rfl
   simp only [List.getD_cons_succ] at h1
   rw [List.getD_eq_getElem?_getD,List.getElem?_map] at h1
   cases eo:os[p]? with
   |none=>rw [eo] at h1;cases h1
   |some o =>
    rw [eo] at h1
    cases o with
    |some d=>cases h1
    |none=>cases h1;rfl
  subst ea3
  have hnew:∀ b o,F2 b=some o→F' b=none→H' b=none∨b=a2:=fun b o e1 e2=>by
   by_cases hb:b=a2
   ·exact .inr hb
   ·have:=C.new b o e1 e2
    rw [erNe b hb] at this
    exact .inl this
  have oth:∀ j b1 c1 a3,j≠i→δ'[j]? = some (.ob b1 c1)→σ.getD j none=some (.ref a3)→a3≠a2:=fun j b1 c1 a3 hj e1 e2 z=>I'.apart j i _ _ _ _ a2 hj e1 ec (by rw [e2,z]) ea
  have keepH:∀ b o,b≠a2→H' b=some o→H2 b=some o:=fun b o hb e=>C.base b o (by rw [erNe b hb];exact e)
  have J:EI io H0 F0 F2 (δ'.set i (.ob fl c')) σ H2:=by
   refine ⟨fun b o eb=>?_,C.sub,I'.ext.trans C.ext,fun b o e h=>?_,by simpa using I'.len,fun j t ej=>?_,fun j l b1 c1 b2 c2 a' ne e1 e2 e3 e4=>?_⟩
   ·exact keepH b o (fun z=>by rw [z,n1] at eb;cases eb) (I'.base b o eb)
   ·cases q:F' b with
    |some u=>exact I'.new b u q h
    |none =>
     rcases hnew b o e q with z|z
     ·exact I'.base.free z
     ·rw [z];exact n1
   ·rw [List.getElem?_set] at ej
    split at ej
    ·rename_i hij
     subst hij
     split at ej
     ·cases ej
      exact ⟨a2,ea,n1,m2,hc2,hio⟩
     ·cases ej
    ·rename_i hij
     refine (I'.get j t ej).mono C.ext fun a3 b3 c3 es eo=>?_
     subst es
     obtain ⟨a4,e1,h1,h2,h3,h4⟩:=I'.get j _ ej
     rw [eo] at e1;cases e1
     have hne:=oth j _ _ _ (fun z=>hij z.symm) ej eo
     refine ⟨?_,fun u hu=>keepH _ _ hne hu⟩
     cases q:F2 a3 with
     |none=>rfl
     |some o =>
      rcases hnew a3 o q h2 with z|z
      ·obtain ⟨u,hu⟩:=h3.some
       rw [z] at hu;cases hu
      ·exact absurd z hne
   ·have key:∀ {j:Nat}{b1:Bool}{c1:D},(δ'.set i (.ob fl c'))[j]? = some (Slot.ob b1 c1)→∃ b2 c2,δ'[j]? = some (Slot.ob b2 c2):=fun {j b1 c1} h=>by
     rw [List.getElem?_set] at h
     split at h
     ·rename_i hij;subst hij;exact ⟨_,_,ec⟩
     ·exact ⟨_,_,h⟩
    obtain ⟨b3,c3,q1⟩:=key e1
    obtain ⟨b4,c4,q2⟩:=key e2
    exact I'.apart j l _ _ _ _ a' ne q1 q2 e3 e4
  refine k b d v _ F2 H2 (sf.trans C.ext) (J.push ?_ fun b' c3 a3 es ev j b2 c2 ej eo=>?_) q2
  ·have h0:=C.get 0 _ rfl
   cases b with
   |false=>obtain ⟨v',e,r⟩:=h0;simp at e;subst e;exact ⟨v,rfl,r⟩
   |true =>
    obtain ⟨a3,e,h1,h2,h3,h4⟩:=h0
    simp at e;subst e
    refine ⟨a3,rfl,?_,h2,h3,fun z=>by cases z⟩
    by_cases hb:a3=a2
    ·rw [hb];exact n1
    ·rw [erNe a3 hb] at h1;exact I'.base.free h1
  ·subst ev
   have h0:=C.get 0 _ rfl
   cases b with
   |false=>cases es
   |true =>
    obtain ⟨a5,e5,h5,_⟩:=h0
    simp at e5;subst e5
    rw [List.getElem?_set] at ej
    split at ej
    ·rename_i hij
     subst hij
     rw [ea] at eo;cases eo
     exact C.apart 0 (p+1) false d true c' a2 (by omega) rfl (by simpa using ep) rfl ea2
    ·rename_i hij
     have hne:=oth j _ _ _ (fun z=>hij z.symm) ej eo
     rw [erNe _ hne] at h5
     obtain ⟨a4,e1,h1,h2,h3,h4⟩:=I'.get j _ ej
     rw [eo] at e1;cases e1
     obtain ⟨u,hu⟩:=h3.some
     rw [h5] at hu;cases hu
section
variable {X:Cx}{CX:CXT}{k:Nat}{f:Addr}{fd:FuncData}{ps:List Str}{R:RD}{E:XK}{x:Str}{p pos:Pos}{e:Expr}{es:List Expr}{i:Nat}{u:TAd}
theorem z3e (G:FnOk X.prog X.w X.K X.mg X.base CX k f fd ps (spD R)) (hr:Room k X.A) (hg:Gl X x) (hm:X.mg x=some (.ref f)) (hk:PySem.W.keepIn X.K (.ref f)=true) (hb:Binds X.K fd ps []) (hx:z8q CX X E)
  (ha:DA X i (e::es) u) (hdb:(x == ("__debug__":Str))=false:=by decide) (he:starEach (e::es) X.env=(false,eval e X.env)::starEach es X.env:=by rfl) (hpl:(backTo pos (starEach es X.env)).any (·.1)=false:=by rfl) :
  DE X (.Call (.Name x p) (e::es) [] pos) (y1o R i u):=by
 obtain ⟨t,pt,s⟩:=ha
 exact ⟨_,z0r G hr hg hm hk hb .nil hx pt hdb he hpl,sim_callIO s⟩
end
def y3l:Slot→Slot
 |.ob true c=>.ob true c
 |_=>.no
def outS:Nat→List Slot→List Slot
 |0,_=>[]
 |n+1,[]=>.no::outS n []
 |n+1,s::r=>y3l s::outS n r
theorem y1l:∀ (n:Nat) (δ:List Slot),(outS n δ).length=n
 |0,_=>rfl
 |n+1,[]=>by simp [outS,y1l n]
 |n+1,s::r=>by simp [outS,y1l n]
theorem z7r:∀ {n:Nat}{δ:List Slot}{p:Nat}{s:Slot},(outS n δ)[p]? = some s→s = .no ∨ ∃ c,s = .ob true c∧δ[p]? = some (.ob true c)
 |0,δ,p,s,h=>by simp [outS] at h
 |n+1,[],0,s,h=>by simp [outS] at h;exact .inl h.symm
 |n+1,[],p+1,s,h=>by
  rcases z7r (n:=n) (δ:=[]) (p:=p) (s:=s) (by simpa [outS] using h) with z|⟨c,_,z⟩
  ·exact .inl z
  ·simp at z
 |n+1,t::r,0,s,h=>by
  simp [outS] at h
  cases t with
  |no=>exact .inl h.symm
  |fz d=>exact .inl h.symm
  |sc K d=>exact .inl h.symm
  |ob b c =>
   cases b with
   |false=>exact .inl h.symm
   |true=>exact .inr ⟨c,h.symm,rfl⟩
 |n+1,t::r,p+1,s,h=>by simpa using z7r (n:=n) (δ:=r) (p:=p) (s:=s) (by simpa [outS] using h)
section
variable {P:Program}{w:World}{K:PySem.W.Frag}{mg:Str→Option Value}{base:Heap}
theorem Fun.dok {x qual:Str}{st:Stmt}{f:Addr}{fd:FuncData}{N ps:List Str}{k:Nat}{R:RD}(Fn:Fun K x qual st f fd) (S:FnScope N ps (z0c st)) (hlen:∀ δ Qd,R δ Qd→δ.length=ps.length) (hN:ps.length≤N.length)
  (hbody:∀ (cdv:Value) (A:Around) (outer:List Env) (s:Shared) (H:Hp) (E:XK) (δ:List Slot) (Qd:Bool→D→List Slot→Prop),Room k (A.deeper (envOfC qual (z0c st) s.heap.objs.size f cdv))→R δ Qd →
   ∃ td,DSs (cxOf CX0 P w K mg base N qual (z0c st) f cdv A outer s H E).nox (z0n st) td∧td { nx:=fun δ'=>Qd false .non (outS ps.length δ'),rt:=fun b d δ'=>Qd b d (outS ps.length δ') } (δ ++ List.replicate (N.length - ps.length) .no)) :
  FnOk P w K mg base CX0 (k+1) f fd ps (spD R):=by
 refine Fn.ok S (fun vs H Q E h=>?_) (fun cdv A outer s H vs Q E hr h=>?_)
 ·obtain ⟨x,ic,F,δ,Qd,_,I,hR,_⟩:=h
  have:=I.len
  rw [List.length_map] at this
  rw [← this]
  exact hlen _ _ hR
 ·obtain ⟨x,ic,F,δ,Qd,hic,I,hR,kq⟩:=h
  have l1:=I.len
  rw [List.length_map] at l1
  have l2:=hlen _ _ hR
  obtain ⟨td,⟨t,pt,st'⟩,ht⟩:=hbody cdv A outer s H E δ Qd hr hR
  refine ⟨t,pt,?_⟩
  have est:L2.start N vs=vs.map some ++ List.replicate (N.length - ps.length) none:=by rw [L2.start,← l1,l2]
  have I1:EI ic x F F (δ ++ List.replicate (N.length - ps.length) .no) (L2.start N vs) H:=by
   rw [est]
   refine ⟨I.base,I.sub,I.ext,I.new,by simp [l1],fun j s e=>?_,fun i j b c b' c' a ne e1 e2 e3 e4=>?_⟩
   ·by_cases hj:j < δ.length
    ·rw [List.getElem?_append_left hj] at e
     have:=I.get j s e
     rwa [List.getD_eq_getElem?_getD,List.getD_eq_getElem?_getD,List.getElem?_append_left (by simpa [← l1] using hj),← List.getD_eq_getElem?_getD,← List.getD_eq_getElem?_getD]
    ·rw [List.getElem?_append_right (by omega),List.getElem?_replicate] at e
     split at e
     ·cases e;trivial
     ·cases e
   ·have key:∀ {j:Nat}{b:Bool}{c:D},(δ ++ List.replicate (N.length - ps.length) Slot.no)[j]? = some (.ob b c)→j < δ.length∧δ[j]? = some (.ob b c):=fun {j b c} h=>by
     by_cases hj:j < δ.length
     ·rw [List.getElem?_append_left hj] at h;exact ⟨hj,h⟩
     ·rw [List.getElem?_append_right (by omega),List.getElem?_replicate] at h
      split at h <;> cases h
    obtain ⟨z1,q1⟩:=key e1
    obtain ⟨z2,q2⟩:=key e2
    rw [List.getD_eq_getElem?_getD,List.getElem?_append_left (by simpa [← l1] using z1)] at e3
    rw [List.getD_eq_getElem?_getD,List.getElem?_append_left (by simpa [← l1] using z2)] at e4
    exact I.apart i j b c b' c' a ne q1 q2 (by rw [List.getD_eq_getElem?_getD];exact e3) (by rw [List.getD_eq_getElem?_getD];exact e4)
  have fin:∀ (b:Bool) (d:D) (v:V) (F':Hp) (δ':List Slot) (σ':L2.St) (H':Hp),EI (none::ic) x F F' (rsl b d::δ') (some v::σ') H'→EI (none::ic) x F F' (rsl b d::outS ps.length δ') (some v::vs.map some) H':=by
   intro b d v F' δ' σ' H' I2
   have key:∀ {p:Nat}{c:D},δ'[p]? = some (.ob true c)→∃ a,σ'.getD p none=some (.ref a)∧(vs.map some).getD p none=some (.ref a)∧SOk x F' H' (ic.getD p none) (some (.ref a)) (.ob true c):=fun {p c} h=>by
    have q:=I2.get (p+1) _ (by simpa using h)
    simp only [List.getD_cons_succ] at q
    obtain ⟨a,e,h1,h2,h3,h4⟩:=q
    have ev:=hic p a (h4 rfl)
    exact ⟨a,e,by simp [List.getD_eq_getElem?_getD,ev],a,rfl,h1,h2,h3,h4⟩
   refine ⟨I2.base,I2.sub,I2.ext,I2.new,by simp [y1l,← l1,l2],fun j s e=>?_,fun i j b1 c b' c' a ne e1 e2 e3 e4=>?_⟩
   ·cases j with
    |zero=>simp at e;subst e;exact I2.get 0 _ rfl
    |succ j =>
     simp only [List.getElem?_cons_succ,List.getD_cons_succ] at e ⊢
     rcases z7r e with z|⟨c,z,z2⟩
     ·subst z;trivial
     ·subst z
      obtain ⟨a,_,e2,q⟩:=key z2
      rw [e2];exact q
   ·have k2:∀ {j:Nat}{b1:Bool}{c:D}{a:Addr},(rsl b d::outS ps.length δ')[j]? = some (.ob b1 c)→(some v::vs.map some).getD j none=some (.ref a)→(rsl b d::δ')[j]? = some (.ob b1 c)∧(some v::σ').getD j none=some (.ref a):=fun {j b1 c a} g1 g2=>by
     cases j with
     |zero=>exact ⟨g1,g2⟩
     |succ j =>
      simp only [List.getElem?_cons_succ,List.getD_cons_succ] at g1 g2 ⊢
      rcases z7r g1 with z|⟨c',z,z2⟩
      ·cases z
      ·cases z
       obtain ⟨a',q1,q2,_⟩:=key z2
       rw [g2] at q2;cases q2
       exact ⟨z2,q1⟩
    obtain ⟨u1,u2⟩:=k2 e1 e3
    obtain ⟨u3,u4⟩:=k2 e2 e4
    exact I2.apart i j _ _ _ _ a ne u1 u3 u2 u4
  exact st' ic x F F _ _ H _ _ I1 ht ⟨fun F' δ' σ' H' sf I2 q2=>kq false .non .non _ F' H' (fin _ _ _ _ _ _ _ I2.pN) q2,fun b d v F' δ' σ' H' sf I2 q2=>kq b d v _ F' H' (fin _ _ _ _ _ _ _ I2) q2,fun _ _ _ _ _ _ z=>z.elim,fun _ _ _ _ _ _ z=>z.elim⟩
end
end VL
namespace VL
open PySem L2
section
variable {io:List (Option Addr)}{H0 F0 F F':Hp}{δ:List Slot}{σ:St}{H:Hp}
theorem EI.pushN {o:Option V}(I:EI io H0 F0 F δ σ H):EI (none::io) H0 F0 F (.no::δ) (o::σ) H where
 base:=I.base
 sub:=I.sub
 ext:=I.ext
 new:=I.new
 len:=by simp [I.len]
 get:=fun i t e=>by
  cases i with
  |zero=>simp at e;subst e;trivial
  |succ i=>simpa using I.get i t (by simpa using e)
 apart:=fun i j b c b' c' a ne e1 e2 e3 e4=>by
  cases i with
  |zero=>simp at e1
  |succ i =>
   cases j with
   |zero=>simp at e2
   |succ j=>exact I.apart i j b c b' c' a (by omega) (by simpa using e1) (by simpa using e2) (by simpa using e3) (by simpa using e4)
theorem EI.pad (I:EI io H0 F0 F δ σ H):∀ (τ:St),EI (List.replicate τ.length none ++ io) H0 F0 F (List.replicate τ.length .no ++ δ) (τ ++ σ) H
 | []=>I
 |o::τ=>by
  have:=(I.pad τ).pushN (o:=o)
  simpa [List.replicate_succ] using this
theorem EI.unpad:∀ {τ:St}{δ:List Slot},EI (List.replicate τ.length none ++ io) H0 F0 F δ (τ ++ σ) H→EI io H0 F0 F (δ.drop τ.length) σ H
 | [],δ,I=>I
 |o::τ,[],I=>by have:=I.len;simp at this
 |o::τ,s::δ,I=>by
  have I':EI (none::(List.replicate τ.length none ++ io)) H0 F0 F (s::δ) (o::(τ ++ σ)) H:=by simpa [List.replicate_succ] using I
  simpa using EI.unpad I'.pop
theorem EI.hide {p:Addr}{acc:List D}{ys:List V}(I:EI (none::io) H0 F0 F (.ob false (.lst acc)::δ) (some (.ref p)::σ) H) (hp:H p=some (.lst ys)):EI io (upd H0 p (.lst ys)) F0 F δ σ H:=by
 have J:=I.pop
 obtain ⟨a,e,h1,h2,h3,h4⟩:=I.get 0 _ rfl
 simp at e;subst e
 refine ⟨fun b o eb=>?_,I.sub,I.ext,fun b o e h=>?_,J.len,fun i t e=>?_,J.apart⟩
 ·by_cases hb:b=p
  ·subst hb;rw [z0d] at eb;cases eb;exact hp
  ·rw [z0f hb] at eb;exact I.base b o eb
 ·rw [z0f (fun z=>by rw [z,h2] at e;cases e)]
  exact I.new b o e h
 ·have q:=J.get i t e
  cases t with
  |no=>trivial
  |fz d=>exact q
  |sc K d=>exact q
  |ob b c =>
   obtain ⟨a,e1,g1,g2,g3,g4⟩:=q
   refine ⟨a,e1,?_,g2,g3,g4⟩
   rw [z0f]
   ·exact g1
   ·rintro rfl
    exact I.apart 0 (i+1) _ _ _ _ _ (by omega) rfl (by simpa using e) rfl (by simpa using e1)
theorem EI.unhide {p:Addr}{acc:List D}{ys ys':List V}(I:EI io (upd H0 p (.lst ys)) F0 F δ σ H) (h0:H0 p=none) (hF:F0 p=none) (r:Reps F acc ys'):EI (none::io) H0 F0 F (.ob false (.lst acc)::δ) (some (.ref p)::σ) (upd H p (.lst ys')):=by
 have hFp:F p=none:=by
  cases q:F p with
  |none=>rfl
  |some o=>have:=I.new p o q hF;rw [z0d] at this;cases this
 have ownNe:∀ {i:Nat}{b:Bool}{c:D}{a:Addr},δ[i]? = some (.ob b c)→σ.getD i none=some (.ref a)→a≠p:=fun {i b c a} e eo z=>by
  obtain ⟨a',e1,g1,_⟩:=I.get i _ e
  rw [eo] at e1;cases e1
  rw [z,z0d] at g1;cases g1
 refine ⟨fun b o eb=>?_,I.sub.upd hFp,I.ext,fun b o e h=>?_,by simp [I.len],fun i t e=>?_,fun i j b c b' c' a ne e1 e2 e3 e4=>?_⟩
 ·have hb:b≠p:=fun z=>by rw [z,h0] at eb;cases eb
  rw [z0f hb]
  exact I.base b o (by rw [z0f hb];exact eb)
 ·have q:=I.new b o e h
  by_cases hb:b=p
  ·rw [hb];exact h0
  ·rw [z0f hb] at q;exact q
 ·cases i with
  |zero=>simp at e;subst e;exact ⟨p,rfl,h0,hFp,⟨ys',z0d,r⟩,fun z=>by cases z⟩
  |succ i =>
   have e':δ[i]? = some t:=by simpa using e
   have q:=I.get i t e'
   simp only [List.getD_cons_succ]
   cases t with
   |no=>trivial
   |fz d=>exact q
   |sc K d=>exact q
   |ob b c =>
    obtain ⟨a,e1,g1,g2,g3,g4⟩:=q
    have ne:=ownNe e' e1
    rw [z0f ne] at g1
    exact ⟨a,e1,g1,g2,g3.mono (Same.refl _) (fun o eo=>by rw [z0f ne];exact eo),g4⟩
 ·cases i with
  |zero =>
   cases j with
   |zero=>exact ne rfl
   |succ j=>simp at e1 e3;subst e3;exact ownNe (by simpa using e2) (by simpa using e4) rfl
  |succ i =>
   cases j with
   |zero=>simp at e2 e4;subst e4;exact ownNe (by simpa using e1) (by simpa using e3) rfl
   |succ j=>exact I.apart i j b c b' c' a (by omega) (by simpa using e1) (by simpa using e2) (by simpa using e3) (by simpa using e4)
end
def SimGn (n:Nat) (g:TG) (gd:TGd):Prop:=∀ (io:List (Option Addr)) (H0 F0 F:Hp) (δ:List Slot) (σ:St) (H:Hp) (d:D) (v:V) (Q:St→Hp→Prop) (Qd:List Slot→Prop),EI io H0 F0 F δ σ H→Rep F d v→gd d δ Qd →
 (∀ δ' σ',EI io H0 F0 F δ' σ' H→σ'.drop n=σ.drop n→σ'.length=σ.length→Qd δ'→Q σ' H)→g v σ H Q
def SimGsn (n:Nat) (g:TGs) (gd:TGsd):Prop:=∀ (io:List (Option Addr)) (H0 F0 F:Hp) (δ:List Slot) (σ:St) (H:Hp) (ds:List D) (vs:List V) (Q:St→Hp→Prop) (Qd:List Slot→Prop),EI io H0 F0 F δ σ H→Reps F ds vs→gd ds δ Qd →
 (∀ δ' σ',EI io H0 F0 F δ' σ' H→σ'.drop n=σ.drop n→σ'.length=σ.length→Qd δ'→Q σ' H)→g vs σ H Q
def DGn (X:Cx) (n:Nat) (e:Expr) (gd:TGd):Prop:=∃ g,PG X e g∧SimGn n g gd
def DGsn (X:Cx) (n:Nat) (es:List Expr) (gd:TGsd):Prop:=∃ g,PGs X es g∧SimGsn n g gd
section
variable {X:Cx}{pos:Pos}{n:Nat}
theorem z2j {i:Nat}{x:Str}(hn:i < n) (hN:X.N.Nodup) (hi:X.N[i]? = some x) (hx:Loc X.env.scope x) (hf:X.fn x=true∨X.env.scope.names.lookup x=some .local:=by first|exact .inl rfl|exact .inr rfl|assumption):DGn X n (.Name x pos) (dgN i) :=
 ⟨_,z4b hN hi hx hf,fun io H0 F0 F δ σ H d v Q Qd I r q k=>by
  obtain ⟨h,q⟩:=q
  obtain ⟨h1,h2⟩:=h.ne
  refine k _ _ ((I.pushF r).setv (b:=false) h1 h2) ?_ (by simp) q
  rw [List.drop_set_of_lt (by omega)]⟩
theorem y1g:DGsn X n [] dgNil:=⟨_,z7v,fun io H0 F0 F δ σ H ds vs Q Qd I r q k=>by
 obtain ⟨rfl,q⟩:=q
 exact ⟨r,k _ _ I rfl rfl q⟩⟩
theorem z4k {e:Expr}{es:List Expr}{g:TGd}{u:TGsd}(h1:DGn X n e g) (h2:DGsn X n es u)
  (hs:(assignEach (e::es) X.env).map (·.2)=assign e X.env::(assignEach es X.env).map (·.2):=by rfl):DGsn X n (e::es) (z8i g u):=by
 obtain ⟨t,p,s⟩:=h1;obtain ⟨t',p',s'⟩:=h2
 refine ⟨_,z3x p p' hs,fun io H0 F0 F δ σ H ds vs Q Qd I r q k=>?_⟩
 obtain ⟨d,dr,rfl,q⟩:=q
 obtain ⟨v,vr,rfl,r1,r2⟩:=r
 exact ⟨v,vr,rfl,s io H0 F0 F δ σ H d v _ _ I r1 q fun δ' σ' I' e1 e2 q'=>s' io H0 F0 F δ' σ' H dr vr Q Qd I' r2 q' fun δ2 σ2 I2 e3 e4 q2=>k δ2 σ2 I2 (e3.trans e1) (e4.trans e2) q2⟩
theorem y5p {es:List Expr}{k:Nat}{u:TGsd}{m:Nat}(hc:X.calm=true) (h:DGsn X n es u)
  (hn:(assignEach es X.env).length=m:=by rfl) (hst:(assignEach es X.env).findIdx? (·.1)=none:=by rfl):DGn X n (.Tuple es k pos) (dgTup m u):=by
 obtain ⟨t,p,s⟩:=h
 refine ⟨_,y2q hc p hn hst,fun io H0 F0 F δ σ H d v Q Qd I r q k=>?_⟩
 obtain ⟨ds,rfl,hl,q⟩:=q
 obtain ⟨a,vs,rfl,h1,r1⟩:=r
 exact ⟨a,vs,rfl,SqT.of (I.sub _ _ h1),by rw [← r1.len];exact hl,s io H0 F0 F δ σ H ds vs Q Qd I r1 q k⟩
end
def dYes:TTd:=fun δ Q=>Q true δ
def DF (X:Cx) (ifs:List Expr) (td:TTd):Prop:=∃ t,PF X ifs t∧SimT t td
theorem z7i {X:Cx}:DF X [] dYes:=⟨_,pf_nil,fun io H0 F0 F δ σ H Q Qd I q k=>k true δ F H (Same.refl _) I q⟩
theorem df_one {X:Cx}{c:Expr}{td:TTd}(h:DT X c td):DF X [c] td:=by obtain ⟨t,p,s⟩:=h;exact ⟨t,pf_one p,s⟩
def dComp (n:Nat) (di:TLd) (gd:TGd) (tc:TTd) (te:TEd):TEd:=fun δ Q=>di δ fun ds δ'=>∃ P:List D→List D→List Slot→Prop,P ds [] δ' ∧
 (∀ d r acc δ1,P (d::r) acc δ1→gd d (List.replicate n .no ++ δ1) fun δ2=>tc δ2 fun b δ3=>if b=true then te δ3 fun _ y δ4=>acc.length < sizeLine∧P r (acc ++ [y]) (δ4.drop n) else P r acc (δ3.drop n)) ∧
 ∀ acc δ1,P [] acc δ1→Q true (.lst acc) δ1
theorem y5q {n:Nat}{wi:TI}{g:TG}{tc:TT}{te:TE}{di:TLd}{gd:TGd}{cd:TTd}{ed:TEd}(si:SimI wi di) (sg:SimGn n g gd) (sc:SimT tc cd) (se:Sim te ed):Sim (y6n n wi g tc te) (dComp n di gd cd ed):=by
 intro io H0 F0 F δ σ H Q Qd I q k
 refine si io H0 F0 F δ σ H _ _ I q fun J ds δ' F' H' sf I' ok q' Dp hD=>?_
 obtain ⟨P,p0,step,fin⟩:=q'
 have hF0:F0 Dp=none:=I'.ext.free (I'.sub.free hD)
 refine ⟨fun i m ys H=>m=ds.length - i∧i≤ds.length∧∃ F1 δ1 acc,Same F' F1∧EI (none::io) H0 F0 F1 (.ob false (.lst acc)::δ1) (some (.ref Dp)::σ) H∧H Dp=some (.lst ys)∧P (ds.drop i) acc δ1,⟨ds.length,by simp,Nat.zero_le _,F',δ',[],Same.refl _,I'.newL hD rfl,z0d,p0⟩,?_⟩
 rintro i m ys H1 ⟨rfl,hi,F1,δ1,acc,s1,I1,hy,p1⟩
 refine ⟨hy,?_⟩
 obtain ⟨a,e,hH0,hF1,⟨vs,hv,rv⟩,_⟩:=I1.get 0 _ rfl
 simp at e;subst e
 rw [hy] at hv;cases hv
 have Ih:=I1.hide hy
 obtain ⟨o1,o2⟩:=ok io _ F0 F1 δ1 σ H1 s1 Ih i
 by_cases hlt:i < ds.length
 ·have ed':ds[i]? = some ds[i]:=by simp [hlt]
  have edr:ds.drop i=ds[i]::ds.drop (i+1):=List.drop_eq_getElem_cons hlt
  rw [edr] at p1
  obtain ⟨go,yl⟩:=o1 _ ed'
  refine .inr ⟨go,fun ys' H'=>∃ F2 δ2 acc',Same F' F2∧EI (none::io) H0 F0 F2 (.ob false (.lst acc')::δ2) (some (.ref Dp)::σ) H'∧H' Dp=some (.lst ys')∧P (ds.drop (i+1)) acc' δ2,fun ys' H' hN=>⟨ds.length - (i+1),by omega,rfl,hlt,hN⟩,fun x H2 y τ hτ=>?_⟩
  obtain ⟨F2,s2,I2,r2⟩:=yl x H2 y
  have I2p:=I2.pad τ
  rw [hτ] at I2p
  refine sg _ _ F0 F2 _ (τ ++ σ) H2 _ x _ _ I2p r2 (step _ _ acc δ1 p1) fun δ3 σ3 I3 e1 e2 q3=>?_
  have eσ:σ3=σ3.take n ++ σ:=by
   have h1:σ3.drop n=σ:=by rw [e1,← hτ];simp
   conv=>lhs;rw [← List.take_append_drop n σ3,h1]
  have lτ:(σ3.take n).length=n:=by
   rw [List.length_take,e2,List.length_append,hτ];omega
  refine ⟨⟨σ3.take n,lτ,eσ⟩,?_⟩
  refine sc _ _ F0 F2 δ3 σ3 H2 _ _ I3 q3 fun b δ4 F4 H4 s4 I4 q4=>?_
  have back:∀ {δ5:List Slot}{F5 H5:Hp},EI (List.replicate n none ++ io) (upd H0 Dp (.lst ys)) F0 F5 δ5 σ3 H5→EI io (upd H0 Dp (.lst ys)) F0 F5 (δ5.drop n) σ H5:=fun {δ5 F5 H5} I5=>by
   rw [eσ] at I5
   have I5':EI (List.replicate (σ3.take n).length none ++ io) (upd H0 Dp (.lst ys)) F0 F5 δ5 (σ3.take n ++ σ) H5:=by rw [lτ];exact I5
   have:=EI.unpad I5'
   rwa [lτ] at this
  cases b with
  |false =>
   rw [if_neg Bool.false_ne_true] at q4 ⊢
   have I5:=(back I4)
   have hy4:H4 Dp=some (.lst ys):=I4.base _ _ z0d
   have I6:=I5.unhide (ys':=ys) hH0 hF0 (Reps.mono (s2.trans s4) _ _ rv)
   have eH:upd H4 Dp (.lst ys)=H4:=by
    funext b;by_cases hb:b=Dp
    ·rw [hb,z0d,hy4]
    ·rw [z0f hb]
   rw [eH] at I6
   exact ⟨F4,_,acc,(s1.trans s2).trans s4,I6,hy4,q4⟩
  |true =>
   rw [if_pos rfl] at q4 ⊢
   refine se.fz I4 q4 fun d v δ5 F5 H5 s5 I5 r5 q5=>?_
   refine ⟨I5.base _ _ z0d,by rw [← rv.len];exact q5.1,F5,_,acc ++ [d],((s1.trans s2).trans s4).trans s5,?_,z0d,q5.2⟩
   exact (back I5).unhide hH0 hF0 ((Reps.mono ((s2.trans s4).trans s5) _ _ rv).app (.one r5))
 ·have e:i=ds.length:=by omega
  subst e
  rw [List.drop_length] at p1
  exact .inl ⟨o2 rfl,k true _ _ δ1 F1 H1 (sf.trans s1) I1 (fin acc δ1 p1)⟩
def tOf (td:TEd):TE:=fun σ H Q=>∃ io H0 F0 F δ Qd,EI io H0 F0 F δ σ H∧td δ Qd∧∀ b d v δ' F' H',Same F F'→EI (none::io) H0 F0 F' (rsl b d::δ') (some v::σ) H'→Qd b d δ'→Q v H'
theorem y4z (td:TEd):Sim (tOf td) td:=fun io H0 F0 F δ σ H Q Qd I q k=>⟨io,H0,F0,F,δ,Qd,I,q,k⟩
theorem DE.pe {X:Cx}{e:Expr}{td:TEd}(h:DE X e td):PE X e (tOf td):=by
 obtain ⟨te,p,s⟩:=h
 intro pins s' σ H Q I q
 obtain ⟨io,H0,F0,F,δ,Qd,J,q,k⟩:=q
 exact p pins s' σ H Q I (s io H0 F0 F δ σ H Q Qd J q k)
def ttOf (td:TTd):TT:=fun σ H Q=>∃ io H0 F0 F δ Qd,EI io H0 F0 F δ σ H∧td δ Qd∧∀ b δ' F' H',Same F F'→EI io H0 F0 F' δ' σ H'→Qd b δ'→Q b H'
theorem y0r (td:TTd):SimT (ttOf td) td:=fun io H0 F0 F δ σ H Q Qd I q k=>⟨io,H0,F0,F,δ,Qd,I,q,k⟩
theorem DF.pf {X:Cx}{e:List Expr}{td:TTd}(h:DF X e td):PF X e (ttOf td):=by
 obtain ⟨te,p,s⟩:=h
 intro pins s' σ H Q I q
 obtain ⟨io,H0,F0,F,δ,Qd,J,q,k⟩:=q
 exact p pins s' σ H Q I (s io H0 F0 F δ σ H Q Qd J q k)
def tgOf (n:Nat) (gd:TGd):TG:=fun v σ H Q=>∃ io H0 F0 F δ d Qd,EI io H0 F0 F δ σ H∧Rep F d v∧gd d δ Qd∧∀ δ' σ',EI io H0 F0 F δ' σ' H→σ'.drop n=σ.drop n→σ'.length=σ.length→Qd δ'→Q σ' H
theorem y2f (n:Nat) (gd:TGd):SimGn n (tgOf n gd) gd:=fun io H0 F0 F δ σ H d v Q Qd I r q k=>⟨io,H0,F0,F,δ,d,Qd,I,r,q,k⟩
theorem DGn.pg {X:Cx}{n:Nat}{e:Expr}{gd:TGd}(h:DGn X n e gd):PG X e (tgOf n gd):=by
 obtain ⟨g,p,s⟩:=h
 intro pins s' σ H v u Q I r q
 obtain ⟨io,H0,F0,F,δ,d,Qd,J,rd,q,k⟩:=q
 exact p pins s' σ H v u Q I r (s io H0 F0 F δ σ H d v Q Qd J rd q k)
section
variable {X:Cx}
theorem z5v {elt iter tg:Expr}(xs:List Str) {pos:Pos}{ifs:List Expr}{sc:Scope}(M:List Str) {di:TLd}{gd:TGd}{cd:TTd}{ed:TEd}(hc:X.calm=true) (S:CScopeG X.env.scope X.N xs sc M) (hi:DI X tg iter di) (hg:∀ pins ex H₀ s₀ C,DGn (z2w X sc (xs ++ M) pins ex H₀ s₀ C) xs.length tg gd)
  (ht:∀ pins ex H₀ s₀ C,DF (z2w X sc (xs ++ M) pins ex H₀ s₀ C) ifs cd) (he:∀ pins ex H₀ s₀ C,DE (z2w X sc (xs ++ M) pins ex H₀ s₀ C) elt ed)
  (hs:∀ v,foldedSetIterable iter X.env v=pure v:=by intro _;rfl):DE X (.ListComp elt [⟨tg,iter,ifs,0⟩] sc pos) (dComp xs.length di gd cd ed):=by
 obtain ⟨wi,p2,s2⟩:=hi
 exact ⟨_,z7s xs M hc (fun pins ex H₀ s₀ C=>(hg pins ex H₀ s₀ C).pg) S p2 (fun pins ex H₀ s₀ C=>(ht pins ex H₀ s₀ C).pf) (fun pins ex H₀ s₀ C=>(he pins ex H₀ s₀ C).pe) hs,y5q s2 (y2f _ _) (y0r _) (y4z _)⟩
theorem y4k {elt iter tg:Expr}{y:Str}(xs:List Str) {py pos spos:Pos}{ifs:List Expr}{sc:Scope}{j:Nat}(M:List Str) {di:TLd}{gd:TGd}{cd:TTd}{ed:TEd}(hN:X.N.Nodup) (hj:X.N[j]? = some y) (hy:X.env.scope.names.lookup y=some .local) (hc:X.calm=true) (S:CScopeG X.env.scope X.N xs sc M) (hi:DI X tg iter di)
  (hg:∀ pins ex H₀ s₀ C,DGn (z2w X sc (xs ++ M) pins ex H₀ s₀ C) xs.length tg gd) (ht:∀ pins ex H₀ s₀ C,DF (z2w X sc (xs ++ M) pins ex H₀ s₀ C) ifs cd) (he:∀ pins ex H₀ s₀ C,DE (z2w X sc (xs ++ M) pins ex H₀ s₀ C) elt ed)
  (hsw:swapsWith (.ListComp elt [⟨tg,iter,ifs,0⟩] sc pos) (some (.Name y py)) spos.line X.env=pure true:=by rfl)
  (hs:∀ v,foldedSetIterable iter X.env v=pure v:=by intro _;rfl):DS X (.Assign [.Name y py] (.ListComp elt [⟨tg,iter,ifs,0⟩] sc pos) spos) (dSet j (dComp xs.length di gd cd ed)):=by
 obtain ⟨wi,p2,s2⟩:=hi
 exact ⟨_,y6p xs M hN hj hy hc (fun pins ex H₀ s₀ C=>(hg pins ex H₀ s₀ C).pg) S p2 (fun pins ex H₀ s₀ C=>(ht pins ex H₀ s₀ C).pf) (fun pins ex H₀ s₀ C=>(he pins ex H₀ s₀ C).pe) hsw hs,y6q (y5q s2 (y2f _ _) (y0r _) (y4z _))⟩
end
end VL
namespace VL
open PySem L2
section
variable {X:Cx}{pos:Pos}
theorem de_gS {x:Str}{z:Str}{pos:Pos}(hg:Gl X x) (hm:∃ t,X.mg x=some (.str z t)) (hd:(x == ("__debug__":Str))=false:=by decide):DE X (.Name x pos) (dC (.str z)):=by
 obtain ⟨t,hm⟩:=hm;exact de_glob (v:=.str z) (fun _=>rfl) hg hm ⟨t,rfl⟩ hd
abbrev TOd:=List Slot→(Option Int→List Slot→Prop)→Prop
def SimO (t:TO) (td:TOd):Prop:=∀ (io:List (Option Addr)) (H0 F0 F:Hp) (δ:List Slot) (σ:St) (H:Hp) (Q:Option Int→Hp→Prop) (Qd:Option Int→List Slot→Prop),EI io H0 F0 F δ σ H→td δ Qd →
 (∀ o δ' F' H',Same F F'→EI io H0 F0 F' δ' σ H'→Qd o δ'→Q o H')→t σ H Q
def DO (X:Cx) (e:Option Expr) (td:TOd):Prop:=∃ t,PO X e t∧SimO t td
def doN:TOd:=fun δ Q=>Q none δ
def doS (t:TEd):TOd:=fun δ Q=>t δ fun _ d δ'=>∃ i,d = .int i∧Q (some i) δ'
theorem z3h:DO X none doN:=⟨_,po_none,fun io H0 F0 F δ σ H Q Qd I q k=>k none δ F H (Same.refl _) I q⟩
theorem z3f {e:Expr}{t:TEd}(h:DE X e t):DO X (some e) (doS t):=by
 obtain ⟨t,p,s⟩:=h
 refine ⟨_,po_some p,fun io H0 F0 F δ σ H Q Qd I q k=>s.fz I q fun d v δ' F' H' sf I' r q'=>?_⟩
 obtain ⟨i,rfl,q'⟩:=q'
 exact ⟨i,r,k (some i) δ' F' H' sf I' q'⟩
def cutD (xs:List D) (lo hi:Option Int):List D:=(xs.drop (HT.sIx xs.length 0 lo)).take (HT.sIx xs.length xs.length hi - HT.sIx xs.length 0 lo)
theorem Reps.cut {F:Hp}{ds:List D}{vs:List V}(r:Reps F ds vs) (lo hi:Option Int):Reps F (cutD ds lo hi) (cutV vs lo hi):=by
 unfold cutD cutV
 rw [r.len]
 exact (r.drop _).take _
def dSlLV (i:Nat) (l h:TOd):TEd:=fun δ Q=>(peek δ i).isSome=true∧l δ fun lo δ2=>h δ2 fun hi δ3=>∃ xs,peek δ3 i=some (.lst xs)∧Q true (.lst (cutD xs lo hi)) δ3
def dSlS (t:TEd) (l h:TOd):TEd:=fun δ Q=>t δ fun _ d δ1=>l δ1 fun lo δ2=>h δ2 fun hi δ3=>∃ z,d = .str z∧z.length≤sizeLine∧Q false (.str (Txt.slice z lo hi)) δ3
variable {e:Expr}{lo hi:Option Expr}{p2:Pos}{t:TEd}{l h:TOd}
theorem z2c {i:Nat}{x:Str}{p:Pos}(ho:PE X (.Name x p) (tVar i)) (hl:DO X lo l) (hh:DO X hi h):DE X (.Subscript (.Name x p) (.Slice lo hi none p2) pos) (dSlLV i l h):=by
 obtain ⟨t2,p2,s2⟩:=hl;obtain ⟨t3,p3,s3⟩:=hh
 refine ⟨_,y2b sl_lst ho p2 p3,fun io H0 F0 F δ σ H Q Qd I q k=>?_⟩
 obtain ⟨p0,q⟩:=q
 obtain ⟨d0,e0⟩:=Option.isSome_iff_exists.mp p0
 obtain ⟨v0,ev,_⟩:=I.pk e0
 refine ⟨v0,ev,s2 io H0 F0 F δ σ H _ _ I q fun lo δ2 F2 H2 f2 I2 q2=>s3 io H0 F0 F2 δ2 σ H2 _ _ I2 q2 fun hi δ3 F3 H3 f3 I3 q3=>?_⟩
 obtain ⟨xs,e3,q3⟩:=q3
 obtain ⟨v,ev',pk⟩:=I3.pk e3
 rw [ev] at ev';cases ev'
 obtain ⟨a,vs,rfl,h1,r⟩:=pk.lst I3
 exact ⟨a,rfl,vs,h1,fun p hp=>k true _ _ δ3 F3 _ (f2.trans f3) (I3.newL hp (r.cut lo hi)) q3⟩
theorem y3b (he:DE X e t) (hl:DO X lo l) (hh:DO X hi h):DE X (.Subscript e (.Slice lo hi none p2) pos) (dSlS t l h):=by
 obtain ⟨t1,p1,s1⟩:=he;obtain ⟨t2,p2,s2⟩:=hl;obtain ⟨t3,p3,s3⟩:=hh
 refine ⟨_,y2b sl_str p1 p2 p3,fun io H0 F0 F δ σ H Q Qd I q k=>s1.fz I q fun d v δ1 F1 H1 f1 I1 r1 q1=>s2 io H0 F0 F1 δ1 σ H1 _ _ I1 q1 fun lo δ2 F2 H2 f2 I2 q2=>s3 io H0 F0 F2 δ2 σ H2 _ _ I2 q2 fun hi δ3 F3 H3 f3 I3 q3=>?_⟩
 obtain ⟨z,rfl,hz,q3⟩:=q3
 exact ⟨z,r1,hz,k false _ _ δ3 F3 _ ((f1.trans f2).trans f3) I3.pS q3⟩
def dJoin (ta tb:TEd):TEd:=fun δ Q=>ta δ fun _ x δ1=>∃ sep,x = .str sep∧tb δ1 fun _ y δ2=>∃ ts:List Str,y = .lst (ts.map .str)∧JoinOk sep ts=true∧Q false (.str (Txt.join sep ts)) δ2
theorem de_join {a b:Expr}{ta tb:TEd}{apos cpos:Pos}(ha:DE X a ta) (hb:DE X b tb)
  (hbase:attributeBase a "join" X.env (eval a X.env)=eval a X.env:=by rfl)
  (hfew:((backTo cpos (starEach [b] X.env)).all (fun x=>!x.1) && (backToKw cpos (keywordEach [] X.env)).all (fun x=>x.1.isSome)
   && decide ([b].length+([]:List Keyword).length+(if ([]:List Keyword).isEmpty then 0 else 1) < 30))=true:=by rfl)
  (hline:(apos.endLine == cpos.line)=true:=by rfl) (hst:starEach [b] X.env=(false,eval b X.env)::starEach [] X.env:=by rfl) (hplain:(backTo cpos (starEach [] X.env)).any (·.1)=false:=by rfl) :
  DE X (.Call (.Attribute a "join" apos) [b] [] cpos) (dJoin ta tb):=by
 obtain ⟨t1,p1,s1⟩:=ha;obtain ⟨t2,p2,s2⟩:=hb
 refine ⟨_,pe_bm PySem.F.plainAttrs_str PySem.F.slot_str_join PySem.F.type_str_join mt_join p1 (z0b p2 z0j hst) hbase hfew hline hst hplain,fun io H0 F0 F δ σ H Q Qd I q k=>s1.fz I q fun d v δ1 F1 H1 f1 I1 r1 q1=>?_⟩
 obtain ⟨sep,rfl,q1⟩:=q1
 cases (show v = .str sep from r1)
 refine ⟨rfl,s2.fz I1 q1 fun d v δ2 F2 H2 f2 I2 r2 q2=>?_⟩
 obtain ⟨ts,rfl,ok,q2⟩:=q2
 obtain ⟨a,vs,rfl,h1,r⟩:=r2
 rw [r.strs] at h1
 exact ⟨sep,a,rfl,rfl,ts,I2.sub _ _ h1,ok,k false _ _ δ2 F2 H2 (f1.trans f2) I2.pS q2⟩
end
def getS (kds:List (Key × D)) (k:Str):Option D:=(kds.find? fun kv=>decide (kv.1=Sum.inr k)).map (·.2)
def putS (kds:List (Key × D)) (k:Str) (d:D):List (Key × D):=if (kds.any fun kv=>decide (kv.1=Sum.inr k))=true then kds.map (fun kv=>if kv.1=Sum.inr k then (kv.1,d) else kv) else kds ++ [(Sum.inr k,d)]
theorem RepK.len {F:Hp}:∀ {ds:List (Key × D)}{vs:List (Key × V)},RepK F ds vs→ds.length=vs.length
 | [],vs,h=>by cases (show vs=[] from h);rfl
 |d::ds,vs,h=>by obtain ⟨v,r,rfl,h1,h2⟩:=h;simp [RepK.len h2]
theorem RepK.val {F:Hp}(k:Str):∀ {ds:List (Key × D)}{vs:List (Key × V)},RepK F ds vs→(∀ d,getS ds k=some d→∃ v,valV vs (Sum.inr k)=some v∧Rep F d v)∧(getS ds k=none→valV vs (Sum.inr k)=none)
 | [],vs,h=>by cases (show vs=[] from h);exact ⟨fun d e=>by simp [getS] at e,fun _=>rfl⟩
 |(k',d)::ds,vs,h=>by
  obtain ⟨⟨q1,q2⟩,r,rfl,⟨e1,r1⟩,h2⟩:=h
  have ih:=RepK.val k h2
  cases (show q1=k' from e1)
  by_cases hk:k' = Sum.inr k
  ·refine ⟨fun d' e=>⟨q2,by simp [valV,hk],?_⟩,fun e=>by simp [getS,hk] at e⟩
   simp [getS,hk] at e
   subst e
   exact r1
  ·refine ⟨fun d' e=>?_,fun e=>?_⟩
   ·obtain ⟨v,e2,r2⟩:=ih.1 d' (by simpa [getS,List.find?_cons,hk] using e)
    exact ⟨v,by simpa [valV,List.find?_cons,hk] using e2,r2⟩
   ·have:=ih.2 (by simpa [getS,List.find?_cons,hk] using e)
    simpa [valV,List.find?_cons,hk] using this
theorem RepK.any {F:Hp}(k:Key):∀ {ds:List (Key × D)}{vs:List (Key × V)},RepK F ds vs→(ds.any fun kv=>decide (kv.1=k))=(vs.any fun kv=>decide (kv.1=k))
 | [],vs,h=>by cases (show vs=[] from h);rfl
 |(k',d)::ds,vs,h=>by
  obtain ⟨⟨q1,q2⟩,r,rfl,⟨e1,r1⟩,h2⟩:=h
  cases (show q1=k' from e1)
  simp [RepK.any k h2]
theorem RepK.app {F:Hp}:∀ {ds es:List (Key × D)}{vs us:List (Key × V)},RepK F ds vs→RepK F es us→RepK F (ds ++ es) (vs ++ us)
 | [],es,vs,us,h,h'=>by cases (show vs=[] from h);exact h'
 |d::ds,es,vs,us,h,h'=>by obtain ⟨v,r,rfl,h1,h2⟩:=h;exact ⟨v,r ++ us,rfl,h1,RepK.app h2 h'⟩
theorem RepK.upd {F:Hp}(k:Key) {d:D}{v:V}(hv:Rep F d v):∀ {ds:List (Key × D)}{vs:List (Key × V)},RepK F ds vs→RepK F (ds.map fun kv=>if kv.1=k then (kv.1,d) else kv) (vs.map fun kv=>if kv.1=k then (kv.1,v) else kv)
 | [],vs,h=>by cases (show vs=[] from h);rfl
 |(k',d')::ds,vs,h=>by
  obtain ⟨⟨q1,q2⟩,r,rfl,⟨e1,r1⟩,h2⟩:=h
  cases (show q1=k' from e1)
  refine ⟨_,_,rfl,?_,RepK.upd k hv h2⟩
  by_cases hk:k' = k
  ·simp only [hk,if_true];exact (show RepP F (k,d) (k,v) from ⟨rfl,hv⟩)
  ·simp only [hk,if_false];exact (show RepP F (k',d') (k',q2) from ⟨rfl,r1⟩)
theorem RepK.put {F:Hp}{ds:List (Key × D)}{vs:List (Key × V)}(r:RepK F ds vs) (k:Str) {d:D}{v:V}(hv:Rep F d v):RepK F (putS ds k d) (putK vs (Sum.inr k) v):=by
 unfold putS putK
 rw [r.any]
 split
 ·exact r.upd _ hv
 ·exact r.app ⟨_,[],rfl,⟨rfl,hv⟩,rfl⟩
section
variable {X:Cx}{pos:Pos}
def dDict0:TEd:=fun δ Q=>Q true (.dct []) δ
theorem z5i:DE X (.Dict [] [] pos) dDict0:=⟨_,y6w,fun io H0 F0 F δ σ H Q Qd I q k p hp=>k true (.dct []) _ δ F _ (Same.refl _) (I.newD (ds:=[]) (vs:=[]) hp rfl) q⟩
def dDGetV (i:Nat) (ti:TEd):TEd:=fun δ Q=>(peek δ i).isSome=true∧ti δ fun _ y δ'=>∃ kds k d,peek δ' i=some (.dct kds)∧y = .str k∧getS kds k=some d∧Q false d δ'
theorem de_dgetV {i:Nat}{x:Str}{p:Pos}{ie:Expr}{ti:TEd}(hu:X.A.units+100 < cLine) (ho:PE X (.Name x p) (tVar i)) (hi:DE X ie ti) (hs:NoSl ie:=by intro _ _;rfl):DE X (.Subscript (.Name x p) ie pos) (dDGetV i ti):=by
 obtain ⟨t,pi,si⟩:=hi
 refine ⟨_,y4j (by omega) ho pi hs,fun io H0 F0 F δ σ H Q Qd I q k=>?_⟩
 obtain ⟨p0,q⟩:=q
 obtain ⟨d0,e0⟩:=Option.isSome_iff_exists.mp p0
 obtain ⟨v0,ev,_⟩:=I.pk e0
 refine ⟨v0,ev,si.fz I q fun d v δ1 F1 H1 f1 I1 r1 q1=>?_⟩
 obtain ⟨kds,key,dd,e1,rfl,eg,q1⟩:=q1
 obtain ⟨v,ev',pk⟩:=I1.pk e1
 rw [ev] at ev';cases ev'
 obtain ⟨a,kvs,rfl,h1,rk⟩:=pk.dct I1
 cases (show _=V.str key from r1)
 obtain ⟨w,ew,rw'⟩:=(rk.val key).1 dd eg
 exact ⟨a,w,rfl,DGet.s h1 ew,k false _ _ δ1 F1 H1 f1 (I1.pushF rw') q1⟩
def y5l (neg:Bool) (ti:TEd) (i:Nat):TEd:=fun δ Q=>ti δ fun _ y δ'=>∃ kds k,peek δ' i=some (.dct kds)∧y = .str k∧Q false (.bl (if neg then !(getS kds k).isSome else (getS kds k).isSome)) δ'
theorem y5d {ti:TE}{td:TEd}{i:Nat}(si:Sim ti td):Sim (tDIn ti (tVar i)) (y5l false td i)∧Sim (z4w ti (tVar i)) (y5l true td i):=by
 refine ⟨fun io H0 F0 F δ σ H Q Qd I q k=>si.fz I q fun d v δ1 F1 H1 f1 I1 r1 q1=>?_,fun io H0 F0 F δ σ H Q Qd I q k=>si.fz I q fun d v δ1 F1 H1 f1 I1 r1 q1=>?_⟩ <;>
 ·obtain ⟨kds,key,e1,rfl,q1⟩:=q1
  obtain ⟨w,ew,pk⟩:=I1.pk e1
  obtain ⟨a,kvs,rfl,h1,rk⟩:=pk.dct I1
  cases (show v=V.str key from r1)
  have e:(valV kvs (Sum.inr key)).isSome=(getS kds key).isSome:=by
   cases eg:getS kds key with
   |none=>rw [(rk.val key).2 eg];rfl
   |some d=>obtain ⟨w,ew,_⟩:=(rk.val key).1 d eg;rw [ew];rfl
  refine ⟨_,ew,a,_,rfl,DGet.o h1,k false _ _ δ1 F1 H1 f1 (I1.pushF ?_) q1⟩
  rw [e];rfl
theorem de_dinV {i:Nat}{x:Str}{p:Pos}{e:Expr}{ti:TEd}(hu:X.A.units+100 < cLine) (hi:DE X e ti) (ho:PE X (.Name x p) (tVar i)) (hm:behindInMarks .In (.Name x p)=false:=by rfl):DE X (.Compare e [.In] [.Name x p] pos) (y5l false ti i):=by
 obtain ⟨t,pi,si⟩:=hi;exact ⟨_,pe_cmp (y6m (by omega) pi ho) hm,(y5d si).1⟩
theorem dt_dinV {i:Nat}{x:Str}{p:Pos}{e:Expr}{ti:TEd}(hu:X.A.units+100 < cLine) (hi:DE X e ti) (ho:PE X (.Name x p) (tVar i)) (hm:behindInMarks .In (.Name x p)=false:=by rfl):DT X (.Compare e [.In] [.Name x p] pos) (z9e (y5l false ti i)):=by
 obtain ⟨t,pi,si⟩:=hi;exact ⟨_,z9o (y6m (by omega) pi ho) hm,z7q (y5d si).1⟩
theorem y0 {i:Nat}{x:Str}{p:Pos}{e:Expr}{ti:TEd}(hu:X.A.units+100 < cLine) (hi:DE X e ti) (ho:PE X (.Name x p) (tVar i)) (hm:behindInMarks .NotIn (.Name x p)=false:=by rfl):DT X (.Compare e [.NotIn] [.Name x p] pos) (z9e (y5l true ti i)):=by
 obtain ⟨t,pi,si⟩:=hi;exact ⟨_,z9o (z8a (by omega) pi ho) hm,z7q (y5d si).2⟩
def dDPut (i:Nat) (ti tv:TEd):TSd:=fun E δ=>tv δ fun _ v δ1=>(peek δ1 i).isSome=true∧ti δ1 fun _ y δ2=>∃ fl kds k,δ2[i]? = some (.ob fl (.dct kds))∧y = .str k∧kds.length < sizeLine∧E.nx (δ2.set i (.ob fl (.dct (putS kds k v))))
theorem y1p {i:Nat}{x:Str}{p pos':Pos}{ie ve:Expr}{ti tv:TEd}(hu:X.A.units+100 < cLine) (ho:PE X (.Name x p) (tVar i)) (hi:DE X ie ti) (hv:DE X ve tv) (hs:swapsWith ve (some (.Subscript (.Name x p) ie pos')) pos.line X.env=pure false:=by rfl):DS X (.Assign [.Subscript (.Name x p) ie pos'] ve pos) (dDPut i ti tv):=by
 obtain ⟨t,pi,si⟩:=hi;obtain ⟨t',pv,sv⟩:=hv
 refine ⟨_,ps_dput (by omega) ho pi pv hs,fun io H0 F0 F δ σ H E Ed I q S=>sv.fz I q fun d v δ1 F1 H1 s1 I1 r1 q1=>?_⟩
 obtain ⟨p0,q1⟩:=q1
 obtain ⟨d0,e0⟩:=Option.isSome_iff_exists.mp p0
 obtain ⟨v0,ev,_⟩:=I1.pk e0
 refine ⟨v0,ev,si.fz I1 q1 fun y u δ2 F2 H2 s2 I2 r2 q2=>?_⟩
 obtain ⟨fl,kds,key,ec,rfl,hl,q2⟩:=q2
 obtain ⟨a',ea,n1,n2,⟨kvs,hc,rc⟩,hio⟩:=I2.get i _ ec
 have e:=z2x ea
 rw [ev] at e;cases e
 cases (show u=V.str key from r2)
 exact ⟨a',_,rfl,DPut.s hc (by rw [← rc.len];exact hl),S.nx F2 _ σ _ (s1.trans s2) (I2.change (c':=.dct (putS kds key d)) ec ea ⟨_,z0d,rc.put key (Rep.mono s2 _ _ r1)⟩) q2⟩
def fDictOf:List D→(Bool→D→Prop)→Prop:=fun ds Q=>∃ ps:List (Str × D),ds=[.lst (ps.map fun p=>.tup [.str p.1,p.2])]∧Q true (.dct (ps.foldl (fun acc p=>putS acc p.1 p.2) []))
theorem z5k {F:Hp}:∀ {ps:List (Str × D)}{ys:List V},Reps F (ps.map fun p=>D.tup [.str p.1,p.2]) ys→∃ qs:List (Key × V),qs.length=ys.length∧(∀ (i:Nat) y kv,ys[i]? = some y→qs[i]? = some kv→∃ b,y = .ref b∧F b=some (.tup [kV kv.1,kv.2])) ∧
  ∀ (kds:List (Key × D)) (kvs:List (Key × V)),RepK F kds kvs→RepK F (ps.foldl (fun acc p=>putS acc p.1 p.2) kds) (z2n kvs qs)
 | [],ys,h=>by cases (show ys=[] from h);exact ⟨[],rfl,fun i y kv e=>by simp at e,fun _ _ r=>r⟩
 |(k,d)::ps,ys,h=>by
  obtain ⟨y,r,rfl,⟨b,vs,rfl,hb,rv⟩,h2⟩:=h
  obtain ⟨v1,r1,rfl,e1,v2,r2,rfl,e2,e3⟩:=rv
  cases (show v1=V.str k from e1)
  cases (show r2=[] from e3)
  obtain ⟨qs,l,hq,hm⟩:=z5k h2
  refine ⟨(Sum.inr k,v2)::qs,by simp [l],fun i y kv g1 g2=>?_,fun kds kvs r=>hm _ _ (r.put k e2)⟩
  cases i with
  |zero=>simp at g1 g2;subst g1 g2;exact ⟨b,rfl,hb⟩
  |succ i=>exact hq i y kv (by simpa using g1) (by simpa using g2)
theorem cs_dict:z8p (fun xs H Q=>∃ p ys,xs=[.ref p]∧H p=some (.lst ys)∧∃ ps:List (Key × V),ps.length=ys.length∧(∀ (i:Nat) y kv,ys[i]? = some y→ps[i]? = some kv→∃ b,y = .ref b∧H b=some (.tup [kV kv.1,kv.2])) ∧
  ∀ l,H l=none→Q (.ref l) (upd H l (.dK (z2n [] ps)))) fDictOf:=by
 intro io H0 F0 F δ σ H xs vs Q Qd I px q k
 obtain ⟨ps,rfl,q⟩:=q
 obtain ⟨v,rfl,pk⟩:=pks1 px
 obtain ⟨a,us,rfl,h1,r⟩:=pk.lst I
 obtain ⟨qs,l,hq,hm⟩:=z5k r
 refine ⟨a,us,rfl,h1,qs,l,fun i y kv e1 e2=>?_,fun p hp=>k true _ _ F _ (Same.refl _) (I.newD hp (hm [] [] rfl)) q⟩
 obtain ⟨b,e,hb⟩:=hq i y kv e1 e2
 exact ⟨b,e,I.sub _ _ hb⟩
end
end VL
namespace VL
open PySem L2
def dSlC (K:PySem.W.Frag) (i:Nat) (l h:TOd):TEd:=fun δ Q=>∃ ns,δ[i]? = some (.sc K ns)∧l δ fun lo δ2=>h δ2 fun hi δ3=>Q true (.lst (cutD (ns.map .int) lo hi)) δ3
theorem cut_ints (ns:List Int) (lo hi:Option Int):∃ ms:List Int,cutD (ns.map .int) lo hi=ms.map .int∧cutV (ns.map .int) lo hi=ms.map .int:=by
 refine ⟨(ns.drop (HT.sIx ns.length 0 lo)).take (HT.sIx ns.length ns.length hi - HT.sIx ns.length 0 lo),?_,?_⟩
 ·unfold cutD;simp [List.map_take,List.map_drop]
 ·unfold cutV;simp [List.map_take,List.map_drop]
theorem y3c {F:Hp}:∀ ms:List Int,Reps F (ms.map .int) (ms.map .int)
 | []=>rfl
 |m::ms=>⟨_,_,rfl,rfl,y3c ms⟩
section
variable {X:Cx}{pos p2:Pos}{lo hi:Option Expr}{l h:TOd}
theorem de_sliceC {K:PySem.W.Frag}(hK:X.K=K) {i:Nat}{x:Str}{p:Pos}(ho:PE X (.Name x p) (tVar i)) (hl:DO X lo l) (hh:DO X hi h):DE X (.Subscript (.Name x p) (.Slice lo hi none p2) pos) (dSlC K i l h):=by
 subst hK
 obtain ⟨t2,p2,s2⟩:=hl;obtain ⟨t3,p3,s3⟩:=hh
 refine ⟨_,y2b sl_list ho p2 p3,fun io H0 F0 F δ σ H Q Qd I q k=>?_⟩
 obtain ⟨ns,e,q⟩:=q
 obtain ⟨a,ea,sq⟩:=I.get i _ e
 refine ⟨.ref a,z2x ea,s2 io H0 F0 F δ σ H _ _ I q fun lo δ2 F2 H2 f2 I2 q2=>s3 io H0 F0 F2 δ2 σ H2 _ _ I2 q2 fun hi δ3 F3 H3 f3 I3 q3=>?_⟩
 refine ⟨a,_,rfl,I3.sub.seq ((f2.trans f3).seq sq),fun p hp=>?_⟩
 obtain ⟨ms,e1,e2⟩:=cut_ints ns lo hi
 rw [e1] at q3
 rw [e2]
 exact k true _ _ δ3 F3 _ (f2.trans f3) (I3.newL hp (y3c ms)) q3
end
def LoopD (ds:List D) (g:TGd) (tb:TSd) (E:EndsD) (δ:List Slot):Prop:=∃ (fg:List Nat) (P:List D→List Slot→Prop),P ds (fgt fg δ) ∧
 (∀ d r δ,P (d::r) δ→g d δ fun δ2=>tb { E with nx:=fun δ'=>P r (fgt fg δ'),ct:=fun δ'=>P r (fgt fg δ'),bk:=E.nx } δ2)∧∀ δ,P [] δ→E.nx δ
theorem dFor_eq {di:TLd}{g:TGd}{tb:TSd}{E:EndsD}{δ:List Slot}:dFor di g tb E δ=di δ fun ds δ'=>LoopD ds g tb E δ':=rfl
theorem z5w {ds:List D}{g:TGd}{tb:TSd}{E:EndsD}{δ:List Slot}(fg:List Nat) (P:List D→List Slot→Prop) (h0:P ds (fgt fg δ)) (hs:∀ d r δ,P (d::r) δ→g d δ fun δ2=>tb { E with nx:=fun δ'=>P r (fgt fg δ'),ct:=fun δ'=>P r (fgt fg δ'),bk:=E.nx } δ2) (hd:∀ δ,P [] δ→E.nx δ):LoopD ds g tb E δ:=⟨fg,P,h0,hs,hd⟩
theorem rngD_drop (lo:Int) (n i:Nat) (h:i < n):(rngD lo n).drop i = .int (lo+i)::(rngD lo n).drop (i+1):=by
 have hl:i < (rngD lo n).length:=by simpa [rngD] using h
 rw [List.drop_eq_getElem_cons hl]
 simp [rngD]
theorem y4t {lo:Int}{n:Nat}{g:TGd}{tb:TSd}{E:EndsD}{δ:List Slot}(fg:List Nat) (P:Nat→List Slot→Prop) (h0:P 0 (fgt fg δ)) (hs:∀ i δ,i < n→P i δ→g (.int (lo+i)) δ fun δ2=>tb { E with nx:=fun δ'=>P (i+1) (fgt fg δ'),ct:=fun δ'=>P (i+1) (fgt fg δ'),bk:=E.nx } δ2) (hd:∀ δ,P n δ→E.nx δ):LoopD (rngD lo n) g tb E δ:=by
 have len:∀ i,i≤n→((rngD lo n).drop i).length=n - i:=fun i _=>by simp [rngD]
 have key:∀ i,i≤n→(fun δ=>(rngD lo n).drop i=(rngD lo n).drop (n - ((rngD lo n).drop i).length)∧P (n - ((rngD lo n).drop i).length) δ)=P i:=by
  intro i hi
  funext δ
  rw [len i hi,show n - (n - i)=i by omega]
  simp
 refine ⟨fg,fun r δ=>r=(rngD lo n).drop (n - r.length)∧P (n - r.length) δ,?_,?_,?_⟩
 ·have:=congrFun (key 0 (Nat.zero_le _)) (fgt fg δ)
  simp only [List.drop_zero] at this
  exact this.mpr h0
 ·rintro d r δ ⟨e,p⟩
  have hlt:n - (d::r).length < n:=by
   have hle:(d::r).length≤n:=by
    rw [e];simp [rngD]
   simp at hle ⊢;omega
  generalize hi:n - (d::r).length=i at e p hlt
  rw [rngD_drop lo n i hlt] at e
  cases e
  have q:=hs i δ hlt p
  rw [← key (i+1) hlt] at q
  exact q
 ·rintro δ ⟨_,p⟩
  exact hd δ (by simpa using p)
def CompD (n:Nat) (ds:List D) (gd:TGd) (tc:TTd) (te:TEd) (Q:Bool→D→List Slot→Prop) (δ:List Slot):Prop:=∃ P:List D→List D→List Slot→Prop,P ds [] δ ∧
 (∀ d r acc δ1,P (d::r) acc δ1→gd d (List.replicate n .no ++ δ1) fun δ2=>tc δ2 fun b δ3=>if b=true then te δ3 fun _ y δ4=>acc.length < sizeLine∧P r (acc ++ [y]) (δ4.drop n) else P r acc (δ3.drop n)) ∧
 ∀ acc δ1,P [] acc δ1→Q true (.lst acc) δ1
theorem dComp_eq {n:Nat}{di:TLd}{gd:TGd}{tc:TTd}{te:TEd}{δ:List Slot}{Q:Bool→D→List Slot→Prop}:dComp n di gd tc te δ Q=di δ fun ds δ'=>CompD n ds gd tc te Q δ':=rfl
inductive All2 {α β:Type}(G:α→β→Prop):List α→List β→Prop
 |nil:All2 G [] []
 |cons {a b as bs}:G a b→All2 G as bs→All2 G (a::as) (b::bs)
theorem All2.snoc {α β:Type}{G:α→β→Prop}{as:List α}{bs:List β}{a:α}{b:β}(h:All2 G as bs) (h':G a b):All2 G (as ++ [a]) (bs ++ [b]):=by
 induction h with
 |nil=>exact .cons h' .nil
 |cons g _ ih=>exact .cons g ih
theorem All2.len {α β:Type}{G:α→β→Prop}{as:List α}{bs:List β}(h:All2 G as bs):as.length=bs.length:=by
 induction h with
 |nil=>rfl
 |cons _ _ ih=>simp [ih]
theorem All2.map_eq {α β:Type}{G:α→β→Prop}{f:α→β}{as:List α}{bs:List β}(h:All2 G as bs) (e:∀ a b,a∈as→G a b→b=f a):bs=as.map f:=by
 induction h with
 |nil=>rfl
 |cons g _ ih=>simp [e _ _ List.mem_cons_self g,ih fun a b ha=>e a b (List.mem_cons_of_mem _ ha)]
theorem comp1 {ds:List D}{te:TEd}{Q:Bool→D→List Slot→Prop}{δ:List Slot}(G:D→D→Prop) (hl:ds.length≤sizeLine)
  (h:∀ d∈ds,∀ P:D→List Slot→Prop,(∀ y,G d y→P y (.fz d::δ))→te (.fz d::δ) fun _ y δ'=>P y δ') (q:∀ ys,All2 G ds ys→Q true (.lst ys) δ):CompD 1 ds (dgN 0) dYes te Q δ:=by
 refine ⟨fun r acc δ1=>δ1=δ∧∃ pre,ds=pre ++ r∧All2 G pre acc,⟨rfl,[],rfl,.nil⟩,?_,?_⟩
 ·rintro d r acc δ1 ⟨rfl,pre,e,hp⟩
  refine ⟨trivial,?_⟩
  unfold dYes
  dsimp only
  rw [if_pos rfl]
  have hl2:=hp.len
  have hlen:pre.length < sizeLine:=by rw [e] at hl;simp at hl;omega
  refine h d (by rw [e];simp) (fun y δ4=>acc.length < sizeLine∧List.drop 1 δ4=δ1∧∃ pre,ds=pre ++ r∧All2 G pre (acc ++ [y])) fun y hy=>?_
  exact ⟨by omega,rfl,pre ++ [d],by rw [e];simp,hp.snoc hy⟩
 ·rintro acc δ1 ⟨rfl,pre,e,hp⟩
  simp at e
  subst e
  exact q acc hp
theorem comp1f {ds:List D}{tc:TTd}{te:TEd}{Q:Bool→D→List Slot→Prop}{δ:List Slot}(c:D→Bool) (f:D→D) (hl:ds.length≤sizeLine)
  (hc:∀ d∈ds,∀ P:Bool→List Slot→Prop,P (c d) (.fz d::δ)→tc (.fz d::δ) P)
  (h:∀ d∈ds,c d=true→∀ P:D→List Slot→Prop,P (f d) (.fz d::δ)→te (.fz d::δ) fun _ y δ'=>P y δ') (q:Q true (.lst ((ds.filter c).map f)) δ):CompD 1 ds (dgN 0) tc te Q δ:=by
 refine ⟨fun r acc δ1=>δ1=δ∧∃ pre,ds=pre ++ r∧acc=(pre.filter c).map f,⟨rfl,[],rfl,rfl⟩,?_,?_⟩
 ·rintro d r acc δ1 ⟨rfl,pre,e,rfl⟩
  refine ⟨trivial,?_⟩
  have hd:d∈ds:=by rw [e];simp
  have hlen:pre.length < sizeLine:=by rw [e] at hl;simp at hl;omega
  refine hc d hd _ ?_
  cases hcd:c d with
  |false =>
   rw [if_neg Bool.false_ne_true]
   exact ⟨rfl,pre ++ [d],by rw [e];simp,by simp [List.filter_append,hcd]⟩
  |true =>
   rw [if_pos rfl]
   refine h d hd hcd _ ⟨?_,rfl,pre ++ [d],by rw [e];simp,by simp [List.filter_append,hcd]⟩
   have:=List.length_filter_le c pre
   simp;omega
 ·rintro acc δ1 ⟨rfl,pre,e,rfl⟩
  simp at e
  subst e
  exact q
theorem comp1m {ds:List D}{te:TEd}{Q:Bool→D→List Slot→Prop}{δ:List Slot}(f:D→D) (hl:ds.length≤sizeLine)
  (h:∀ d∈ds,∀ P:D→List Slot→Prop,P (f d) (.fz d::δ)→te (.fz d::δ) fun _ y δ'=>P y δ') (q:Q true (.lst (ds.map f)) δ):CompD 1 ds (dgN 0) dYes te Q δ:=by
 refine comp1 (fun d y=>y=f d) hl (fun d hd P hP=>h d hd P (hP _ rfl)) fun ys hys=>?_
 rw [hys.map_eq (f:=f) fun a b _ e=>e]
 exact q
theorem noIo_no {r:List Slot}:noIo (.no::r) 0=True:=rfl
theorem noIo_fz {d:D}{r:List Slot}:noIo (.fz d::r) 0=True:=rfl
theorem noIo_ob {d:D}{r:List Slot}:noIo (.ob false d::r) 0=True:=rfl
theorem noIo_s {s:Slot}{r:List Slot}{i:Nat}:noIo (s::r) (i+1)=noIo r i:=rfl
theorem keepIo_t {c:D}:y3l (.ob true c) = .ob true c:=rfl
theorem keepIo_fz {c:D}:y3l (.fz c) = .no:=rfl
theorem keepIo_no:y3l .no = .no:=rfl
theorem keepIo_sc {K:PySem.W.Frag}{c:List Int}:y3l (.sc K c) = .no:=rfl
theorem z4f {A:Around}{k:Nat}(hr:Room k A):A.units+100 < cLine:=by have:=hr.un;omega
theorem z5s {α:Type}{xs:List α}{i:Int}(h0:0≤i) (h1:i < xs.length):∃ d∈xs,atI xs i=some d:=by
 obtain ⟨j,rfl⟩:=Int.eq_ofNat_of_zero_le h0
 have hj:j < xs.length:=by omega
 exact ⟨xs[j],List.getElem_mem hj,z8n (List.getElem?_eq_getElem hj)⟩
theorem z3d {a b:Int}(h:0 < b):0≤a % b:=Int.emod_nonneg _ (by omega)
theorem z3c {a b:Int}(h:0 < b):a % b < b:=Int.emod_lt_of_pos _ h
def CompVD (i:Nat) (ds:List D) (n:Nat) (gd:TGd) (tc:TTd) (te:TEd) (Q:Bool→D→List Slot→Prop) (δ:List Slot):Prop:=∃ P:List D→List D→List Slot→Prop,P ds [] δ ∧
 (∀ d r acc δ1,P (d::r) acc δ1→peek δ1 i=some (.lst ds)∧gd d (List.replicate n .no ++ δ1) fun δ2=>tc δ2 fun b δ3=>if b=true then te δ3 fun _ y δ4=>acc.length < sizeLine∧P r (acc ++ [y]) (δ4.drop n) else P r acc (δ3.drop n)) ∧
 ∀ acc δ1,P [] acc δ1→peek δ1 i=some (.lst ds)∧Q true (.lst acc) δ1
def dCompV (i:Nat) (n:Nat) (gd:TGd) (tc:TTd) (te:TEd):TEd:=fun δ Q=>∃ ds,peek δ i=some (.lst ds)∧CompVD i ds n gd tc te Q δ
theorem sim_compV {K:PySem.W.Frag}{i:Nat}{n:Nat}{g:TG}{tc:TT}{te:TE}{gd:TGd}{cd:TTd}{ed:TEd}(sg:SimGn n g gd) (sc:SimT tc cd) (se:Sim te ed):Sim (y6n n (iList K (tVar i)) g tc te) (dCompV i n gd cd ed):=by
 intro io H0 F0 F δ σ H Q Qd I q k
 obtain ⟨ds,e0,P,p0,step,fin⟩:=q
 obtain ⟨v,ev,pk⟩:=I.pk e0
 obtain ⟨a,vs0,rfl,hv0,_⟩:=pk.lst I
 have at':∀ {io':List (Option Addr)}{H0' F' H':Hp}{δ':List Slot},EI io' H0' F0 F' δ' σ H'→peek δ' i=some (.lst ds)→∃ vs,H' a=some (.lst vs)∧Reps F' ds vs:=fun {io' H0' F' H' δ'} J e=>by
  obtain ⟨v,ev',pk⟩:=J.pk e
  rw [ev] at ev';cases ev'
  obtain ⟨a',vs,e',h,r⟩:=pk.lst J
  cases e'
  exact ⟨vs,h,r⟩
 refine ⟨_,ev,a,rfl,⟨vs0,SqL.of hv0⟩,fun Dp hD=>?_⟩
 have hF0:F0 Dp=none:=I.ext.free (I.sub.free hD)
 refine ⟨fun j m ys H=>m=ds.length - j∧j≤ds.length∧∃ F1 δ1 acc,Same F F1∧EI (none::io) H0 F0 F1 (.ob false (.lst acc)::δ1) (some (.ref Dp)::σ) H∧H Dp=some (.lst ys)∧P (ds.drop j) acc δ1,⟨ds.length,by simp,Nat.zero_le _,F,δ,[],Same.refl _,I.newL hD rfl,z0d,p0⟩,?_⟩
 rintro j m ys H1 ⟨rfl,hi,F1,δ1,acc,s1,I1,hy,p1⟩
 refine ⟨hy,?_⟩
 obtain ⟨a',e,hH0,hF1,⟨vs,hv,rv⟩,_⟩:=I1.get 0 _ rfl
 simp at e;subst e
 rw [hy] at hv;cases hv
 have Ih:=I1.hide hy
 by_cases hlt:j < ds.length
 ·have ed':ds[j]? = some ds[j]:=by simp [hlt]
  have edr:ds.drop j=ds[j]::ds.drop (j+1):=List.drop_eq_getElem_cons hlt
  rw [edr] at p1
  obtain ⟨pk1,st1⟩:=step _ _ acc δ1 p1
  obtain ⟨vs,hva,rva⟩:=at' Ih pk1
  obtain ⟨x0,ex0,rx0⟩:=rva.get ed'
  refine .inr ⟨⟨vs,x0,SqL.of hva,ex0⟩,fun ys' H'=>∃ F2 δ2 acc',Same F F2∧EI (none::io) H0 F0 F2 (.ob false (.lst acc')::δ2) (some (.ref Dp)::σ) H'∧H' Dp=some (.lst ys')∧P (ds.drop (j+1)) acc' δ2,fun ys' H' hN=>⟨ds.length - (j+1),by omega,rfl,hlt,hN⟩,fun x H2 y τ hτ=>?_⟩
  obtain ⟨ey,y⟩:=y
  subst ey
  have ex:=y vs (SqL.of hva)
  rw [ex0] at ex
  cases ex
  have I2p:=Ih.pad τ
  rw [hτ] at I2p
  refine sg _ _ F0 F1 _ (τ ++ σ) _ _ _ _ _ I2p rx0 st1 fun δ3 σ3 I3 e1 e2 q3=>?_
  have eσ:σ3=σ3.take n ++ σ:=by
   have h1:σ3.drop n=σ:=by rw [e1,← hτ];simp
   conv=>lhs;rw [← List.take_append_drop n σ3,h1]
  have lτ:(σ3.take n).length=n:=by
   rw [List.length_take,e2,List.length_append,hτ];omega
  refine ⟨⟨σ3.take n,lτ,eσ⟩,?_⟩
  refine sc _ _ F0 F1 δ3 σ3 _ _ _ I3 q3 fun b δ4 F4 H4 s4 I4 q4=>?_
  have back:∀ {δ5:List Slot}{F5 H5:Hp},EI (List.replicate n none ++ io) (upd H0 Dp (.lst ys)) F0 F5 δ5 σ3 H5→EI io (upd H0 Dp (.lst ys)) F0 F5 (δ5.drop n) σ H5:=fun {δ5 F5 H5} I5=>by
   rw [eσ] at I5
   have I5':EI (List.replicate (σ3.take n).length none ++ io) (upd H0 Dp (.lst ys)) F0 F5 δ5 (σ3.take n ++ σ) H5:=by rw [lτ];exact I5
   have:=EI.unpad I5'
   rwa [lτ] at this
  cases b with
  |false =>
   rw [if_neg Bool.false_ne_true] at q4 ⊢
   have I5:=(back I4)
   have hy4:H4 Dp=some (.lst ys):=I4.base _ _ z0d
   have I6:=I5.unhide (ys':=ys) hH0 hF0 (Reps.mono s4 _ _ rv)
   have eH:upd H4 Dp (.lst ys)=H4:=by
    funext b;by_cases hb:b=Dp
    ·rw [hb,z0d,hy4]
    ·rw [z0f hb]
   rw [eH] at I6
   exact ⟨F4,_,acc,s1.trans s4,I6,hy4,q4⟩
  |true =>
   rw [if_pos rfl] at q4 ⊢
   refine se.fz I4 q4 fun d v δ5 F5 H5 s5 I5 r5 q5=>?_
   refine ⟨I5.base _ _ z0d,by rw [← rv.len];exact q5.1,F5,_,acc ++ [d],(s1.trans s4).trans s5,?_,z0d,q5.2⟩
   exact (back I5).unhide hH0 hF0 ((Reps.mono (s4.trans s5) _ _ rv).app (.one r5))
 ·have e:j=ds.length:=by omega
  subst e
  rw [List.drop_length] at p1
  obtain ⟨pk1,q1⟩:=fin acc δ1 p1
  obtain ⟨vs,hva,rva⟩:=at' Ih pk1
  exact .inl ⟨⟨vs,SqL.of hva,by rw [rva.len];exact Nat.le_refl _⟩,k true _ _ δ1 F1 H1 s1 I1 q1⟩
section
variable {X:Cx}
theorem de_compV {elt tg:Expr}(xs:List Str) {x:Str}{p pos:Pos}{i:Nat}{ifs:List Expr}{sc:Scope}(M:List Str) {gd:TGd}{cd:TTd}{ed:TEd}(hc:X.calm=true) (S:CScopeG X.env.scope X.N xs sc M) (hi:PE X (.Name x p) (tVar i)) (hg:∀ pins ex H₀ s₀ C,DGn (z2w X sc (xs ++ M) pins ex H₀ s₀ C) xs.length tg gd)
  (ht:∀ pins ex H₀ s₀ C,DF (z2w X sc (xs ++ M) pins ex H₀ s₀ C) ifs cd) (he:∀ pins ex H₀ s₀ C,DE (z2w X sc (xs ++ M) pins ex H₀ s₀ C) elt ed)
  (hs:∀ v,foldedSetIterable (.Name x p) X.env v=pure v:=by intro _;rfl):DE X (.ListComp elt [⟨tg,.Name x p,ifs,0⟩] sc pos) (dCompV i xs.length gd cd ed) :=
 ⟨_,z7s xs M hc (fun pins ex H₀ s₀ C=>(hg pins ex H₀ s₀ C).pg) S (z8f hi) (fun pins ex H₀ s₀ C=>(ht pins ex H₀ s₀ C).pf) (fun pins ex H₀ s₀ C=>(he pins ex H₀ s₀ C).pe) hs,sim_compV (y2f _ _) (y0r _) (y4z _)⟩
end
theorem compV2 {i:Nat}{ds:List D}{te:TEd}{Q:Bool→D→List Slot→Prop}{δ:List Slot}(f:D→D) (hl:ds.length≤sizeLine) (hp:peek δ i=some (.lst ds)) (hd:∀ d∈ds,∃ a b,d = .tup [a,b])
  (h:∀ a b,D.tup [a,b]∈ds→∀ P:D→List Slot→Prop,P (f (.tup [a,b])) (.fz a :: .fz b::δ)→te (.fz a :: .fz b::δ) fun _ y δ'=>P y δ') (q:Q true (.lst (ds.map f)) δ):CompVD i ds 2 (dgTup 2 (z8i (dgN 0) (z8i (dgN 1) dgNil))) dYes te Q δ:=by
 refine ⟨fun r acc δ1=>δ1=δ∧∃ pre,ds=pre ++ r∧acc=pre.map f,⟨rfl,[],rfl,rfl⟩,?_,?_⟩
 ·rintro d r acc δ1 ⟨rfl,pre,e,rfl⟩
  refine ⟨hp,?_⟩
  have hm:d∈ds:=by rw [e];simp
  obtain ⟨a,b,rfl⟩:=hd d hm
  have hlen:pre.length < sizeLine:=by rw [e] at hl;simp at hl;omega
  refine ⟨[a,b],rfl,rfl,a,[b],rfl,trivial,b,[],rfl,trivial,rfl,?_⟩
  unfold dYes
  dsimp only
  rw [if_pos rfl]
  exact h a b hm _ ⟨by simpa using hlen,rfl,pre ++ [.tup [a,b]],by rw [e];simp,by simp⟩
 ·rintro acc δ1 ⟨rfl,pre,e,rfl⟩
  simp at e
  subst e
  exact ⟨hp,q⟩
theorem z4j (xs:List D) (k:Nat):cutD xs none (some (k:Int))=xs.take k:=by
 unfold cutD
 rw [HT.sIx_none,HT.sIx_nat,List.drop_zero,Nat.sub_zero]
 by_cases h:k≤xs.length
 ·rw [Nat.min_eq_left h]
 ·rw [Nat.min_eq_right (by omega),List.take_of_length_le (Nat.le_refl _),List.take_of_length_le (by omega)]
theorem z5f (xs:List D) (k:Nat):cutD xs (some (k:Int)) none=xs.drop k:=by
 unfold cutD
 rw [HT.sIx_none,HT.sIx_nat]
 by_cases h:k≤xs.length
 ·rw [Nat.min_eq_left h,List.take_of_length_le (by rw [List.length_drop];exact Nat.le_refl _)]
 ·rw [Nat.min_eq_right (by omega),List.drop_of_length_le (Nat.le_refl _),List.drop_of_length_le (by omega)]
  simp
end VL
namespace VL
open PySem L2
def getK (i:Nat) (δ:List Slot) (k:Slot→Prop):Prop:=match δ[i]? with|some s=>k s|none=>False
theorem getK_0 {s:Slot}{r:List Slot}{k:Slot→Prop}:getK 0 (s::r) k=k s:=rfl
theorem getK_s {i:Nat}{s:Slot}{r:List Slot}{k:Slot→Prop}:getK (i+1) (s::r) k=getK i r k:=rfl
def setK (i:Nat) (s:Slot) (δ:List Slot) (k:List Slot→Prop):Prop:=k (δ.set i s)
theorem setK_0 {s x:Slot}{r:List Slot}{k:List Slot→Prop}:setK 0 s (x::r) k=k (s::r):=rfl
theorem setK_s {i:Nat}{s x:Slot}{r:List Slot}{k:List Slot→Prop}:setK (i+1) s (x::r) k=setK i s r fun r'=>k (x::r'):=rfl
def setW (i:Nat) (s:Slot) (δ:List Slot) (k:List Slot→Prop):Prop:=noIo δ i∧k (δ.set i s)
theorem setW_no {s:Slot}{r:List Slot}{k:List Slot→Prop}:setW 0 s (.no::r) k=k (s::r):=by simp [setW,noIo_no]
theorem setW_fz {s:Slot}{d:D}{r:List Slot}{k:List Slot→Prop}:setW 0 s (.fz d::r) k=k (s::r):=by simp [setW,noIo_fz]
theorem setW_ob {s:Slot}{d:D}{r:List Slot}{k:List Slot→Prop}:setW 0 s (.ob false d::r) k=k (s::r):=by simp [setW,noIo_ob]
theorem setW_s {i:Nat}{s x:Slot}{r:List Slot}{k:List Slot→Prop}:setW (i+1) s (x::r) k=setW i s r fun r'=>k (x::r'):=by simp [setW,noIo_s]
def varS (s:Slot) (a b:D→Prop):Prop:=match s with | .fz d=>a d | .ob false c=>b c|_=>False
theorem varS_fz {d:D}{a b:D→Prop}:varS (.fz d) a b=a d:=rfl
theorem varS_ob {d:D}{a b:D→Prop}:varS (.ob false d) a b=b d:=rfl
def pkS (s:Slot) (k:D→Prop):Prop:=match s with | .fz d=>k d | .ob _ c=>k c|_=>False
theorem pkS_fz {d:D}{k:D→Prop}:pkS (.fz d) k=k d:=rfl
theorem pkS_ob {b:Bool}{d:D}{k:D→Prop}:pkS (.ob b d) k=k d:=rfl
def obK (s:Slot) (k:Bool→D→Prop):Prop:=match s with | .ob b c=>k b c|_=>False
theorem obK_ob {b:Bool}{d:D}{k:Bool→D→Prop}:obK (.ob b d) k=k b d:=rfl
def scK (K:PySem.W.Frag) (s:Slot) (k:List Int→Prop):Prop:=∃ ns,s = .sc K ns∧k ns
theorem scK_sc {K:PySem.W.Frag}{ns:List Int}{k:List Int→Prop}:scK K (.sc K ns) k=k ns:=by simp [scK]
def ioK:List Slot→(D→Prop)→Prop
 |.ob true c::_,k=>k c
 |_::r,k=>ioK r k
 | [],_=>False
theorem ioK_t {c:D}{r:List Slot}{k:D→Prop}:ioK (.ob true c::r) k=k c:=rfl
theorem ioK_no {r:List Slot}{k:D→Prop}:ioK (.no::r) k=ioK r k:=rfl
theorem y3s:∀ {δ:List Slot}{k:D→Prop},(∃ c,z9c δ=some c∧k c)=ioK δ k
 | [],k=>by simp [z9c,ioK]
 |.no::r,k=>by simpa [z9c,ioK] using y3s (δ:=r) (k:=k)
 |.fz _::r,k=>by simpa [z9c,ioK] using y3s (δ:=r) (k:=k)
 |.sc _ _::r,k=>by simpa [z9c,ioK] using y3s (δ:=r) (k:=k)
 |.ob false _::r,k=>by simpa [z9c,ioK] using y3s (δ:=r) (k:=k)
 |.ob true c::r,k=>by simp [z9c,ioK]
def intK (d:D) (k:Int→Prop):Prop:=match d with | .int x=>k x|_=>False
theorem intK_e {x:Int}{k:Int→Prop}:intK (.int x) k=k x:=rfl
theorem y4y {d:D}{k:Int→Prop}:(∃ x,d = .int x∧k x)=intK d k:=by cases d <;> simp [intK]
def strK (d:D) (k:Str→Prop):Prop:=match d with | .str x=>k x|_=>False
theorem strK_e {x:Str}{k:Str→Prop}:strK (.str x) k=k x:=rfl
theorem z8x {d:D}{k:Str→Prop}:(∃ x,d = .str x∧k x)=strK d k:=by cases d <;> simp [strK]
def blK (d:D) (k:Bool→Prop):Prop:=match d with | .bl x=>k x|_=>False
theorem blK_e {x:Bool}{k:Bool→Prop}:blK (.bl x) k=k x:=rfl
theorem blK_eq {d:D}{k:Bool→Prop}:(∃ x,d = .bl x∧k x)=blK d k:=by cases d <;> simp [blK]
def lstK (d:D) (k:List D→Prop):Prop:=match d with | .lst x=>k x|_=>False
theorem lstK_e {x:List D}{k:List D→Prop}:lstK (.lst x) k=k x:=rfl
theorem z7e {d:D}{k:List D→Prop}:(∃ x,d = .lst x∧k x)=lstK d k:=by cases d <;> simp [lstK]
def dctK (d:D) (k:List (Key × D)→Prop):Prop:=match d with | .dct x=>k x|_=>False
theorem dctK_e {x:List (Key × D)}{k:List (Key × D)→Prop}:dctK (.dct x) k=k x:=rfl
theorem y5h {d:D}{k:List (Key × D)→Prop}:(∃ x,d = .dct x∧k x)=dctK d k:=by cases d <;> simp [dctK]
theorem z4a {δ:List Slot}{i:Nat}{k:D→Prop}:(∃ d,peek δ i=some d∧k d)=getK i δ fun s=>pkS s k:=by
 unfold peek getK
 cases δ[i]? with
 |none=>simp
 |some s=>cases s <;> simp [pkS]
theorem z5o {δ:List Slot}{i:Nat}{P:Prop}:((peek δ i).isSome=true∧P)=getK i δ fun s=>pkS s fun _=>P:=by
 unfold peek getK
 cases δ[i]? with
 |none=>simp
 |some s=>cases s <;> simp [pkS]
theorem y6c {δ:List Slot}{i:Nat}{k:Bool→D→Prop}:(∃ fl c,δ[i]? = some (.ob fl c)∧k fl c)=getK i δ fun s=>obK s k:=by
 unfold getK
 cases δ[i]? with
 |none=>simp
 |some s =>
  apply propext
  constructor
  ·rintro ⟨fl,c,e,h⟩;cases e;exact h
  ·intro h
   cases s with
   |ob b c=>exact ⟨b,c,rfl,h⟩
   |_=>exact h.elim
section
variable {δ:List Slot}{E:EndsD}{Q:Bool→D→List Slot→Prop}{QT:Bool→List Slot→Prop}{QL:List D→List Slot→Prop}{QS:List Slot→Prop}{Q2:Bool→D→Prop}{QM:D→D→Prop}{QA:List (Option D)→List Slot→Prop}{QO:Option Int→List Slot→Prop}{t u:TSd}{ta tb td te tv ti:TEd}{tt tu tc:TTd}{ul:TLd}{ua:TAd}{l h:TOd}{g gd:TGd}{gs:TGsd}{i j n:Nat}{d:D}
theorem v_seq:dSeq t u E δ=t { E with nx:=u E } δ:=rfl
theorem v_next:dNext E δ=E.nx δ:=rfl
theorem v_ret:dRet td E δ=td δ E.rt:=rfl
theorem v_never:dNever E δ=False:=rfl
theorem v_drop:dDrop td E δ=td δ fun _ _ δ'=>E.nx δ':=rfl
theorem v_if:dIfS tt t u E δ=tt δ fun b δ'=>if b=true then t E δ' else u E δ':=rfl
theorem v_set:dSet i td E δ=td δ fun b d δ'=>setW i (rsl b d) δ' E.nx:=rfl
theorem v_c:dC d δ Q=Q false d δ:=rfl
theorem v_var:dVar i δ Q=getK i δ fun s=>varS s (fun d=>Q false d δ) fun c=>setK i (.fz c) δ fun δ'=>Q false c δ':=by
 unfold dVar getK
 cases δ[i]? with
 |none=>rfl
 |some s=>cases s with
  |ob b c=>cases b <;> rfl
  |_=>rfl
theorem v_mv:dMv i δ Q=getK i δ fun s=>varS s (fun d=>Q false d δ) fun c=>setK i .no δ fun δ'=>Q true c δ':=by
 unfold dMv getK
 cases δ[i]? with
 |none=>rfl
 |some s=>cases s with
  |ob b c=>cases b <;> rfl
  |_=>rfl
variable {f:D→D→(Bool→D→Prop)→Prop}
theorem v_op:dOp f ta tb δ Q=ta δ fun _ x δ1=>tb δ1 fun _ y δ2=>f x y fun b d=>Q b d δ2:=rfl
theorem v_opV:dOpV f i tb δ Q=getK i δ fun s=>pkS s fun _=>tb δ fun _ y δ2=>getK i δ2 fun s=>pkS s fun x=>f x y fun b d=>Q b d δ2:=by
 unfold dOpV;rw [z5o];simp only [z4a]
theorem v_opW:dOpW f ta j δ Q=ta δ fun _ x δ1=>getK j δ1 fun s=>pkS s fun y=>f x y fun b d=>Q b d δ1:=by
 unfold dOpW;simp only [z4a]
theorem v_test:z9e td δ QT=td δ fun _ d δ'=>blK d fun c=>QT c δ':=by unfold z9e;simp only [blK_eq]
theorem v_not:dNot tt δ QT=tt δ fun c δ'=>QT (!c) δ':=rfl
theorem v_and:dAnd tt tu δ QT=tt δ fun c δ'=>if c=true then tu δ' QT else QT false δ':=rfl
theorem v_or:dOr tt tu δ QT=tt δ fun c δ'=>if c=true then QT true δ' else tu δ' QT:=rfl
def truK (d:D) (k:Bool→Prop):Prop:=∃ c,truD d=some c∧k c
theorem truK_lst {xs:List D}{k:Bool→Prop}:truK (.lst xs) k=k (!xs.isEmpty):=propext ⟨fun ⟨c,e,h⟩=>by cases e;exact h,fun h=>⟨_,rfl,h⟩⟩
theorem v_truV:dTruV i δ QT=getK i δ fun s=>pkS s fun d=>truK d fun c=>QT c δ:=by
 unfold dTruV
 rw [← z4a]
 simp only [truK,exists_and_left,and_assoc]
theorem v_andV:dAndV ta tb δ Q=ta δ fun _ x δ'=>blK x fun c=>if c=true then tb δ' Q else Q false (.bl false) δ':=by unfold dAndV;simp only [blK_eq]
theorem v_ifE:dIf tt ta tb δ Q=tt δ fun c δ'=>if c=true then ta δ' Q else tb δ' Q:=rfl
theorem v_neg:dNeg ta δ Q=ta δ fun _ x δ'=>intK x fun i=>Q false (.int (-i)) δ':=by unfold dNeg;simp only [y4y]
theorem v_nil:dNil δ QL=QL [] δ:=rfl
theorem v_cons:dCons td ul δ QL=td δ fun _ d δ'=>ul δ' fun ds δ''=>QL (d::ds) δ'':=rfl
theorem v_tup:dTup ul δ Q=ul δ fun ds δ'=>ds.length≤sizeLine∧Q false (.tup ds) δ':=rfl
theorem v_lst:dLst ul δ Q=ul δ fun ds δ'=>ds.length≤sizeLine∧Q true (.lst ds) δ':=rfl
variable {fc:List D→(Bool→D→Prop)→Prop}{fm:D→List D→(D→D→Prop)→Prop}
theorem v_CB:dCB fc ul δ Q=ul δ fun ds δ'=>fc ds fun b d=>Q b d δ':=rfl
theorem v_CBV:dCBV fc i δ Q=getK i δ fun s=>pkS s fun d=>fc [d] fun b d=>Q b d δ:=by unfold dCBV;rw [z4a]
theorem v_rev:dRev td δ Q=td δ fun _ d δ'=>lstK d fun xs=>Q true (.lst xs.reverse) δ':=by unfold dRev;simp only [z7e]
def isLK (d:D) (P:Prop):Prop:=match d with | .lst _=>P|_=>False
theorem isLK_e {xs:List D}{P:Prop}:isLK (.lst xs) P=P:=rfl
theorem v_mt:dMt fm i ul δ Q=getK i δ fun s=>pkS s fun d=>isLK d (ul δ fun ds δ'=>getK i δ' fun s=>obK s fun fl c=>fm c ds fun c' d=>setK i (.ob fl c') δ' fun δ''=>Q false d δ''):=by
 unfold dMt
 simp only [y6c,setK]
 unfold peek getK
 cases δ[i]? with
 |none=>simp
 |some s=>cases s with
  |no=>simp [pkS]
  |sc K ns=>simp [pkS]
  |fz d=>cases d <;> simp [pkS,isLK,isL]
  |ob b d=>cases d <;> simp [pkS,isLK,isL]
theorem v_gN:dgN i d δ QS=setW i (.fz d) δ QS:=rfl
theorem v_gTup2 {a b:D}:dgTup 2 gs (.tup [a,b]) δ QS=gs [a,b] δ QS:=by simp [dgTup]
theorem v_gCons {r:List D}:z8i g gs (d::r) δ QS=g d δ fun δ'=>gs r δ' QS:=propext ⟨fun ⟨_,_,e,h⟩=>by cases e;exact h,fun h=>⟨_,_,rfl,h⟩⟩
theorem v_gNil:dgNil [] δ QS=QS δ:=by simp [dgNil]
theorem v_asg:dAsg td g E δ=td δ fun _ d δ'=>g d δ' E.nx:=rfl
theorem v_setL:dSetL i ti tv E δ=tv δ fun _ v δ1=>getK i δ1 fun s=>pkS s fun _=>ti δ1 fun _ y δ2=>getK i δ2 fun s=>obK s fun fl c=>lstK c fun xs=>intK y fun k=>∃ j,ixN xs.length k=some j∧setK i (.ob fl (.lst (xs.set j v))) δ2 E.nx:=by
 unfold dSetL
 simp only [z5o]
 have key:∀ (δ2:List Slot) (y v:D),(∃ fl xs k j,δ2[i]? = some (.ob fl (.lst xs))∧y = .int k∧ixN xs.length k=some j∧E.nx (δ2.set i (.ob fl (.lst (xs.set j v)))))=(getK i δ2 fun s=>obK s fun fl c=>lstK c fun xs=>intK y fun k=>∃ j,ixN xs.length k=some j∧setK i (.ob fl (.lst (xs.set j v))) δ2 E.nx):=by
  intro δ2 y v
  simp only [← y6c,← z7e,← y4y,setK]
  apply propext
  constructor
  ·rintro ⟨fl,xs,k,j,e,rfl,h1,h2⟩;exact ⟨fl,_,e,xs,rfl,k,rfl,j,h1,h2⟩
  ·rintro ⟨fl,_,e,xs,rfl,k,rfl,j,h1,h2⟩;exact ⟨fl,xs,k,j,e,rfl,h1,h2⟩
 simp only [key]
theorem v_iList:diList td δ QL=td δ fun _ d δ'=>lstK d fun ds=>QL ds δ':=by unfold diList;simp only [z7e]
def int1K (ds:List D) (k:Int→Prop):Prop:=match ds with | [.int j]=>k j|_=>False
theorem int1K_e {j:Int}{k:Int→Prop}:int1K [.int j] k=k j:=rfl
theorem v_iRng1:diRng1 ul δ QL=ul δ fun ds δ'=>int1K ds fun j=>-(2 ^ 62)≤j∧j < 2 ^ 62∧QL (rngD 0 j.toNat) δ':=by
 unfold diRng1
 congr 1
 funext ds δ'
 apply propext
 constructor
 ·rintro ⟨j,rfl,h⟩;exact h
 ·intro h
  unfold int1K at h
  split at h
  ·exact ⟨_,rfl,h⟩
  ·exact h.elim
inductive Beh (Q:Bool→D→List Slot→Prop):Type|mk
def hold (R:RD) (Q:Bool→D→List Slot→Prop) (_:Beh Q) (δ:List Slot):Prop:=R δ Q
variable {R:RD}
theorem v_call:dCall R ul δ Q=ul δ fun ds δ'=>hold R (fun b d _=>Q b d δ') .mk (ds.map .fz):=rfl
theorem v_compV:dCompV i n gd tc te δ Q=getK i δ fun s=>pkS s fun d=>lstK d fun ds=>CompVD i ds n gd tc te Q δ:=by
 simp only [← z4a,← z7e]
 apply propext
 constructor
 ·rintro ⟨ds,e,h⟩;exact ⟨_,e,ds,rfl,h⟩
 ·rintro ⟨_,e,ds,rfl,h⟩;exact ⟨ds,e,h⟩
theorem v_aNil:daNil δ QA=QA [] δ:=rfl
theorem v_aV:daV td ua δ QA=td δ fun _ d δ'=>ua δ' fun os δ''=>QA (some d::os) δ'':=rfl
theorem v_aO:daO ua δ QA=ua δ fun os δ''=>QA (none::os) δ'':=rfl
theorem v_callIO:y1o R i ua δ Q=getK i δ fun s=>pkS s fun _=>ua δ fun os δ'=>getK i δ' fun s=>obK s fun fl c=>(os.filter Option.isNone).length=1∧hold R (fun b d δ2=>ioK δ2 fun c'=>setK i (.ob fl c') δ' fun δ''=>Q b d δ'') .mk (os.map (y1s c)):=by
 unfold y1o hold
 rw [z5o]
 simp only [y6c,y3s,setK]
theorem v_oN:doN δ QO=QO none δ:=rfl
theorem v_oS:doS td δ QO=td δ fun _ d δ'=>intK d fun i=>QO (some i) δ':=by unfold doS;simp only [y4y]
theorem v_slLV:dSlLV i l h δ Q=getK i δ fun s=>pkS s fun _=>l δ fun lo δ2=>h δ2 fun hi δ3=>getK i δ3 fun s=>pkS s fun d=>lstK d fun xs=>Q true (.lst (cutD xs lo hi)) δ3:=by
 unfold dSlLV
 rw [z5o]
 have key:∀ (δ3:List Slot) lo hi,(∃ xs,peek δ3 i=some (.lst xs)∧Q true (.lst (cutD xs lo hi)) δ3)=(getK i δ3 fun s=>pkS s fun d=>lstK d fun xs=>Q true (.lst (cutD xs lo hi)) δ3):=by
  intro δ3 lo hi
  simp only [← z4a,← z7e]
  apply propext
  constructor
  ·rintro ⟨xs,e,h⟩;exact ⟨_,e,xs,rfl,h⟩
  ·rintro ⟨_,e,xs,rfl,h⟩;exact ⟨xs,e,h⟩
 simp only [key]
theorem v_slS:dSlS td l h δ Q=td δ fun _ d δ1=>l δ1 fun lo δ2=>h δ2 fun hi δ3=>strK d fun z=>z.length≤sizeLine∧Q false (.str (Txt.slice z lo hi)) δ3:=by unfold dSlS;simp only [z8x]
theorem v_slC {K:PySem.W.Frag}:dSlC K i l h δ Q=getK i δ fun s=>scK K s fun ns=>l δ fun lo δ2=>h δ2 fun hi δ3=>Q true (.lst (cutD (ns.map .int) lo hi)) δ3:=by
 unfold dSlC getK scK
 cases δ[i]? <;> simp
theorem v_join:dJoin ta tb δ Q=ta δ fun _ x δ1=>strK x fun sep=>tb δ1 fun _ y δ2=>∃ ts:List Str,y = .lst (ts.map .str)∧JoinOk sep ts=true∧Q false (.str (Txt.join sep ts)) δ2:=by unfold dJoin;simp only [z8x]
theorem v_dict0:dDict0 δ Q=Q true (.dct []) δ:=rfl
theorem v_dget:dDGetV i ti δ Q=getK i δ fun s=>pkS s fun _=>ti δ fun _ y δ'=>getK i δ' fun s=>pkS s fun c=>dctK c fun kds=>strK y fun k=>∃ d,getS kds k=some d∧Q false d δ':=by
 unfold dDGetV
 rw [z5o]
 have key:∀ (δ':List Slot) (y:D),(∃ kds k d,peek δ' i=some (.dct kds)∧y = .str k∧getS kds k=some d∧Q false d δ')=(getK i δ' fun s=>pkS s fun c=>dctK c fun kds=>strK y fun k=>∃ d,getS kds k=some d∧Q false d δ'):=by
  intro δ' y
  simp only [← z4a,← y5h,← z8x]
  apply propext
  constructor
  ·rintro ⟨kds,k,d,e,rfl,h1,h2⟩;exact ⟨_,e,kds,rfl,k,rfl,d,h1,h2⟩
  ·rintro ⟨_,e,kds,rfl,k,rfl,d,h1,h2⟩;exact ⟨kds,k,d,e,rfl,h1,h2⟩
 simp only [key]
theorem v_din {neg:Bool}:y5l neg ti i δ Q=ti δ fun _ y δ'=>getK i δ' fun s=>pkS s fun c=>dctK c fun kds=>strK y fun k=>Q false (.bl (if neg then !(getS kds k).isSome else (getS kds k).isSome)) δ':=by
 unfold y5l
 have key:∀ (δ':List Slot) (y:D),(∃ kds k,peek δ' i=some (.dct kds)∧y = .str k∧Q false (.bl (if neg then !(getS kds k).isSome else (getS kds k).isSome)) δ')=(getK i δ' fun s=>pkS s fun c=>dctK c fun kds=>strK y fun k=>Q false (.bl (if neg then !(getS kds k).isSome else (getS kds k).isSome)) δ'):=by
  intro δ' y
  simp only [← z4a,← y5h,← z8x]
  apply propext
  constructor
  ·rintro ⟨kds,k,e,rfl,h⟩;exact ⟨_,e,kds,rfl,k,rfl,h⟩
  ·rintro ⟨_,e,kds,rfl,k,rfl,h⟩;exact ⟨kds,k,e,rfl,h⟩
 simp only [key]
theorem v_dput:dDPut i ti tv E δ=tv δ fun _ v δ1=>getK i δ1 fun s=>pkS s fun _=>ti δ1 fun _ y δ2=>getK i δ2 fun s=>obK s fun fl c=>dctK c fun kds=>strK y fun k=>kds.length < sizeLine∧setK i (.ob fl (.dct (putS kds k v))) δ2 E.nx:=by
 unfold dDPut
 simp only [z5o]
 have key:∀ (δ2:List Slot) (y v:D),(∃ fl kds k,δ2[i]? = some (.ob fl (.dct kds))∧y = .str k∧kds.length < sizeLine∧E.nx (δ2.set i (.ob fl (.dct (putS kds k v)))))=(getK i δ2 fun s=>obK s fun fl c=>dctK c fun kds=>strK y fun k=>kds.length < sizeLine∧setK i (.ob fl (.dct (putS kds k v))) δ2 E.nx):=by
  intro δ2 y v
  simp only [← y6c,← y5h,← z8x,setK]
  apply propext
  constructor
  ·rintro ⟨fl,kds,k,e,rfl,h⟩;exact ⟨fl,_,e,kds,rfl,k,rfl,h⟩
  ·rintro ⟨fl,_,e,kds,rfl,k,rfl,h⟩;exact ⟨fl,kds,k,e,rfl,h⟩
 simp only [key]
variable {x y:Int}{z z':Str}{xs ys:List D}{b b':Bool}
theorem v_I {g:Int→Int→D}:fI g (.int x) (.int y) Q2=Q2 false (g x y):=by simp [fI]
theorem v_Ic {C:Int→Int→Prop}{g:Int→Int→D}:fIc C g (.int x) (.int y) Q2=(C x y∧Q2 false (g x y)):=by simp [fIc]
theorem v_eq_ii:fEq (.int x) (.int y) Q2=Q2 false (.bl (decide (x=y))):=by simp [fEq,sEq]
theorem v_eq_ss:fEq (.str z) (.str z') Q2=Q2 false (.bl (decide (z=z'))):=by simp [fEq,sEq]
theorem v_ne_ii:fNe (.int x) (.int y) Q2=Q2 false (.bl (!decide (x=y))):=by simp [fNe,sEq]
theorem v_ne_ss:fNe (.str z) (.str z') Q2=Q2 false (.bl (!decide (z=z'))):=by simp [fNe,sEq]
theorem v_notN:fNotN d .non Q2=Q2 false (.bl (!isNon d)):=by simp [fNotN]
theorem isNon_non:isNon .non=true:=rfl
theorem v_catS:fCatS (.str z) (.str z') Q2=(z.length+z'.length≤sizeLine∧Q2 false (.str (z ++ z'))):=by simp [fCatS]
theorem v_cat:fCat (.lst xs) (.lst ys) Q2=(xs.length+ys.length≤sizeLine∧Q2 true (.lst (xs ++ ys))):=by simp [fCat]
theorem v_ixL:fIxL (.lst xs) (.int x) Q2 = ∃ d,atI xs x=some d∧Q2 false d:=by simp [fIxL]
theorem v_ixT0 {a:D}{r:List D}:fIxT (.tup (a::r)) (.int 0) Q2=Q2 false a:=by simp [fIxT,atI0]
theorem v_ixT1 {a b:D}{r:List D}:fIxT (.tup (a::b::r)) (.int 1) Q2=Q2 false b:=by simp [fIxT,atI1]
theorem v_ixT2 {a b c:D}{r:List D}:fIxT (.tup (a::b::c::r)) (.int 2) Q2=Q2 false c:=by simp [fIxT,atI2]
theorem v_ixS:fIxS (.str z) (.int x) Q2=(z.length≤sizeLine∧∃ c,atI z.cps.toList x=some c∧Q2 false (.str ⟨#[c]⟩)):=by simp [fIxS]
theorem v_eqL0:fEqL (.lst xs) (.lst []) Q2=Q2 false (.bl xs.isEmpty):=by
 cases xs with
 |nil=>simp [fEqL,eqbL,depL]
 |cons a r=>simp [fEqL]
theorem v_neL0:fNeL (.lst xs) (.lst []) Q2=Q2 false (.bl (!xs.isEmpty)):=by
 cases xs with
 |nil=>simp [fNeL,eqbL,depL]
 |cons a r=>simp [fNeL]
theorem z4p {ks ks':List Str}(h:ks.map D.str=ks'.map D.str):ks=ks':=by
 induction ks generalizing ks' with
 |nil=>cases ks' with
  |nil=>rfl
  |cons a r=>simp at h
 |cons a r ih=>cases ks' with
  |nil=>simp at h
  |cons a' r'=>simp at h;rw [h.1,ih h.2]
theorem v_inL {ks:List Str}:fInL (.str z) (.lst (ks.map .str)) Q2=Q2 false (.bl (decide (z∈ks))):=by
 apply propext;constructor
 ·rintro ⟨k,ks',e1,e2,h⟩;cases e1;have e2:=z4p (D.lst.inj e2);subst e2;exact h
 ·intro h;exact ⟨z,ks,rfl,rfl,h⟩
theorem v_notInL {ks:List Str}:fNotInL (.str z) (.lst (ks.map .str)) Q2=Q2 false (.bl (!decide (z∈ks))):=by
 apply propext;constructor
 ·rintro ⟨k,ks',e1,e2,h⟩;cases e1;have e2:=z4p (D.lst.inj e2);subst e2;exact h
 ·intro h;exact ⟨z,ks,rfl,rfl,h⟩
theorem v_inT2 {a b:Str}:fInT (.str z) (.tup [.str a,.str b]) Q2=Q2 false (.bl (decide (z=a∨z=b))):=by
 apply propext;constructor
 ·rintro ⟨k,ks',e1,e2,h⟩;cases e1;have e2:=z4p (ks:=[a,b]) (D.tup.inj e2);subst e2;simpa using h
 ·intro h;exact ⟨z,[a,b],rfl,rfl,by simpa using h⟩
theorem v_inT3 {a b c:Str}:fInT (.str z) (.tup [.str a,.str b,.str c]) Q2=Q2 false (.bl (decide (z=a∨z=b∨z=c))):=by
 apply propext;constructor
 ·rintro ⟨k,ks',e1,e2,h⟩;cases e1;have e2:=z4p (ks:=[a,b,c]) (D.tup.inj e2);subst e2;simpa using h
 ·intro h;exact ⟨z,[a,b,c],rfl,rfl,by simpa using h⟩
theorem v_lenL:fLenL [.lst xs] Q2=Q2 false (.int xs.length):=by simp [fLenL]
theorem v_lenS:fLenS [.str z] Q2=(z.length≤sizeLine∧Q2 false (.int z.length)):=by simp [fLenS]
theorem v_int1b:fInt1 [.bl b] Q2=Q2 false (.int (if b then 1 else 0)):=by simp [fInt1]
theorem v_append:y3y (.lst xs) [d] QM=(xs.length < sizeLine∧QM (.lst (xs ++ [d])) .non):=by simp [y3y]
theorem v_extend:y5a (.lst xs) [.lst ys] QM=(xs.length+ys.length≤sizeLine∧QM (.lst (xs ++ ys)) .non):=by simp [y5a]
theorem v_pop:fPop (.lst xs) [] QM = ∃ d,xs[xs.length - 1]? = some d∧QM (.lst xs.dropLast) d:=by simp [fPop]
theorem rsl_t:rsl true d = .ob false d:=rfl
theorem rsl_f:rsl false d = .fz d:=rfl
theorem y3h:fIsI [(.str z),.ty "str"] Q2=Q2 false (.bl true):=by
 apply propext;constructor
 ·rintro ⟨_,_,e,_,_,h⟩;cases e;exact h
 ·exact fun h=>⟨_,_,rfl,(show ("str":String) ≠ "type" by decide),by decide,h⟩
theorem y3r:fIsI [(.tup xs),.ty "str"] Q2=Q2 false (.bl false):=by
 apply propext;constructor
 ·rintro ⟨_,_,e,_,_,h⟩;cases e;exact h
 ·exact fun h=>⟨_,_,rfl,(show ("tuple":String) ≠ "type" by decide),by decide,h⟩
end
end VL
namespace VL
open PySem L2
section
variable {X:Cx}
def diRev (td:TEd):TLd:=fun δ Q=>td δ fun _ d δ'=>∃ ds,d = .lst ds∧Q ds.reverse δ'
theorem itOk_rev {F:Hp}{a:Addr}{vs:List V}{ds:List D}(h:F a=some (.lst vs)) (r:Reps F ds vs):ItOk (Itv a vs.length) F ds.reverse:=by
 intro io H0 F0 F' δ σ H' sf I i
 have hH:H' a=some (.lst vs):=I.sub _ _ (sf _ _ h)
 have hl:=r.len
 refine ⟨fun d e=>?_,fun e=>?_⟩
 ·obtain ⟨v,ev,rv⟩:=r.rev.get e
  have hi:i < vs.length:=by
   have:=(List.getElem?_eq_some_iff.mp ev).1
   simpa using this
  rw [List.getElem?_reverse hi] at ev
  refine ⟨⟨vs,v,hH,hi,ev⟩,fun x H'' y=>?_⟩
  obtain ⟨e1,y⟩:=y
  subst e1
  have:=y vs hH
  rw [ev] at this
  cases this
  exact ⟨F',Same.refl _,I,Rep.mono sf _ _ rv⟩
 ·rw [e,List.length_reverse,hl];exact rfl
theorem di_rev {tg l:Expr}{dl:TEd}{p2 p3:Pos}(hgR:Gl X "reversed") (hmR:X.mg "reversed" = none) (hl:DE X l dl) (hs2:starEach [l] X.env=[(false,eval l X.env)]:=by rfl):DI X tg (.Call (.Name "reversed" p2) [l] [] p3) (diRev dl):=by
 obtain ⟨t,p,s⟩:=hl
 refine ⟨_,pi_rev hgR hmR p hs2,fun io H0 F0 F δ σ H R Qd I q k=>s.fz I q fun d v δ' F' H' sf I' r q'=>?_⟩
 obtain ⟨ds,rfl,q'⟩:=q'
 obtain ⟨a,vs,rfl,h1,r1⟩:=r
 exact ⟨a,rfl,vs,I'.sub _ _ h1,k _ ds.reverse δ' F' H' sf I' (itOk_rev h1 r1) q'⟩
def zipD (xs ys:List D):List D:=List.zipWith (fun x y=>.tup [x,y]) xs ys
def diZip (u:TLd):TLd:=fun δ Q=>u δ fun ds δ'=>∃ xs ys,ds=[.lst xs,.lst ys]∧Q (zipD xs ys) δ'
theorem itOk_zip {F:Hp}{a b:Addr}{vs us:List V}{xs ys:List D}(ha:F a=some (.lst vs)) (ra:Reps F xs vs) (hb:F b=some (.lst us)) (rb:Reps F ys us):ItOk (Itz a b) F (zipD xs ys):=by
 intro io H0 F0 F' δ σ H' sf I i
 have hA:H' a=some (.lst vs):=I.sub _ _ (sf _ _ ha)
 have hB:H' b=some (.lst us):=I.sub _ _ (sf _ _ hb)
 refine ⟨fun d e=>?_,fun e=>?_⟩
 ·unfold zipD at e
  rw [List.getElem?_zipWith] at e
  split at e
  ·rename_i x y ex ey
   cases e
   obtain ⟨v,ev,rv⟩:=ra.get ex
   obtain ⟨u,eu,ru⟩:=rb.get ey
   refine ⟨⟨vs,us,v,u,hA,hB,ev,eu⟩,fun z H'' yl=>?_⟩
   obtain ⟨t,rfl,ht,yl⟩:=yl
   obtain ⟨v',u',ev',eu',rfl⟩:=yl vs us hA hB
   rw [ev] at ev';cases ev'
   rw [eu] at eu';cases eu'
   obtain ⟨F2,s2,I2,r2⟩:=I.newT (ds:=[x,y]) (vs:=[v,u]) ht ⟨_,_,rfl,Rep.mono sf _ _ rv,_,_,rfl,Rep.mono sf _ _ ru,rfl⟩
   exact ⟨F2,s2,I2,r2⟩
  ·cases e
 ·refine ⟨vs,us,hA,hB,?_⟩
  have l1:=ra.len
  have l2:=rb.len
  simp only [zipD,List.length_zipWith] at e
  rw [List.getElem?_eq_none_iff,List.getElem?_eq_none_iff]
  omega
theorem Reps.two_inv {F:Hp}{d e:D}{vs:List V}(h:Reps F [d,e] vs):∃ v u,vs=[v,u]∧Rep F d v∧Rep F e u:=by
 obtain ⟨v,r,rfl,h1,u,r',rfl,h2,h3⟩:=h
 cases (show r' = [] from h3)
 exact ⟨v,u,rfl,h1,h2⟩
theorem di_zip {elts:List Expr}{x1:Nat}{pt:Pos}{e1 e2:Expr}{u:TLd}{p pos:Pos}(hg:Gl X "zip") (hm:X.mg "zip" = none) (ha:DL X [e1,e2] u) (hs:starEach [e1,e2] X.env=(false,eval e1 X.env)::starEach [e2] X.env:=by rfl) (hpl:(backTo pos (starEach [e2] X.env)).any (·.1)=false:=by rfl) :
  DI X (.Tuple elts x1 pt) (.Call (.Name "zip" p) [e1,e2] [] pos) (diZip u):=by
 obtain ⟨t,p,s⟩:=ha
 refine ⟨_,pi_zip hg hm p hs hpl,fun io H0 F0 F δ σ H R Qd I q k=>s io H0 F0 F δ σ H _ _ I q fun ds vs δ' F' H' sf I' r q'=>?_⟩
 obtain ⟨xs,ys,rfl,q'⟩:=q'
 obtain ⟨v,w,rfl,⟨a,us,rfl,h1,r1⟩,b,ws,rfl,h2,r2⟩:=r.two_inv
 exact ⟨a,b,rfl,us,I'.sub _ _ h1,ws,I'.sub _ _ h2,k _ _ δ' F' H' sf I' (itOk_zip h1 r1 h2 r2) q'⟩
def dDGet (td ti:TEd):TEd:=fun δ Q=>td δ fun _ x δ1=>ti δ1 fun _ y δ2=>∃ kds k d,x = .dct kds∧y = .str k∧getS kds k=some d∧Q false d δ2
theorem de_dget {a ie:Expr}{td ti:TEd}{pos:Pos}(hu:X.A.units+100 < cLine) (ha:DE X a td) (hi:DE X ie ti) (hs:NoSl ie:=by intro _ _;rfl):DE X (.Subscript a ie pos) (dDGet td ti):=by
 obtain ⟨t,pi,si⟩:=hi
 obtain ⟨t',pa,sa⟩:=ha
 refine ⟨_,y4j (by omega) pa pi hs,fun io H0 F0 F δ σ H Q Qd I q k=>sa.fz I q fun x v δ1 F1 H1 f1 I1 r1 q1=>si.fz I1 q1 fun y u δ2 F2 H2 f2 I2 r2 q2=>?_⟩
 obtain ⟨kds,key,dd,rfl,rfl,eg,q2⟩:=q2
 obtain ⟨a,kvs,rfl,h1,rk⟩:=Rep.mono f2 _ _ r1
 cases (show u=V.str key from r2)
 obtain ⟨w,ew,rw'⟩:=(rk.val key).1 dd eg
 exact ⟨a,w,rfl,DGet.s (I2.sub _ _ h1) ew,k false _ _ δ2 F2 H2 (f1.trans f2) (I2.pushF rw') q2⟩
end
def dCallC (R:RD) (i:Nat) (u:TLd):TEd:=fun δ Q=>∃ K ns,δ[i]? = some (.sc K ns)∧u δ fun ds δ'=>δ'[i]? = some (.sc K ns)∧R (.sc K ns::ds.map .fz) fun b d _=>Q b d δ'
section
variable {X:Cx}{CX:CXT}{k:Nat}{f:Addr}{fd:FuncData}{ps:List Str}{R:RD}{E:XK}{x y:Str}{p p' pos:Pos}{es:List Expr}{u:TLd}{i:Nat}
theorem de_callC (G:FnOk X.prog X.w X.K X.mg X.base CX k f fd ps (spD R)) (hr:Room k X.A) (hg:Gl X x) (hm:X.mg x=some (.ref f)) (hk:PySem.W.keepIn X.K (.ref f)=true) (hb:Binds X.K fd ps []) (hx:z8q CX X E)
  (hv:PE X (.Name y p') (tVar i)) (ha:DL X es u) (hdb:(x == ("__debug__":Str))=false:=by decide) (hs:starEach (.Name y p' :: es) X.env=(false,eval (.Name y p') X.env)::starEach es X.env:=by rfl) (hpl:(backTo pos (starEach es X.env)).any (·.1)=false:=by rfl) :
  DE X (.Call (.Name x p) (.Name y p' :: es) [] pos) (dCallC R i u):=by
 obtain ⟨t,pt,s⟩:=ha
 refine ⟨_,z0r G hr hg hm hk hb .nil hx (z0b hv pt hs) hdb hs hpl,fun io H0 F0 F δ σ H Q Qd I q kk=>?_⟩
 obtain ⟨K,ns,e0,q⟩:=q
 obtain ⟨a,ea,sq⟩:=I.get i _ e0
 refine ⟨.ref a,z2x ea,s io H0 F0 F δ σ H _ _ I q fun ds vs δ' F' H' sf I' r q'=>?_⟩
 obtain ⟨e1,q'⟩:=q'
 show spD R ((.ref a::vs) ++ []) H' Q E
 rw [List.append_nil]
 refine ⟨H',[none],F',.sc K ns::ds.map .fz,_,fun p a e=>by cases p <;> simp at e,(y2t I'.sub r).push (s:=.sc K ns) (v:=.ref a) ⟨a,rfl,sf.seq sq⟩ (fun b c a e=>by cases e),q',fun b d v δ2 F2 H2 C q2=>?_⟩
 exact kk b d v δ' F2 H2 (sf.trans C.ext) (I'.back C) q2
end
section
variable {δ:List Slot}{Q:Bool→D→List Slot→Prop}{QL:List D→List Slot→Prop}{Q2:Bool→D→Prop}{td ti:TEd}{ul:TLd}{i:Nat}
def lst2K (ds:List D) (k:List D→List D→Prop):Prop:=match ds with | [.lst x,.lst y]=>k x y|_=>False
theorem lst2K_e {x y:List D}{k:List D→List D→Prop}:lst2K [.lst x,.lst y] k=k x y:=rfl
theorem v_iRev:diRev td δ QL=td δ fun _ d δ'=>lstK d fun ds=>QL ds.reverse δ':=by unfold diRev;simp only [z7e]
theorem v_iZip:diZip ul δ QL=ul δ fun ds δ'=>lst2K ds fun xs ys=>QL (zipD xs ys) δ':=by
 unfold diZip
 congr 1
 funext ds δ'
 apply propext
 constructor
 ·rintro ⟨xs,ys,rfl,h⟩;exact h
 ·intro h
  unfold lst2K at h
  split at h
  ·exact ⟨_,_,rfl,h⟩
  ·exact h.elim
def scA (s:Slot) (k:PySem.W.Frag→List Int→Prop):Prop:=match s with | .sc K ns=>k K ns|_=>False
theorem v_scA {K:PySem.W.Frag}{ns:List Int}{k:PySem.W.Frag→List Int→Prop}:scA (.sc K ns) k=k K ns:=rfl
theorem v_callC {R:RD}:dCallC R i ul δ Q=getK i δ fun s=>scA s fun K ns=>ul δ fun ds δ'=>getK i δ' fun s'=>s' = .sc K ns∧hold R (fun b d _=>Q b d δ') .mk (.sc K ns::ds.map .fz):=by
 unfold dCallC getK hold
 have key:∀ (K:PySem.W.Frag) (ns:List Int) (δ':List Slot) (A:Prop),(δ'[i]? = some (.sc K ns)∧A)=(match δ'[i]? with|some s'=>s' = .sc K ns∧A|none=>False):=by
  intro K ns δ' A
  cases δ'[i]? <;> simp
 simp only [key]
 cases δ[i]? with
 |none=>simp
 |some s =>
  cases s with
  |sc K ns =>
   apply propext
   constructor
   ·rintro ⟨K',ns',e,h⟩;cases e;exact h
   ·intro h;exact ⟨K,ns,rfl,h⟩
  |_=>simp [scA]
end
end VL
namespace L2
open PySem PySem.Spec PyProof.Rows PySem.SeqAt
end L2
namespace VL
open PySem L2
section
variable {Q2:Bool→D→Prop}{x:Int}{ks:List Int}
end
end VL
namespace L2
open PySem
end L2
namespace L2
open PySem PyProof.Rows
section
variable {X:Cx}{pos:Pos}
end
end L2
namespace VL
open PySem L2
section
variable {X:Cx}{pos:Pos}
end
end VL
namespace L2
open PySem PySem.Spec PyProof.Rows PySem.W
end L2
namespace VL
open PySem L2
section
variable {X:Cx}
def z7w:Nat→List D→List D
 |_,[]=>[]
 |n,x::xs=>.tup [.int (n:Int),x]::z7w (n+1) xs
theorem y3x:∀ (xs:List D) (n:Nat),(z7w n xs).length=xs.length
 | [],_=>rfl
 |_::xs,n=>by rw [z7w,List.length_cons,List.length_cons,y3x xs]
theorem y3i:∀ (xs:List D) (n i:Nat) (d:D),(z7w n xs)[i]? = some d→∃ x,xs[i]? = some x∧d = .tup [.int ((n+i:Nat):Int),x]
 | [],n,i,d,h=>by simp [z7w] at h
 |x::xs,n,0,d,h=>by simp [z7w] at h;exact ⟨x,rfl,h.symm⟩
 |x::xs,n,i+1,d,h=>by
  obtain ⟨y,e1,e2⟩:=y3i xs (n+1) i d (by simpa [z7w] using h)
  exact ⟨y,by simpa using e1,by rw [e2];congr 3;congr 1;omega⟩
def diEnum (u:TLd):TLd:=fun δ Q=>u δ fun ds δ'=>∃ xs,ds=[.lst xs]∧Q (z7w 0 xs) δ'
theorem itOk_enum {F:Hp}{a:Addr}{vs:List V}{xs:List D}(ha:F a=some (.lst vs)) (ra:Reps F xs vs):ItOk (Itn a) F (z7w 0 xs):=by
 intro io H0 F0 F' δ σ H' sf I i
 have hA:H' a=some (.lst vs):=I.sub _ _ (sf _ _ ha)
 refine ⟨fun d e=>?_,fun e=>?_⟩
 ·obtain ⟨x,ex,rfl⟩:=y3i _ _ _ _ e
  obtain ⟨v,ev,rv⟩:=ra.get ex
  refine ⟨⟨vs,v,hA,ev⟩,fun z H'' yl=>?_⟩
  obtain ⟨t,rfl,ht,yl⟩:=yl
  obtain ⟨v',ev',rfl⟩:=yl vs hA
  rw [ev] at ev';cases ev'
  obtain ⟨F2,s2,I2,r2⟩:=I.newT (ds:=[.int ((0+i:Nat):Int),x]) (vs:=[.int (i:Int),v]) ht ⟨_,_,rfl,(by rw [Nat.zero_add];rfl),_,_,rfl,Rep.mono sf _ _ rv,rfl⟩
  exact ⟨F2,s2,I2,r2⟩
 ·refine ⟨vs,hA,?_⟩
  have l1:=ra.len
  rw [y3x] at e
  rw [List.getElem?_eq_none_iff]
  omega
theorem di_enum {elts:List Expr}{x1:Nat}{pt:Pos}{e1:Expr}{u:TLd}{p pos:Pos}(hg:Gl X "enumerate") (hm:X.mg "enumerate" = none) (ha:DL X [e1] u) (hs:starEach [e1] X.env=(false,eval e1 X.env)::starEach [] X.env:=by rfl) (hpl:(backTo pos (starEach [] X.env)).any (·.1)=false:=by rfl) :
  DI X (.Tuple elts x1 pt) (.Call (.Name "enumerate" p) [e1] [] pos) (diEnum u):=by
 obtain ⟨t,p,s⟩:=ha
 refine ⟨_,pi_enum hg hm p hs hpl,fun io H0 F0 F δ σ H R Qd I q k=>s io H0 F0 F δ σ H _ _ I q fun ds vs δ' F' H' sf I' r q'=>?_⟩
 obtain ⟨xs,rfl,q'⟩:=q'
 obtain ⟨v,rfl,a,us,rfl,h1,r1⟩:=r.one_inv
 exact ⟨a,rfl,us,I'.sub _ _ h1,k _ _ δ' F' H' sf I' (itOk_enum h1 r1) q'⟩
def dLenSet (t:TEd):TEd:=fun δ Q=>t δ fun _ d δ'=>∃ ks:List Str,d = .lst (ks.map .str)∧ks.length≤4000∧Q false (.int (metS (fun i=>ks.getD i "") ks.length).length) δ'
theorem de_lenSet {e:Expr}{t:TEd}{p p2 p3 p4:Pos}(hc:X.calm=true) (gl:Gl X "len") (ml:X.mg "len" = none) (gs:Gl X "set") (ms:X.mg "set" = none) (he:DE X e t)
  (s2:starEach [e] X.env=(false,eval e X.env)::starEach [] X.env:=by rfl) (n2:(backTo p3 (starEach [] X.env)).any (·.1)=false:=by rfl)
  (s1:starEach [.Call (.Name "set" p2) [e] [] p3] X.env=(false,eval (.Call (.Name "set" p2) [e] [] p3) X.env)::starEach [] X.env:=by rfl) (n1:(backTo p4 (starEach [] X.env)).any (·.1)=false:=by rfl) :
  DE X (.Call (.Name "len" p) [.Call (.Name "set" p2) [e] [] p3] [] p4) (dLenSet t):=by
 obtain ⟨t1,q1,s⟩:=he
 refine ⟨_,pe_lenSet hc gl ml gs ms q1 s2 n2 s1 n1,fun io H0 F0 F δ σ H Q Qd I q k=>s.fz I q fun d v δ1 F1 H1 f1 I1 r1 q1=>?_⟩
 obtain ⟨ks,rfl,hl,q2⟩:=q1
 obtain ⟨a,vs,rfl,h1,r⟩:=r1
 have ev:vs=ks.map V.str:=by
  clear hl q2 h1 q
  induction ks generalizing vs with
  |nil=>exact r
  |cons z ks ih =>
   obtain ⟨v,r',rfl,e1,e2⟩:=r
   cases (show v = .str z from e1)
   rw [ih _ e2];rfl
 subst ev
 exact ⟨a,ks,rfl,I1.sub _ _ h1,hl,k false _ _ δ1 F1 H1 f1 I1.pI q2⟩
end
end VL
namespace VL
open PySem L2
inductive A2 where
 |v (d:D)|o1|o2
def A2.one:A2→Bool
 |.o1=>true
 |_=>false
def A2.two:A2→Bool
 |.o2=>true
 |_=>false
abbrev TA2:=List Slot→(List A2→List Slot→Prop)→Prop
section
variable {X:Cx}{i j:Nat}{a:Expr}{es:List Expr}{da:TEd}{u:TA2}
end
abbrev TAT:=List Slot→(List A2→D→List Slot→Prop)→Prop
section
variable {X:Cx}{i:Nat}{a:Expr}{es:List Expr}{da:TEd}{u:TAT}
end
section
variable {X:Cx}{CX:CXT}{k:Nat}{f:Addr}{fd:FuncData}{ps:List Str}{R:RD}{E:XK}{x:Str}{p pos:Pos}{e:Expr}{es:List Expr}{i j:Nat}{u:TA2}
end
section
variable {δ:List Slot}{Q:Bool→D→List Slot→Prop}{QL:List D→List Slot→Prop}{Q2:Bool→D→Prop}{QA:List A2→List Slot→Prop}{td:TEd}{ul:TLd}{ua:TA2}{x y:Int}
def lst1K (ds:List D) (k:List D→Prop):Prop:=match ds with | [.lst x]=>k x|_=>False
theorem v_lst1K {x:List D}{k:List D→Prop}:lst1K [.lst x] k=k x:=rfl
theorem v_iEnum:diEnum ul δ QL=ul δ fun ds δ'=>lst1K ds fun xs=>QL (z7w 0 xs) δ':=by
 unfold diEnum
 congr 1
 funext ds δ'
 apply propext
 constructor
 ·rintro ⟨xs,rfl,h⟩;exact h
 ·intro h
  unfold lst1K at h
  split at h
  ·exact ⟨_,rfl,h⟩
  ·exact h.elim
theorem v_lenSet:dLenSet td δ Q=td δ fun _ d δ'=>∃ ks:List Str,d = .lst (ks.map .str)∧ks.length≤4000∧Q false (.int (metS (fun i=>ks.getD i "") ks.length).length) δ':=rfl
end
end VL
namespace L2
open PySem PySem.Spec PyProof.Rows PySem.SeqAt
section
variable {X:Cx}
end
end L2
namespace VL
open PySem L2
section
variable {X:Cx}{CX:CXT}{k:Nat}{f:Addr}{fd:FuncData}{ps:List Str}{R:RD}{E:XK}{x y:Str}{p p' pos:Pos}{e:Expr}{es:List Expr}{t0:TEd}{u:TLd}{i:Nat}
end
section
variable {δ:List Slot}{Q:Bool→D→List Slot→Prop}{td:TEd}{ul:TLd}{i:Nat}
end
end VL
namespace L2
open PySem PyProof.Rows
open Builtin Builtin.ObjectAttr
abbrev quiets:List Str:=["__init__","__getattribute__","__getattr__","__setattr__","__class__","name","row"]
abbrev mroV:List Value:=[.type "ValueError",.type "Exception",.type "BaseException",.type "object"]
inductive Abv (h:Heap):List Value→Prop
 |base:Abv h mroV
 |own {a:Addr}{cl:Value}{di:Option Addr}{k:ClassData}{sl:Array (Option Value)}{f:Str→Option Value}{l:List Value}
   (ob:h.get? a=some { cls:=cl,dict:=di,data:=.cls k,slots:=sl }) (ns:h.Ns k.ns f) (no:∀ x∈quiets,f x=none) (up:Abv h l):Abv h (.ref a::l)
theorem Abv.tail {h:Heap}{l:List Value}(T:Abv h l):OwnTail h mroV l:=by
 induction T with
 |base=>exact .base
 |own ob ns no _ ih=>exact .own ob ns (no _ (by simp)) ih
theorem Abv.keeps {h h2:Heap}{l:List Value}(T:Abv h l) (hk:∀ b o,h.get? b=some o→h2.get? b=some o):Abv h2 l:=by
 induction T with
 |base=>exact .base
 |own ob ns no _ ih=>exact .own (hk _ _ ob) (ns.keeps hk) no ih
theorem Abv.refuse {h:Heap}{l:List Value}(T:Abv h l) (self:Value):refuseLoop self "__setattr__" l=pure ():=by
 induction T with
 |base=>exact F.store_ValueError.passes self
 |own _ _ _ _ ih=>rw [refuseLoop_ref];exact ih
section
variable {M:Model}{A:Around}{E:Value→Shared→Prop}{h:Heap}{g:Array GenState}{d:Drawn}{t:Nat}{os:OsState}
theorem Abv.along {l:List Value}{x:Str}{y:Option Value}{Q:Option Value→Shared→Prop}(T:Abv h l) (hx:x∈quiets) (e:typeLookup (.type "ValueError") x=pure y) (q:Q y ⟨h,g,d,t,os⟩) :
  wpAny M A (lookupAlong l x) Q E ⟨h,g,d,t,os⟩:=by
 induction T with
 |base =>
  have z:lookupAlong mroV x=pure y:=by rw [typeLookup_eq,F.store_ValueError.mro] at e;exact e
  rw [z];exact wpAny_pure q
 |own ob ns no _ ih =>
  rw [lookupAlong_cons]
  refine wpAny_bind (wpAny_classOwn_cls ob ns ?_)
  rw [no x hx]
  exact ih
structure XC (h:Heap) (C:Addr) (bm:List Value) (f:Str→Option Value) (nid:String):Prop where
 ex:∃ nm q N bs sn sub ab col dd k0 k1 k2 k3 k5,h.get? C=some (excClassObj nm q C N bs bm true sn sub ab col dd k0 k1 k2 k3 k5 nid)∧h.Ns N f
 up:Abv h bm
theorem XC.keeps {h h2:Heap}{C:Addr}{bm:List Value}{f:Str→Option Value}{nid:String}(T:XC h C bm f nid) (hk:∀ b o,h.get? b=some o→h2.get? b=some o):XC h2 C bm f nid:=by
 obtain ⟨⟨nm,q,N,bs,sn,sub,ab,col,dd,k0,k1,k2,k3,k5,e,n⟩,u⟩:=T
 exact ⟨⟨nm,q,N,bs,sn,sub,ab,col,dd,k0,k1,k2,k3,k5,hk _ _ e,n.keeps hk⟩,u.keeps hk⟩
theorem XC.look {C:Addr}{bm:List Value}{f:Str→Option Value}{nid:String}{x:Str}{y:Option Value}{Q:Option Value→Shared→Prop}(c:XC h C bm f nid) (hx:x∈quiets) (e:typeLookup (.type "ValueError") x=pure y)
  (q:Q (match f x with|some v=>some v|none=>y) ⟨h,g,d,t,os⟩):wpAny M A (typeLookup (.ref C) x) Q E ⟨h,g,d,t,os⟩:=by
 obtain ⟨⟨nm,qn,N,bs,sn,sub,ab,col,dd,k0,k1,k2,k3,k5,eC,n⟩,u⟩:=c
 rw [typeLookup_eq]
 refine wpAny_bind (wpAny_mroOf_exc eC ?_)
 rw [lookupAlong_cons]
 refine wpAny_bind (wpAny_classOwn_exc eC n ?_)
 cases z:f x with
 |some v=>rw [z] at q;exact wpAny_pure q
 |none=>rw [z] at q;exact u.along hx e q
end
end L2
set_option maxHeartbeats 1000000
namespace L2
open PySem PyProof.Rows
open Builtin Builtin.ObjectAttr
section
variable {prog:Program}{w:World}{A:Around}{E:Value→Shared→Prop}{h:Heap}{g:Array GenState}{d:Drawn}{t:Nat}{os:OsState}
variable {C x:Addr}{bm:List Value}{nid:String}{f:Str→Option Value}{a:Str}{v:Value}{vs:Array Value}{sl:Array (Option Value)}
theorem hasV {l:List Value}(T:Abv h l) {X:String}(e:mroV.contains (.type X)=true) (C:Addr):(Value.ref C::l).contains (.type X)=true:=by
 rw [List.contains_cons,T.tail.hasType e,Bool.or_true]
def Laid1 (h:Heap) (x C:Addr) (vs:Array Value) (sl:Array (Option Value)) (a:Str) (v:Value) (h2:Heap):Prop :=
 ∃ dx,h.objs.size≤dx∧dx≠x∧h2.get? x=some { cls:=.ref C,dict:=some dx,data:=.fields vs,slots:=sl }∧h2.Ns1 dx (fun y=>if y=a then some v else none)∧∀ b o,b≠x→h.get? b=some o→h2.get? b=some o
theorem set_entry {tk:Tok}{Q:Fin→Shared→Prop}(c:XC h C bm f nid) (ha:a∈quiets) (hB:typeLookup (.type "ValueError") a=pure none) (hfa:f a=none)
  (hx:h.get? x=some { cls:=.ref C,data:=.fields vs,slots:=sl }) (hq:∀ h2 tk2,Laid1 h x C vs sl a v h2→Q (.done (.ret .none)) ⟨h2,g,d,tk2,os⟩) :
  wpAny (model prog w) A (Builtin.«object.__setattr__» ⟨[.ref x,.str a tk,v],[]⟩) Q E ⟨h,g,d,t,os⟩:=by
 have hpass:=c.up.refuse (.ref x)
 obtain ⟨nm,qn,N,bs,sn,sub,ab,col,dd,k0,k1,k2,k3,k5,eC,n⟩:=id c.ex
 unfold Builtin.«object.__setattr__»
 have xs:x≠h.objs.size:=Nat.ne_of_lt (Heap.lt_size hx)
 have x1:(h.push { cls:=.type "dict",data:=.dict #[] }).get? x=some { cls:=.ref C,data:=.fields vs,slots:=sl }:=Heap.get?_push_of_some _ hx
 have gd:((h.push { cls:=.type "dict",data:=.dict #[] }).update x fun o=>{ cls:=o.cls,dict:=some h.objs.size,data:=o.data,slots:=o.slots }).get? h.objs.size=some { cls:=.type "dict",data:=.dict #[] } :=
  (Heap.get?_update_ne _ _ _ _ xs.symm).trans (Heap.get?_push_at rfl rfl)
 have nd:((h.push { cls:=.type "dict",data:=.dict #[] }).update x fun o=>{ cls:=o.cls,dict:=some h.objs.size,data:=o.data,slots:=o.slots }).Ns h.objs.size (fun _=>none) :=
  ⟨_,#[],_,gd,rfl,fun e he=>absurd he (by simp),fun _=>rfl⟩
 repeat (first|rw [refuse_eq]|(rw [refuseLoop_ref,hpass])|with_reducible refine wpAny_loadPart_at hx ?_|with_reducible refine wpAny_mroOf_exc eC ?_|(with_reducible refine c.look ha hB ?_;rw [hfa])|with_reducible refine wpAny_nsSet1 (Heap.Ns1.of_empty nd) ?_|wp_step)
 intro h2 n2 s2
 obtain ⟨oD,eD,pD,gD,dD,cD⟩:=n2.count (Within.cons a v Within.nil)
 refine wpAny_bind (wpAny_lookBehind gD (by rw [dD];exact pastItsLine_dict (Nat.le_trans cD (by rw [List.length_cons,List.length_nil,sizeLine_eq];omega))) ?_)
 wp_walk
 refine hq _ _ ⟨h.objs.size,Nat.le_refl _,xs.symm,?_,n2,fun b o hb hbo=>?_⟩
 ·exact (s2.2 x xs).trans (Heap.get?_update_self _ x1 rfl)
 ·exact (s2.2 b (Nat.ne_of_lt (Heap.lt_size hbo))).trans ((Heap.get?_update_ne _ _ _ _ hb).trans (Heap.get?_push_of_some _ hbo))
theorem chk_sa {M:Model}{z:Value}{Q:Unit→Shared→Prop}(c:XC h C bm f nid) (hx:h.get? x=some { cls:=.ref C,data:=.fields vs,slots:=sl }) (hq:Q () ⟨h,g,d,t,os⟩) :
  wpAny M A (checkBuiltinCall "object.__setattr__" ⟨[.ref x,z,v],[]⟩) Q E ⟨h,g,d,t,os⟩:=by
 obtain ⟨nm,qn,N,bs,sn,sub,ab,col,dd,k0,k1,k2,k3,k5,eC,n⟩:=id c.ex
 have SF:=F.store_ValueError
 have hcB:=hasV c.up (X:="object") (by decide) C
 have har:=SF.args (.ref x) z v
 simp only [checkBuiltinCall,SF.kind,SF.split]
 refine wpAny_bind ?_
 unfold isInstance
 repeat (first|with_reducible refine wpAny_loadPart_at hx ?_|(with_reducible refine wpAny_isSubtype_exc eC ?_;rw [hcB])|wp_step)
 exact hq
theorem set_attr {Q:Unit→Shared→Prop}(c:XC h C bm f nid) (hfs:f "__setattr__" = none) (ha:a∈quiets) (hB:typeLookup (.type "ValueError") a=pure none) (hfa:f a=none)
  (hx:h.get? x=some { cls:=.ref C,data:=.fields vs,slots:=sl }) (hq:∀ h2 tk2,Laid1 h x C vs sl a v h2→Q () ⟨h2,g,d,tk2,os⟩) :
  wpAny (model prog w) A (setAttr (.ref x) a v) Q E ⟨h,g,d,t,os⟩:=by
 obtain ⟨nm,qn,N,bs,sn,sub,ab,col,dd,k0,k1,k2,k3,k5,eC,n⟩:=id c.ex
 have SF:=F.store_ValueError
 have f3:=SF.slot.bind (.ref x)
 have hcB:=hasV c.up (X:="object") (by decide) C
 have har:=SF.args (.ref x)
 unfold setAttr callSpecial? specialOf
 repeat (any_goals (first|assumption|with_reducible refine wpAny_loadPart_at hx ?_|(with_reducible refine c.look (by simp) SF.slot.lookup ?_;rw [hfs])|wp_step))
 refine codeAny_call_builtin SF.slot.plain SF.entry (chk_sa c hx (set_entry c ha hB hfa hx fun h2 tk2 hl=>?_))
 repeat (any_goals (first|assumption|wp_step))
 exact hq h2 tk2 hl
end
end L2
set_option maxHeartbeats 1000000
namespace L2
open PySem PyProof.Rows
open Builtin Builtin.ObjectAttr
section
variable {prog:Program}{w:World}{A:Around}{E:Value→Shared→Prop}{h:Heap}{g:Array GenState}{d:Drawn}{t:Nat}{os:OsState}
variable {C x dx:Addr}{bm:List Value}{nid:String}{f mA:Str→Option Value}{a:Str}{u:Value}{o:Obj}
theorem chk_ga {M:Model}{z:Value}{Q:Unit→Shared→Prop}(c:XC h C bm f nid) (hx:h.get? x=some o) (hc:o.cls = .ref C) (hq:Q () ⟨h,g,d,t,os⟩) :
  wpAny M A (checkBuiltinCall "BaseException.__getattribute__" ⟨[.ref x,z],[]⟩) Q E ⟨h,g,d,t,os⟩:=by
 obtain ⟨nm,qn,N,bs,sn,sub,ab,col,dd,k0,k1,k2,k3,k5,eC,n⟩:=id c.ex
 have kd:builtinKind "BaseException.__getattribute__" = some .slot:=by decide +kernel
 have ks:splitId "BaseException.__getattribute__" = some ("BaseException","__getattribute__"):=by decide +kernel
 have hcB:=hasV c.up (X:="BaseException") (by decide) C
 have har:=F.args_bexc_ga (.ref x) z
 simp only [checkBuiltinCall,kd,ks]
 refine wpAny_bind ?_
 unfold isInstance
 repeat (first|(with_reducible refine wpAny_loadPart_at hx ?_;rw [hc])|(with_reducible refine wpAny_isSubtype_exc eC ?_;rw [hcB])|wp_step)
 exact hq
theorem get_entry {tk:Tok}{Q:Fin→Shared→Prop}{vs:Array Value}{sl:Array (Option Value)}(c:XC h C bm f nid) (ha:a∈quiets) (hB:typeLookup (.type "ValueError") a=pure none) (hfa:f a=none)
  (hx:h.get? x=some { cls:=.ref C,dict:=some dx,data:=.fields vs,slots:=sl }) (nx:h.Ns1 dx mA) (hv:mA a=some u) (hq:Q (.done (.ret u)) ⟨h,g,d,t,os⟩) :
  wpAny (model prog w) A (Builtin.«object.__getattribute__» ⟨[.ref x,.str a tk],[]⟩) Q E ⟨h,g,d,t,os⟩:=by
 have nx2:=nx.ns
 obtain ⟨nm,qn,N,bs,sn,sub,ab,col,dd,k0,k1,k2,k3,k5,eC,n⟩:=id c.ex
 repeat (any_goals (first|assumption|with_reducible refine wpAny_loadPart_at hx ?_|(with_reducible refine c.look ha hB ?_;rw [hfa])|with_reducible refine wpAny_loadPart_at eC ?_|(with_reducible refine wpAny_nsGet nx2 ?_;rw [hv])|wp_step))
theorem get_attr {expr:Bool}{Q:Value→Shared→Prop}{vs:Array Value}{sl:Array (Option Value)}(c:XC h C bm f nid) (hg:f "__getattribute__" = none) (hh:f "__getattr__" = none) (ha:a∈quiets) (hB:typeLookup (.type "ValueError") a=pure none) (hfa:f a=none)
  (hx:h.get? x=some { cls:=.ref C,dict:=some dx,data:=.fields vs,slots:=sl }) (nx:h.Ns1 dx mA) (hv:mA a=some u) (ho:handedOut u=pure u) (hq:Q u ⟨h,g,d,t+1,os⟩) :
  wpAny (model prog w) A (getAttr (.ref x) a expr) Q E ⟨h,g,d,t,os⟩:=by
 have FB:=F.attrBase_ValueError
 have f3:=FB.ga.bind (.ref x)
 have z0:(expr && onTheHeap (Value.builtin "BaseException.__getattribute__"))=false:=by cases expr <;> rfl
 have z2:(Value.builtin "BaseException.__getattribute__" == Value.builtin "object.__getattribute__")=false:=by decide +kernel
 have z1:(onTheHeap (Value.ref C) && Value.builtin "BaseException.__getattribute__" == Value.builtin "object.__getattribute__")=false:=by rw [z2];rfl
 unfold getAttr
 repeat (any_goals (first|assumption|with_reducible refine wpAny_loadPart_at hx ?_|(with_reducible refine c.look (by simp) FB.ga.lookup ?_;rw [hg])|(with_reducible refine c.look (by simp) FB.noGetattr ?_;rw [hh])|wp_step))
 refine codeAny_call_builtin FB.ga.plain F.entry_bexc_ga (chk_ga c hx rfl (get_entry c ha hB hfa hx nx hv ?_))
 repeat (any_goals (first|assumption|rw [ho]|wp_step))
end
end L2
set_option maxHeartbeats 1000000
namespace L2
open PySem PyProof.Rows
section
variable {prog:Program}{w:World}{A:Around}{E:Value→Shared→Prop}{h:Heap}{g:Array GenState}{d:Drawn}{t:Nat}{os:OsState}
variable {C fI:Addr}{bm:List Value}{f:Str→Option Value}{us:List Value}{oI:Obj}
abbrev vnew:String:="ValueError.__new__"
abbrev y5c (us:List Value):Obj:={ cls:=.type "tuple",data:=.seq us.toArray }
abbrev z9f (C T:Addr):Obj:={ cls:=.ref C,data:=.fields #[.ref T,.none,.none,.none,.bool false,.none] }
theorem make_entry {Q:Fin→Shared→Prop}(c:XC h C bm f vnew) (hi:f "__init__" = some (.ref fI)) (hf:h.get? fI=some oI) (hfc:oI.cls = .type "function") (hl:us.length≤sizeLine)
  (hq:wpAny (model prog w) A (call (.ref fI) (.ref (h.objs.size+1)::us)) (fun r s2=>r = .none∧Q (.done (.ret (.ref (h.objs.size+1)))) s2) E ⟨(h.push (y5c us)).push (z9f C h.objs.size),g,d,t,os⟩) :
  wpAny (model prog w) A (Builtin.«type.__call__» ⟨.ref C::us,[]⟩) Q E ⟨h,g,d,t,os⟩:=by
 obtain ⟨nm,qn,N,bs,sn,sub,ab,col,dd,k0,k1,k2,k3,k5,eC,n⟩:=id c.ex
 have Fx:=F.excBase_ValueError
 have hB:mroV.contains (.type "ValueError")=true:=by decide
 have kp:∀ b o,h.get? b=some o→((h.push (y5c us)).push (z9f C h.objs.size)).get? b=some o:=fun b o e=>Heap.get?_push_of_some _ (Heap.get?_push_of_some _ e)
 have c2:XC ((h.push (y5c us)).push (z9f C h.objs.size)) C bm f vnew:=c.keeps kp
 have eC2:=kp _ _ eC
 have hs:((h.push (y5c us)).push (z9f C h.objs.size)).get? (h.objs.size+1)=some (z9f C h.objs.size):=Heap.get?_push_at (by rw [Heap.size_push]) rfl
 have hcC:(Value.ref C::bm).contains (.ref C)=true:=by simp
 repeat (first|with_reducible refine wpAny_loadPart_at eC ?_|with_reducible refine wpAny_madeBy_exc eC ?_|wp_step)
 refine codeAny_call_builtin_code (Code.quiet_builtin _ Fx.quiet) (wpAny_check_new_subU Fx hB c.up.tail eC ?_)
 refine codeAny_exc_new_subU Fx hB Fx c.up.tail eC ?_ hl
 show wpAny _ _ _ _ _ _
 unfold isInstance
 repeat (first|with_reducible refine wpAny_loadPart_at hs ?_|(with_reducible refine wpAny_isSubtype_exc eC2 ?_;rw [hcC])|wp_step)
 show wpAny _ _ (typeLookup (.ref C) _) _ _ _
 refine c2.look (by simp) Fx.init.lookup ?_
 rw [hi]
 refine wpAny_holding (wpAny_bind ?_)
 unfold bindSpecial
 refine wpAny_bind (wpAny_typeOf (T:="function") ⟨_,kp _ _ hf,hfc⟩ ?_)
 rw [if_pos (by decide)]
 refine wpAny_pure (wpAny_bind (wpAny_mono hq (fun r s2 hr=>?_) fun _ _ z=>z))
 obtain ⟨rfl,hr⟩:=hr
 wp_walk
 exact hr
theorem make_call {Q:Value→Shared→Prop}(c:XC h C bm f vnew) (hi:f "__init__" = some (.ref fI)) (hf:h.get? fI=some oI) (hfc:oI.cls = .type "function") (hl:us.length≤sizeLine)
  (hq:wpAny (model prog w) (A.under (.builtin "type.__call__" ⟨.ref C::us,[]⟩)) (call (.ref fI) (.ref (h.objs.size+1)::us)) (fun r s2=>r = .none∧Q (.ref (h.objs.size+1)) s2) E ⟨(h.push (y5c us)).push (z9f C h.objs.size),g,d,t,os⟩) :
  wpAny (model prog w) A (call (.ref C) us) Q E ⟨h,g,d,t,os⟩:=by
 obtain ⟨nm,qn,N,bs,sn,sub,ab,col,dd,k0,k1,k2,k3,k5,eC,n⟩:=id c.ex
 have f1:=tc_lookup
 have f2:=tc_bind (.ref C)
 have hT:(⟨h,g,d,t,os⟩:Shared).TypeIs (.ref C) "type":=⟨_,eC,rfl⟩
 refine wpAny_call (codeAny_of_tree ?_)
 show wpAny _ _ (callAny (.ref C) _) _ _ _
 repeat (any_goals (first|assumption|with_reducible refine wpAny_loadPart_at eC ?_|wp_step))
 refine ⟨rfl,?_⟩
 exact codeAny_call_builtin_at (Code.quiet_builtin _ (by decide +kernel)) entry_typeCall (wpAny_check_type_call_sub eC (make_entry c hi hf hfc hl hq))
end
end L2
set_option maxHeartbeats 1000000
namespace L2
open PySem PyProof.Rows
def XObj (h:Heap) (e C dx:Addr) (hd:Value):Prop:=∃ vs sl,h.get? e=some { cls:=.ref C,dict:=some dx,data:=.fields vs,slots:=sl }∧vs[1]? = some hd
def TrOk (h:Heap) (T:Addr):Prop:=∃ oT ts,h.get? T=some oT∧oT.data = .fields ts∧ts[3]? = some .none
section
variable {M:Model}{A:Around}{E:Value→Shared→Prop}{s:Shared}{base:Heap}{env:Env}{outer:List Env}{L e C dx T:Addr}
def y4n (l:List Env) (e C dx:Addr) (X:Addr→Prop) (h h2:Heap):Prop :=
 (∃ T,h.objs.size≤T∧XObj h2 e C dx (.ref T)∧TrOk h2 T)∧(∀ b o,h.get? b=some o→b≠e→¬ X b→b∉l.filterMap (·.frame)→h2.get? b=some o) ∧
  ∀ b o,h.get? b=some o→b≠e→¬ X b→∃ sl,h2.get? b=some { o with slots:=sl }
theorem entry1 {head:Value}{k:Bool}{vs:Array Value}{sl:Array (Option Value)}{Q:Unit→Shared→Prop}(hfr:A.frames=some (env::outer)) (hl:s.heap.FunFrames base (env::outer)) (hf:env.frame=some L)
  (he:s.heap.get? e=some { cls:=.ref C,dict:=some dx,data:=.fields vs,slots:=sl }) (sz:1 < vs.size) (hq:∀ h2,y4n (env::outer) e C dx (fun _=>False) s.heap h2→Q () { s with heap:=h2 }) :
  wpAny M A (do let a ← frameOf env;let p ← entryPlaceOf L k;let b ← EntryCells.newEntry head a .none (rawInt L) .none p;setField (.ref e) 1 b) (fun _ s2=>wpAny M A (setFlight (.ref e) none) Q E s2) E s:=by
 have ne:e∉(env::outer).filterMap (·.frame):=fun m=>by
  obtain ⟨_,o,ho,nf⟩:=hl.mem m
  rw [he] at ho;cases ho;exact nf vs rfl
 refine wpAny_bind (wpAny_frameOf_fun hfr hl hf fun g1 r1=>?_)
 refine wpAny_bind (wpAny_entryPlaceOf fun p hp=>?_)
 unfold EntryCells.newEntry newFields
 refine wpAny_bind (wpAny_newObj_type ?_ (hp.sizeOk5 _ _ _ _ _))
 generalize hob:(({ cls:=.type "traceback",dict:=none,data:=.fields ([head,.ref L,.none,rawInt L,.none] ++ (if p.isEmpty then List.replicate 6 Value.none else p)).toArray }:Obj))=ob
 have obd:ob.data = .fields ([head,.ref L,.none,rawInt L,.none] ++ (if p.isEmpty then List.replicate 6 Value.none else p)).toArray:=by rw [← hob]
 have obf:ob.isFreed=false:=by rw [← hob];rfl
 have e1:g1.get? e=some { cls:=.ref C,dict:=some dx,data:=.fields vs,slots:=sl }:=(r1.2.1 e ne).trans he
 have e2:=Heap.get?_push_of_some (h:=g1) ob e1
 refine wpAny_setField e2 rfl sz ?_
 have nTe:g1.objs.size≠e:=Nat.ne_of_gt (Heap.lt_size e1)
 have e3:((g1.push ob).update e (Obj.mapFields (·.setIfInBounds 1 (Value.ref g1.objs.size)))).get? e=some { cls:=.ref C,dict:=some dx,data:=.fields (vs.setIfInBounds 1 (.ref g1.objs.size)),slots:=sl } :=
  Heap.get?_update_self _ e2 rfl
 have T3:((g1.push ob).update e (Obj.mapFields (·.setIfInBounds 1 (Value.ref g1.objs.size)))).get? g1.objs.size=some ob:=(Heap.get?_update_other _ _ (Ne.symm nTe)).trans (Heap.get?_push_size g1 obf)
 unfold setFlight
 refine wpAny_bind (wpAny_field e3 rfl (x:=.ref g1.objs.size) (by simp [sz]) ?_)
 rw [if_pos (show (Value.ref g1.objs.size != Value.none)=true from by simp)]
 refine wpAny_setField T3 obd (by simp only [List.size_toArray,List.length_append,List.length_cons,List.length_nil];omega) (hq _ ⟨⟨g1.objs.size,?_,⟨_,_,(Heap.get?_update_other _ _ nTe).trans e3,by simp [sz]⟩,_,_,Heap.get?_update_self _ T3 (Obj.isFreed_of_fields (Obj.data_mapFields obd _)),Obj.data_mapFields obd _,?_⟩,fun b o hb nb _ nf=>?_,fun b o hb nb _=>?_⟩)
 ·rw [r1.1];exact Nat.le_refl _
 ·rcases hp with rfl|⟨_,_,_,_,_,_,_,rfl⟩ <;> simp
 ·have b1:g1.get? b=some o:=(r1.2.1 b nf).trans hb
  exact (Heap.get?_update_other _ _ (Nat.ne_of_gt (Heap.lt_size b1))).trans ((Heap.get?_update_other _ _ (Ne.symm nb)).trans (Heap.get?_push_of_some _ b1))
 ·obtain ⟨l2,b1⟩:=r1.2.2 b o hb
  exact ⟨l2,(Heap.get?_update_other _ _ (Nat.ne_of_gt (Heap.lt_size b1))).trans ((Heap.get?_update_other _ _ (Ne.symm nb)).trans (Heap.get?_push_of_some _ b1))⟩
theorem noted0 {Q:Unit→Shared→Prop}(hfr:A.frames=some (env::outer)) (hl:s.heap.FunFrames base (env::outer)) (hf:env.frame=some L) (he:XObj s.heap e C dx .none)
  (hq:∀ h2,y4n (env::outer) e C dx (fun _=>False) s.heap h2→Q () { s with heap:=h2 }) :
  wpAny M A (noteFrame (.ref e) env) (fun _ s2=>wpAny M A (setFlight (.ref e) none) Q E s2) E s:=by
 obtain ⟨vs,sl,he,h1⟩:=he
 unfold noteFrame
 simp only [hf]
 refine wpAny_bind (wpAny_field he rfl h1 ?_)
 rw [if_neg (by decide)]
 exact entry1 hfr hl hf he (Array.getElem?_eq_some_iff.mp h1).1 hq
theorem noted1 {Q:Unit→Shared→Prop}(hfr:A.frames=some (env::outer)) (hl:s.heap.FunFrames base (env::outer)) (hf:env.frame=some L) (he:XObj s.heap e C dx (.ref T)) (hT:TrOk s.heap T) (nT:T≠e)
  (hq:∀ h2,y4n (env::outer) e C dx (fun b=>b=T) s.heap h2→Q () { s with heap:=h2 }) :
  wpAny M A (noteFrame (.ref e) env) (fun _ s2=>wpAny M A (setFlight (.ref e) none) Q E s2) E s:=by
 obtain ⟨vs,sl,he,h1⟩:=he
 obtain ⟨oT,ts,gT,dT,h3⟩:=hT
 unfold noteFrame
 simp only [hf]
 refine wpAny_bind (wpAny_field he rfl h1 ?_)
 rw [if_pos (show (Value.ref T != Value.none)=true from by simp)]
 refine wpAny_bind (wpAny_field gT dT h3 ?_)
 rw [if_neg (show ¬ ((Value.none == rawInt L)=true) from by simp [rawInt])]
 refine wpAny_bind (wpAny_setField gT dT (Array.getElem?_eq_some_iff.mp h3).1 ?_)
 have oth:∀ b,b≠T→(s.heap.update T (Obj.mapFields (·.setIfInBounds 3 Value.none))).get? b=s.heap.get? b:=fun b nb=>Heap.get?_update_other _ _ (Ne.symm nb)
 have nf:∀ b o,s.heap.get? b=some o→(∀ q,o.data ≠ .fields q)→b≠T:=fun b o hb n z=>by
  subst z;rw [gT] at hb;cases hb;exact n ts dT
 refine entry1 (hfr) (hl.of_keeps fun b o hb n=>⟨o,(oth b (nf b o hb n)).trans hb,rfl⟩) hf ((oth e (Ne.symm nT)).trans he) (Array.getElem?_eq_some_iff.mp h1).1 fun h2 N=>hq h2 ?_
 obtain ⟨⟨T2,n2,x2,t2⟩,k,k2⟩:=N
 exact ⟨⟨T2,Nat.le_trans (Nat.le_of_eq (Heap.size_after_update ..).symm) n2,x2,t2⟩,fun b o hb nb nx=>k b o ((oth b nx).trans hb) nb id,fun b o hb nb nx=>k2 b o ((oth b nx).trans hb) nb id⟩
end
end L2
set_option maxHeartbeats 1000000
namespace L2
open PySem PyProof.Rows
def XO (C dx x:Addr):HO:=.ext fun h=>∃ vs sl,h.get? x=some { cls:=.ref C,dict:=some dx,data:=.fields vs,slots:=sl }
section
variable {P:Program}{w:World}{X:Cx}{pins:List (Addr × Obj)}{σ:St}{H:Hp}{s:Shared}{x C dx T:Addr}{hd:Value}{l:List Env}{h2:Heap}
theorem XO.ok {h:Heap}(o:XObj h x C dx hd):ObjOk P w H h x (XO C dx x):=by
 obtain ⟨vs,sl,e,_⟩:=o
 exact ⟨⟨vs,sl,e⟩,⟨_,e⟩,fun h1 h2 ⟨vs,sl,e⟩ k=>⟨vs,sl,k _ e⟩⟩
theorem y6g {Y:Addr→Prop}(ok:HOk P w H s.heap) (fr:∀ b∈frs l,H b=none) (hY:∀ b,Y b→H b=none) (hx:H x=some (XO C dx x)) (N:y4n l x C dx Y s.heap h2):HOk P w H h2:=fun a o e=>by
 obtain ⟨⟨T2,_,x2,_⟩,k,k2⟩:=N
 by_cases z:a=x
 ·subst z;rw [hx] at e;cases e;exact XO.ok x2
 ·refine (ok a o e).stay (fun b u hb q=>?_) (fun _ q=>q) fun _ _ q=>q
  have tr:∃ ob,H b=some ob∧b≠x:=by
   rcases hb with rfl|hb
   ·exact ⟨_,e,z⟩
   ·refine ⟨_,hb,fun r=>?_⟩
    subst r;rw [hx] at hb;cases hb
  obtain ⟨ob,tr,nb⟩:=tr
  exact k b u q nb (fun y=>by rw [hY b y] at tr;cases tr) fun y=>by rw [fr b y] at tr;cases tr
theorem noted_un {Y:Addr→Prop}(ok:HOk P w H s.heap) (fr:∀ b∈frs l,H b=none) (hY:∀ b,Y b→H b=none) (hx:H x=some (XO C dx x)) (N:y4n l x C dx Y s.heap h2) {ex:List Addr}(hex:∀ b,Y b→b∈ex) :
  Un (frs l) ex H H s.heap h2∧HOk P w H h2:=by
 obtain ⟨⟨T2,_,x2,_⟩,k,k2⟩:=id N
 have nx:∀ b,H b=none→b≠x:=fun b n z=>by subst z;rw [hx] at n;cases n
 refine ⟨⟨fun b o e n nf ne=>k b o e (nx b n) (fun y=>ne (hex b y)) nf,fun b o e n _ ne=>k2 b o e (nx b n) fun y=>ne (hex b y),fun _ _ _ n _=>n,fun b o e ne=>?_,fun _ _ q=>q,fun _ _ _ q=>q,fun _ ps q=>⟨#[],by rw [q];simp⟩⟩,y6g ok fr hY hx N⟩
 ·by_cases z:b=x
  ·subst z;obtain ⟨vs,sl,q,_⟩:=x2;exact ⟨_,q⟩
  ·obtain ⟨sl,q⟩:=k2 b o e z fun y=>ne (hex b y)
   exact ⟨_,q⟩
def CX1 (P:Program) (w:World):CXT:=fun outer H s E e s2=>∃ x C dx T H2,e = .ref x∧s2.os=s.os∧AllBare s2.gens∧Un (frs outer) [] H H2 s.heap s2.heap∧HOk P w H2 s2.heap∧H2 x=some (XO C dx x) ∧
 XObj s2.heap x C dx (.ref T)∧TrOk s2.heap T∧H2 T=none∧s.heap.objs.size≤x∧s.heap.objs.size≤T∧E (.ref x) (some dx) H2
theorem tr_ne (o:XObj s.heap x C dx hd) (hx:H x=some (XO C dx x)) (n:H T=none):T≠x:=fun z=>by subst z;rw [hx] at n;cases n
theorem leave {K:PySem.W.Frag}{mg:Str→Option Value}{base:Heap}{N:List Str}{qual:Str}{scope:Scope}{f:Addr}{cd:Value}{A:Around}{outer:List Env}{s0:Shared}{H0:Hp}{E:XK}
  (I:Inv (cxOf (CX1 P w) P w K mg base N qual scope f cd A outer s0 H0 E) pins σ H s) (hx:H x=some (XO C dx x)) (o:XObj s.heap x C dx hd)
  (ht:hd = .none ∨ ∃ T,hd = .ref T∧TrOk s.heap T∧H T=none∧s0.heap.objs.size≤T) (nx:s0.heap.objs.size≤x) (q:E (.ref x) (some dx) H) :
  (cxOf (CX1 P w) P w K mg base N qual scope f cd A outer s0 H0 E).xe (.ref x) s:=by
 have hl:=I.stack
 have fr:=I.stkFree
 have fin:∀ (Y:Addr→Prop),(∀ b,Y b→H b=none∧s0.heap.objs.size≤b)→∀ h2,y4n (envOfC qual scope s0.heap.objs.size f cd::outer) x C dx Y s.heap h2→CX1 P w outer H0 s0 E (.ref x) { s with heap:=h2 }:=fun Y hY h2 nt=>by
  obtain ⟨⟨T2,n2,x2,t2⟩,k,k2⟩:=id nt
  have ok:HOk P w H h2:=y6g I.hok fr (fun b y=>(hY b y).1) hx nt
  have old:∀ b o,s0.heap.get? b=some o→b≠x∧¬ Y b∧b≠s0.heap.objs.size:=fun b o e=>by
   have lt:b < s0.heap.objs.size:=Heap.lt_size e
   exact ⟨fun z=>absurd nx (by subst z;exact Nat.not_le_of_lt lt),fun z=>absurd (hY b z).2 (Nat.not_le_of_lt lt),Nat.ne_of_lt lt⟩
  have B:Un (frs outer) [] H0 H s0.heap s.heap:=I.base
  refine ⟨x,C,dx,T2,H,rfl,I.os,I.bare,⟨fun b o e n nf _=>?_,fun b o e n nf _=>?_,fun b o e n _=>B.free b o e n (by simp),fun b o e _=>?_,B.tups,B.frzs,B.tbls⟩,ok,hx,x2,t2,I.hok.fresh n2,nx,Nat.le_trans I.sz n2,q⟩
  ·obtain ⟨y1,y2,y3⟩:=old b o e
   refine k b o (B.keep b o e n nf (by simp)) y1 y2 fun z=>?_
   rcases List.mem_cons.mp (show b∈s0.heap.objs.size::frs outer from z) with z|z
   ·exact y3 z
   ·exact nf z
  ·obtain ⟨y1,y2,y3⟩:=old b o e
   obtain ⟨sl,e1⟩:=B.slot b o e n nf (by simp)
   obtain ⟨sl2,e2⟩:=k2 b _ e1 y1 y2
   exact ⟨sl2,e2⟩
  ·obtain ⟨y1,y2,y3⟩:=old b o e
   obtain ⟨o1,e1⟩:=B.there b o e (by simp)
   obtain ⟨sl,e2⟩:=k2 b _ e1 y1 y2
   exact ⟨_,e2⟩
 show wpAny _ _ (leaving _ _) _ _ _
 unfold leaving
 rcases ht with rfl|⟨T,rfl,hT,nT,zT⟩
 ·exact wpAny_bind (noted0 I.ok.frames hl rfl o (fin _ fun b y=>y.elim))
 ·exact wpAny_bind (noted1 I.ok.frames hl rfl o hT (tr_ne o hx nT) (fin _ fun b y=>by cases y;exact ⟨nT,zT⟩))
theorem z5a {K:PySem.W.Frag}{mg:Str→Option Value}{base:Heap}{N:List Str}{qual:Str}{scope:Scope}{f:Addr}{cd:Value}{A:Around}{outer:List Env}{s0:Shared}{H0:Hp}{E:XK} :
  z8q (CX1 P w) (cxOf (CX1 P w) P w K mg base N qual scope f cd A outer s0 H0 E) E:=fun pins σ H s e s2 I ⟨x,C,dx,T,H2,he,os,bare,un,ok,hx,xo,tr,hT,nx,nT,q⟩=>by
 subst he
 have I2:=I.call' os un ok bare (fun b z=>absurd z (by simp))
 exact leave I2 hx xo (.inr ⟨T,rfl,tr,hT,Nat.le_trans I.sz nT⟩) (Nat.le_trans I.sz nx) q
end
end L2
set_option maxHeartbeats 1000000
namespace L2
open PySem PyProof.Rows
def y2d (K:PySem.W.Frag) (N:Addr) (l:List Str):Bool:=PySem.W.nsOkIn K N && l.all fun x=>PySem.W.nsIn K N x == some none
def abvIn (K:PySem.W.Frag):List Value→Bool
 | []=>false
 |v::r=>(v::r) == mroV || match v with
  |.ref a=>(match K.lookup a with
   |some ⟨_,_,.cls k,_⟩=>y2d K k.ns quiets && abvIn K r
   |_=>false)
  |_=>false
theorem y6r {K:PySem.W.Frag}{h:Heap}{N:Addr}{l:List Str}(X:K.In h) (q:y2d K N l=true):h.Ns N (h.nsMap N)∧∀ x∈l,h.nsMap N x=none:=by
 unfold y2d at q
 simp only [Bool.and_eq_true,List.all_eq_true,beq_iff_eq] at q
 exact ⟨.of_isNs (PySem.W.isNs_of_in X q.1),fun x hx=>PySem.W.nsMap_none_of_in X q.1 (q.2 x hx)⟩
theorem abv_of {K:PySem.W.Frag}{h:Heap}(X:K.In h):∀ {l:List Value},abvIn K l=true→Abv h l
 | [],e=>by cases e
 |v::r,e=>by
  unfold abvIn at e
  rcases Bool.or_eq_true_iff.mp e with q|q
  ·rw [beq_iff_eq.mp q];exact .base
  ·split at q
   ·split at q
    ·rename_i ho
     rw [Bool.and_eq_true] at q
     obtain ⟨n,f⟩:=y6r X q.1
     exact .own (X _ _ ho) n f (abv_of X q.2)
    ·cases q
   ·cases q
def xcIn (K:PySem.W.Frag) (C:Addr) (bm:List Value) (fI:Addr):Bool:=match K.lookup C with
 |some ⟨.type "type",_,.cls k,sl⟩=>(match k.mro,sl.toList with
  |.ref c::l,[_,_,_,_,some (.builtin n),_]=>c == C && l == bm && n == vnew && !k.hasDel && k.hasDict && abvIn K l && y2d K k.ns quiets.tail && PySem.W.nsIn K k.ns "__init__" == some (some (.ref fI))
  |_,_=>false)
 |_=>false
theorem ns_some_of {K:PySem.W.Frag}{h:Heap}{N:Addr}{mg:Str→Option Value}{n:Str}{v:Value}(X:K.In h) (G:h.Ns N mg) (e:PySem.W.nsIn K N n=some (some v)):mg n=some v:=by
 obtain ⟨o,es,ep,ho,hd,_,hf⟩:=G
 unfold PySem.W.nsIn at e
 split at e
 ·rename_i c d es2 n2 sl q
  have z:=X _ _ q
  rw [ho] at z
  cases z
  cases hd
  split at e
  ·rename_i he
   rw [← hf]
   unfold nsFind findBy
   rw [← Array.find?_toList,he]
   simpa using e
  ·exact absurd e (by intro z;split at z <;> cases z)
 ·cases e
theorem y3d {K:PySem.W.Frag}{h:Heap}{C fI:Addr}{bm:List Value}(X:K.In h) (q:xcIn K C bm fI=true):∃ f,XC h C bm f vnew∧f "__init__" = some (.ref fI)∧∀ x∈quiets.tail,f x=none:=by
 unfold xcIn at q
 split at q
 ·rename_i dd k sl ho
  split at q
  ·rename_i c l k0 k1 k2 k3 n k5 hm hs
   simp only [Bool.and_eq_true,beq_iff_eq,Bool.not_eq_true'] at q
   obtain ⟨⟨⟨⟨⟨⟨⟨rfl,rfl⟩,rfl⟩,hdel⟩,hdi⟩,ht⟩,hq⟩,hi⟩:=q
   obtain ⟨nm,bs,mro,ns,qn,hd,sn,sub,ab,col,del⟩:=k
   dsimp only at hm hdel hq hi hdi
   subst hm hdel hdi
   have hsl:sl = #[k0,k1,k2,k3,some (.builtin vnew),k5]:=by
    obtain ⟨l⟩:=sl
    simp only at hs
    rw [hs]
   subst hsl
   obtain ⟨n,f⟩:=y6r X hq
   exact ⟨h.nsMap ns,⟨⟨nm,qn,ns,bs,sn,sub,ab,col,dd,k0,k1,k2,k3,k5,X _ _ ho,n⟩,abv_of X ht⟩,ns_some_of X n hi,f⟩
  ·cases q
 ·cases q
end L2
set_option maxHeartbeats 1000000
namespace L2
open PySem PyProof.Rows
def XN (C T x:Addr):HO:=.ext fun h=>h.get? x=some (z9f C T)
def XF (C dx x:Addr):HO:=.ext fun h=>XObj h x C dx .none
section
variable {P:Program}{w:World}{X:Cx}{pins:List (Addr × Obj)}{σ:St}{H:Hp}{s:Shared}{x C dx T:Addr}{h h2:Heap}{fs ex:List Addr}{o1 o2:HO}
theorem Un.two (mu:Mut (H x)) (nd:dx≠x) (k:∀ b u,b≠x→h.get? b=some u→h2.get? b=some u) (hx:∃ u,h2.get? x=some u) (hp:h.objs.size≤dx) (hn:H dx=none):Un fs ex H (upd (upd H dx o1) x o2) h h2:=by
 have nx:∀ b,H b=none→b≠x:=fun b n z=>by subst z;rw [n] at mu;exact mu
 have nz:∀ b u,h.get? b=some u→b≠dx:=fun b u e=>Nat.ne_of_lt (Nat.lt_of_lt_of_le (Heap.lt_size e) hp)
 have tr:∀ b u,H b=some u→¬ Mut (some u)→upd (upd H dx o1) x o2 b=some u:=fun b u e m=>by
  rw [z0f (fun z=>by subst z;rw [e] at mu;exact m mu),z0f (z0l e hn)];exact e
 refine ⟨fun b o e n _ _=>k b o (nx b n) e,fun b o e n _ _=>⟨o.slots,k b o (nx b n) e⟩,fun b o e n _=>by rw [z0f (nx b n),z0f (nz b o e)];exact n,fun b o e _=>?_,fun b xs e=>tr b _ e id,fun b o u e=>tr b _ e id,fun b ps e=>⟨#[],by rw [tr b _ e id];simp⟩⟩
 by_cases z:b=x
 ·subst z;exact hx
 ·exact ⟨o,k b o z e⟩
theorem HOk.two (ok:HOk P w H h) (mu:Mut (H x)) (nd:dx≠x) (k:∀ b u,b≠x→h.get? b=some u→h2.get? b=some u) (hp:h.objs.size≤dx)
  (n1:ObjOk P w (upd (upd H dx o1) x o2) h2 dx o1) (n2:ObjOk P w (upd (upd H dx o1) x o2) h2 x o2):HOk P w (upd (upd H dx o1) x o2) h2:=fun b u e=>by
 have hn:=ok.fresh hp
 by_cases zx:b=x
 ·subst zx;rw [z0d] at e;cases e;exact n2
 ·rw [z0f zx] at e
  by_cases zd:b=dx
  ·subst zd;rw [z0d] at e;cases e;exact n1
  ·rw [z0f zd] at e
   have st:∀ c v,H c=some v→¬ Mut (some v)→upd (upd H dx o1) x o2 c=some v:=fun c v q m=>by
    rw [z0f (fun z=>by subst z;rw [q] at mu;exact m mu),z0f (z0l q hn)];exact q
   refine (ok b u e).stay (fun c v hc q=>k c v (fun z=>?_) q) (fun c q=>st c _ q id) fun c xs q=>st c _ q id
   subst z
   rcases hc with hc|hc
   ·exact zx hc.symm
   ·rw [hc] at mu;exact mu
def tSetX (C:Addr) (a:Str) (to tv:TE):TS:=fun D σ H=>tv σ H fun v H1=>to σ H1 fun y H2=>∃ x T,y = .ref x∧H2 x=some (XN C T x)∧∀ dx,H2 dx=none→dx≠x→D.nx σ (upd (upd H2 dx (.xd [(a,v)])) x (XF C dx x))
theorem ps_setX {a:Str}{bm:List Value}{fI:Addr}{eo ev:Expr}{p pos:Pos}{to tv:TE}(q:xcIn X.K C bm fI=true) (ha:a∈(["name","row"]:List Str)) (hv:PE X ev tv) (ho:PE X eo to)
  (hs:swapsWith ev (some (.Attribute eo a p)) pos.line X.env=pure false:=by rfl):PS X (.Assign [.Attribute eo a p] ev pos) (tSetX C a to tv):=by
 intro pins s σ H D I h
 refine plainObj_wpAny_Assign_Attribute (thn (hv pins s σ H _ I h) fun u s1 ⟨v,H1,I1,rv,h1⟩=>thn (ho pins s1 σ H1 _ I1 h1) fun y s2 ⟨yv,H2,I2,ry,x,T,e,hx,h2⟩=>?_) hs
 subst e
 obtain rfl:y=Value.ref x:=ry
 obtain ⟨hp,g,d,tk,os⟩:=s2
 obtain ⟨f,c,_,qt⟩:=y3d I2.kIn q
 obtain ⟨hx0,_,_⟩:=I2.hok x _ hx
 have hB:typeLookup (.type "ValueError") a=pure none:=by
  rcases List.mem_cons.mp ha with rfl|ha
  ·rw [typeLookup_type,builtinLookup_eq_fast];kernel_rfl
  ·rcases List.mem_cons.mp ha with rfl|ha
   ·rw [typeLookup_type,builtinLookup_eq_fast];kernel_rfl
   ·cases ha
 have ha2:a∈quiets.tail:=by
  simp only [List.mem_cons,List.not_mem_nil,or_false] at ha
  rcases ha with rfl|rfl <;> simp
 refine set_attr c (qt _ (by simp)) (List.mem_of_mem_tail ha2) hB (qt a ha2) hx0 fun g2 tk2 ⟨dx,n1,n2,gx,nx,kp⟩=>?_
 have fr:H2 dx=none:=I2.hok.fresh n1
 refine ⟨σ,_,I2.un (Un.two (o1:=.xd [(a,v)]) (o2:=XF C dx x) (by rw [hx];trivial) n2 kp ⟨_,gx⟩ n1 fr) (I2.hok.two (by rw [hx];trivial) n2 kp n1 ⟨_,nx,fun y=>?_⟩ ⟨⟨_,_,gx,rfl⟩,⟨_,gx⟩,fun h1 h2 ⟨vs,sl,e,z⟩ k=>⟨vs,sl,k _ e,z⟩⟩),h2 dx fr n2⟩
 by_cases z:y=a
 ·subst z
  have:([(y,v)]:List (Str × V)).lookup y=some v:=by simp [List.lookup]
  rw [this,if_pos rfl];exact rv
 ·have:([(a,v)]:List (Str × V)).lookup y=none:=by
   have hb:(y == a)=false:=by simpa using z
   simp [List.lookup,hb]
  rw [this,if_neg z];trivial
end
end L2
set_option maxHeartbeats 1000000
namespace L2
open PySem PyProof.Rows
def sp_init (C:Addr) (a:Str):Sp:=fun vs H Q _=>∃ x T v,vs=[.ref x,v]∧H x=some (XN C T x)∧∀ dx,H dx=none→dx≠x→Q .non (upd (upd H dx (.xd [(a,v)])) x (XF C dx x))
section
variable {P:Program}{w:World}{K:PySem.W.Frag}{mg:Str→Option Value}{base:Heap}{C fI:Addr}{bm:List Value}{a qual:Str}{st:Stmt}{fd:FuncData}
theorem y5n {p1 p2 p3 pos:Pos}(F:Fun K "__init__" qual st fI fd) (S:FnScope ["self",a] ["self",a] (z0c st)) (hb:z0n st=[.Assign [.Attribute (.Name "self" p1) a p2] (.Name a p3) pos]) (q:xcIn K C bm fI=true)
  (ha:a∈(["name","row"]:List Str)):FnOk P w K mg base CX0 1 fI fd ["self",a] (sp_init C a):=by
 refine F.ok S (fun vs H Q E h=>?_) (fun cdv A outer s H vs Q E hr h=>?_)
 ·obtain ⟨_,_,_,rfl,_⟩:=h;rfl
 ·obtain ⟨x,T,v,rfl,hx,h⟩:=h
  have vis:∀ y∈(["self",a]:List Str),Vis (z0c st) y:=fun y hy=>by
   rcases S.par y hy with z|z
   ·exact .inl z
   ·exact .inr (.inl z)
  have db:(a == ("__debug__":Str))=false∧(a == ("__classdict__":Str))=false:=by
   simp only [List.mem_cons,List.not_mem_nil,or_false] at ha
   rcases ha with rfl|rfl <;> decide
  rw [hb]
  refine ⟨_,z0h (ps_setX q ha (y0g (i:=1) rfl (vis a (by simp)) db.1 db.2) (y0g (i:=0) rfl (vis "self" (by simp)))) z0t,?_⟩
  refine ⟨v,rfl,.ref x,rfl,x,T,rfl,hx,fun dx n1 n2=>h dx n1 n2⟩
theorem raise_own {M:Model}{A:Around}{E:Value→Shared→Prop}{s:Shared}{env:Env}{t:Sem Value}{Q:Flow→Shared→Prop}(hh:A.handled=none)
  (h:wpAny M A t (fun v s1=>∃ e C dx bm f,v = .ref e∧XC s1.heap C bm f vnew∧XObj s1.heap e C dx .none∧E (.ref e) s1) E s):wpAny M A (raiseStmt env (some t) none) Q E s:=by
 unfold raiseStmt
 refine wpAny_bind (wpAny_mono h (fun v s1 h1=>?_) fun _ _ z=>z)
 obtain ⟨e,C,dx,bm,f,rfl,c,⟨vs,sl,he,hv⟩,hE⟩:=h1
 obtain ⟨hp,g,d,tk,os⟩:=s1
 obtain ⟨nm,qn,N,bs,sn,sub,ab,col,dd,k0,k1,k2,k3,k5,eC,n⟩:=id c.ex
 have hcB:=hasV c.up (X:="BaseException") (by decide) C
 repeat (first|with_reducible refine wpAny_field he rfl hv ?_|with_reducible refine wpAny_loadPart_at he ?_|with_reducible refine wpAny_loadPart_at eC ?_|(with_reducible refine wpAny_isSubtype_exc eC ?_;rw [hcB])|wp_step)
 exact wpAny_raiseNew_none hh hE
end
end L2
set_option maxHeartbeats 1000000
namespace L2
open PySem PyProof.Rows
def y5y (C:Addr) (a:Str) (E:XK) (t:TA):TS:=fun _ σ H=>t σ H fun vs H1=>∃ v,vs=[v]∧∀ x dx,H1 x=none→H1 dx=none→dx≠x→E (.ref x) (some dx) (upd (upd H1 dx (.xd [(a,v)])) x (XO C dx x))
section
variable {P:Program}{w:World}{K:PySem.W.Frag}{mg:Str→Option Value}{base:Heap}{C fI:Addr}{bm:List Value}{a:Str}{fd:FuncData}
structure XK1 (P:Program) (w:World) (K:PySem.W.Frag) (mg:Str→Option Value) (base:Heap) (cn a:Str) (C:Addr):Prop where
 ex:∃ bm fI fd,xcIn K C bm fI=true∧FnOk P w K mg base CX0 1 fI fd ["self",a] (sp_init C a)∧Binds K fd ["self",a] []∧∃ o,K.lookup fI=some o∧o.cls = .type "function"
 g:mg cn=some (.ref C)
 kp:PySem.W.keepIn K (.ref C)=true
theorem make_run {X:Cx}{cn:Str}{pins:List (Addr × Obj)}{σ:St}{H:Hp}{s:Shared}{v:V}{u:Value}{Q:Value→Shared→Prop}(c:XK1 X.prog X.w X.K X.mg X.base cn a C) (hr:Room 2 X.A) (I:Inv X pins σ H s) (r:RelV v u)
  (h:∀ x dx s2,H x=none→H dx=none→dx≠x→s.heap.objs.size≤x→Inv X pins σ (upd (upd H dx (.xd [(a,v)])) x (XF C dx x)) s2→(∃ bm f,XC s2.heap C bm f vnew)→Q (.ref x) s2) :
  wpAny (model X.prog X.w) X.A (call (.ref C) [u]) Q X.xe s:=by
 obtain ⟨⟨bm,fI,fd,q,F,hb,oI,lk,fc⟩,g,kp⟩:=c
 obtain ⟨f,c,hi,_⟩:=y3d I.kIn q
 obtain ⟨hp,gs,d,tk,os⟩:=s
 refine make_call c hi (I.kIn _ _ lk) fc (by simp [sizeLine_eq]) ?_
 have gx:((hp.push (y5c [u])).push (z9f C hp.objs.size)).get? (hp.objs.size+1)=some (z9f C hp.objs.size):=Heap.get?_push_at (by rw [Heap.size_push]) rfl
 have I2:Inv X pins σ (upd H (hp.objs.size+1) (XN C hp.objs.size (hp.objs.size+1))) ⟨(hp.push (y5c [u])).push (z9f C hp.objs.size),gs,d,tk,os⟩ :=
  I.laid (fun b o e=>Heap.get?_push_of_some _ (Heap.get?_push_of_some _ e)) (Nat.le_succ _) ⟨gx,⟨_,gx⟩,fun h1 h2 e k=>k _ e⟩
 have nx:H (hp.objs.size+1)=none:=I.hok.fresh (Nat.le_succ _)
 have rv:Vals [V.ref (hp.objs.size+1),v] [Value.ref (hp.objs.size+1),u]:=.cons rfl (.cons r .nil)
 refine wpAny_call (codeAny_mono (F.run _ X.stack _ _ ⟨[.ref (hp.objs.size+1),u],[]⟩ [.ref (hp.objs.size+1),u] _ (fun z H2=>z = .non∧∃ dx,H dx=none∧dx≠hp.objs.size+1∧H2=upd (upd H dx (.xd [(a,v)])) (hp.objs.size+1) (XF C dx (hp.objs.size+1))) E0 ((hr.make C [u] []).mono (by omega))
  (I2.env0.make C [u] []) (by simpa using hb _ [.ref (hp.objs.size+1),u] I2.kIn rfl) rv ⟨_,_,v,rfl,z0d,fun dx n1 n2=>⟨rfl,dx,?_,n2,?_⟩⟩) fun r s2 hq=>?_)
 ·rw [z0f n2] at n1;exact n1
 ·funext b
  unfold upd
  by_cases z:b=hp.objs.size+1
  ·simp [z]
  ·simp [z]
 ·cases r with
  |error e=>exact False.elim hq
  |ok fl =>
   cases fl with
   |ret u2 =>
    obtain ⟨z,H2,I3,rz,e1,dx,n1,n2,e2⟩:=I2.after hq
    subst e1;subst e2
    exact ⟨rz,h _ dx s2 nx n1 n2 (Nat.le_succ _) I3 (let ⟨f,c,_⟩:=y3d I3.kIn q;⟨_,f,c⟩)⟩
   |next=>exact False.elim hq
   |brk=>exact False.elim hq
   |cont=>exact False.elim hq
theorem y0l {N:List Str}{qual:Str}{scope:Scope}{f:Addr}{cd:Value}{A:Around}{outer:List Env}{s0:Shared}{H0:Hp}{E:XK}{cn:Str}{p cpos pos:Pos}{e:Expr}{t:TA}
  (c:XK1 P w K mg base cn a C) (hr:Room 2 (cxOf (CX1 P w) P w K mg base N qual scope f cd A outer s0 H0 E).A) (hg:Gl (cxOf (CX1 P w) P w K mg base N qual scope f cd A outer s0 H0 E) cn)
  (ha:PA (cxOf (CX1 P w) P w K mg base N qual scope f cd A outer s0 H0 E) [e] t) (hdb:(cn == ("__debug__":Str))=false:=by decide)
  (he:starEach [e] (cxOf (CX1 P w) P w K mg base N qual scope f cd A outer s0 H0 E).env=(false,eval e (cxOf (CX1 P w) P w K mg base N qual scope f cd A outer s0 H0 E).env)::starEach [] (cxOf (CX1 P w) P w K mg base N qual scope f cd A outer s0 H0 E).env:=by rfl) :
  PS (cxOf (CX1 P w) P w K mg base N qual scope f cd A outer s0 H0 E) (.Raise (some (.Call (.Name cn p) [e] [] cpos)) none pos) (y5y C a E t):=by
 intro pins s σ H D I h
 rw [arm_exec_Raise]
 refine wpAny_bind (wpAny_standAt (raise_own (I.ok.hd rfl) ?_))
 refine wpAny_bind (wpAny_mono (wpAny_Call_Name_kw (z7d I hg c.g ?_ hdb)) (fun v s2 h2=>wpAny_bind (wpAny_standAt (wpAny_pure h2))) fun _ _ z=>z)
 refine PySem.W.callWith_K (h₀:=base) I.ok.mod.kin c.kp (thn (ha cpos pins s σ H _ I h) fun us s1 ⟨vs,H1,I1,r,v,e1,h1⟩=>⟨I1.kIn,?_⟩) he rfl
 subst e1
 obtain ⟨u,rfl,ru⟩:=z9d r
 refine make_run c hr I1 ru fun x dx s2 n1 n2 n3 n4 I2 ⟨bm,f2,xc⟩=>?_
 have hx:∃ vs sl,s2.heap.get? x=some { cls:=.ref C,dict:=some dx,data:=.fields vs,slots:=sl }∧vs[1]? = some .none:=by
  obtain ⟨⟨vs,sl,e1,e2⟩,_,_⟩:=I2.hok x _ z0d
  exact ⟨vs,sl,e1,e2⟩
 have xo:XObj s2.heap x C dx .none:=hx
 refine ⟨x,C,dx,bm,f2,rfl,xc,xo,?_⟩
 have I3:Inv (cxOf (CX1 P w) P w K mg base N qual scope f cd A outer s0 H0 E) pins σ (upd (upd (upd H1 dx (.xd [(a,v)])) x (XF C dx x)) x (XO C dx x)) s2:=by
  have:=I2.write (x:=x) (e:=x) (o:=XO C dx x) (h':=s2.heap) (t':=s2.toks) (by rw [z0d];trivial) (.inl rfl) (fun b u _ q=>q) (by obtain ⟨_,_,q,_⟩:=hx;exact ⟨_,q⟩) (XO.ok xo)
  exact this
 rw [upd_upd] at I3
 exact leave I3 z0d xo (.inl rfl) (Nat.le_trans I1.sz n4) (h1 x dx n1 n2 n3)
end
end L2
set_option maxHeartbeats 1000000
namespace L2
open PySem PyProof.Rows
section
variable {X:Cx}{pins:List (Addr × Obj)}{σ:St}{H:Hp}{s:Shared}{M:Model}{A:Around}{E:Value→Shared→Prop}
theorem Inv.frame {σ2:St}{h2:Heap}{m:Str→Option Value}(I:Inv X pins σ H s) (hs:Heap.SameBut X.env.locals s.heap h2) (hn:h2.Ns X.env.locals m)
  (hl:∀ (i:Nat) (x:Str) (v:V),X.N[i]? = some x→σ2[i]? = some (some v)→Vis X.env.scope x→∃ u,RelV v u∧Look X.env h2 m x u) (hz:σ2.length=σ.length):Inv X pins σ2 H { s with heap:=h2 }:=by
 have nb:∀ b o,X.s₀.heap.get? b=some o→b≠X.env.locals:=fun b o e=>Nat.ne_of_lt (Nat.lt_of_lt_of_le (Heap.lt_size e) I.ok.above)
 have tr:HOk X.prog X.w H h2:=fun b ob e=>by
  refine (I.hok b ob e).stay (fun c u hc q=>(hs.2 c ?_).trans q) (fun _ q=>q) fun _ _ q=>q
  rintro rfl
  rcases hc with rfl|hc
  ·rw [I.free] at e;cases e
  ·rw [I.free] at hc;cases hc
 refine ⟨I.ok,I.os,I.bare,⟨fun b o e n hb hx=>(hs.2 b (nb b o e)).trans (I.base.keep b o e n hb hx),fun b o e n hb hx=>?_,I.base.free,fun b o e hx=>?_,I.base.tups,I.base.frzs,I.base.tbls⟩,⟨m,hn,hl⟩,fun y c e=>?_,I.free,I.freeC,fun p hp=>?_,tr,hz.trans I.len⟩
 ·obtain ⟨sl,e1⟩:=I.base.slot b o e n hb hx
  exact ⟨sl,(hs.2 b (nb b o e)).trans e1⟩
 ·obtain ⟨o1,e1⟩:=I.base.there b o e hx
  exact ⟨o1,(hs.2 b (nb b o e)).trans e1⟩
 ·obtain ⟨u,z⟩:=I.cell y c e
  exact ⟨u,z.sameBut hs (I.cne y c e)⟩
 ·obtain ⟨e,n,ne,nf,d⟩:=I.pin p hp
  exact ⟨(hs.2 p.1 ne).trans e,n,ne,nf,d⟩
theorem unname {i:Nat}{n:Str}{pos:Pos}{Q:Unit→Shared→Prop}(I:Inv X pins σ H s) (hN:X.N.Nodup) (hi:X.N[i]? = some n) (hx:X.env.kindOf n=some .local) (h:∀ s2,Inv X pins (σ.set i none) H s2→Q () s2) :
  wpAny M A (do bindName X.env n .none;unbindBehindTheSuite X.env n pos) Q E s:=by
 have hk:X.env.scope.names.lookup n=some .local:=hx
 refine wpAny_bind (wpAny_bindName (z7p (v:=.non) I hN hi (.inl hk) rfl (fun s1 I1=>?_) (.inr hk)))
 unfold unbindBehindTheSuite
 refine wpAny_onRaise ?_
 obtain ⟨m,hn,hl⟩:=I1.loc
 have hiσ:i < σ.length:=by rw [I.len];exact (List.getElem?_eq_some_iff.mp hi).1
 obtain ⟨u,ru,lk⟩:=hl i n .non hi (by rw [List.getElem?_set_self hiσ]) (.inl hk)
 have hm:m n=some u:=by
  rcases lk with ⟨_,e⟩|⟨k,_⟩
  ·exact e
  ·rw [hx] at k;rcases k with k|k <;> cases k
 refine wpAny_unbindName_local hx hn hm (by rw [I.ok.kind];rfl) fun h2 u2 hn2 hs=>h _ ?_
 refine I1.frame (σ2:=σ.set i none) hs hn2 (fun j y v e1 e2 e3=>?_) (by simp)
 by_cases hj:j=i
 ·subst hj;rw [List.getElem?_set_self hiσ] at e2;cases e2
 ·rw [List.getElem?_set_ne (Ne.symm hj)] at e2
  obtain ⟨u3,r3,q⟩:=hl j y v e1 (by rw [List.getElem?_set_ne (Ne.symm hj)];exact e2) e3
  refine ⟨u3,r3,?_⟩
  have ny:y≠n:=fun z=>hj (y1k hN e1 (z ▸ hi))
  rcases q with ⟨k,e⟩|⟨k,c,e,z⟩
  ·exact .inl ⟨k,by simp [ny,e]⟩
  ·exact .inr ⟨k,c,e,z.sameBut hs (I1.cne y c e)⟩
abbrev Cx.in_ (X:Cx) (e:Value):Cx:={ X with A:=X.A.mark (some e),calm:=false }
theorem Cx.Ok.in_ {e:Value}(ok:X.Ok):(X.in_ e).Ok :=
 ⟨ok.mod,ok.kind,ok.glob,ok.blt,ok.above,ok.inj,ok.has,ok.cab,(fun z=>nomatch z),ok.frames,ok.stk,ok.exf,ok.bs,ok.bsz,ok.noex,ok.exfs,ok.funs,ok.frf⟩
theorem Inv.in_ {e:Value}(I:Inv X pins σ H s):Inv (X.in_ e) pins σ H s:=⟨I.ok.in_,I.os,I.bare,I.base,I.loc,I.cell,I.free,I.freeC,I.pin,I.hok,I.len⟩
def fxIn (K:PySem.W.Frag) (C:Addr):Bool:=match K.lookup C with
 |some ⟨.type "type",_,.cls k,sl⟩=>(match k.mro,sl.toList with
  |.ref c::l,[_,_,_,_,some (.builtin n),_]=>c == C && l == mroV && !k.hasDel
  |_,_=>false)
 |_=>false
theorem fx_of {K:PySem.W.Frag}{h:Heap}{C:Addr}(Y:K.In h) (q:fxIn K C=true):∃ nm q N bs hd sn sub ab col dd k0 k1 k2 k3 k5 nid,h.get? C=some (excClassObj nm q C N bs mroV hd sn sub ab col dd k0 k1 k2 k3 k5 nid):=by
 unfold fxIn at q
 split at q
 ·rename_i dd k sl ho
  split at q
  ·rename_i c l k0 k1 k2 k3 n k5 hm hs
   simp only [Bool.and_eq_true,beq_iff_eq,Bool.not_eq_true'] at q
   obtain ⟨⟨rfl,rfl⟩,hdel⟩:=q
   obtain ⟨nm,bs,mro,ns,qn,hd,sn,sub,ab,col,del⟩:=k
   dsimp only at hm hdel
   subst hm hdel
   have hsl:sl = #[k0,k1,k2,k3,some (.builtin n),k5]:=by
    obtain ⟨l⟩:=sl
    simp only at hs
    rw [hs]
   subst hsl
   exact ⟨nm,qn,ns,bs,hd,sn,sub,ab,col,dd,k0,k1,k2,k3,k5,n,Y _ _ ho⟩
  ·cases q
 ·cases q
theorem exm {K:PySem.W.Frag}{x C CF dx:Addr}{bm:List Value}{f:Str→Option Value}{hd:Value}{Q:Bool→Shared→Prop}(Y:K.In s.heap) (q:fxIn K CF=true) (c:XC s.heap C bm f vnew) (hb:bm.contains (.ref CF)=true) (o:XObj s.heap x C dx hd) (h:Q true s) :
  wpAny M A (excMatches (.ref x) (.ref CF)) Q E s:=by
 obtain ⟨hp,g,d,t,os⟩:=s
 obtain ⟨nm,qn,N,bs,sn,sub,ab,col,dd,k0,k1,k2,k3,k5,eC,n⟩:=id c.ex
 obtain ⟨nm2,q2,N2,bs2,hd2,sn2,sub2,ab2,col2,dd2,j0,j1,j2,j3,j5,nid2,eF⟩:=fx_of Y q
 obtain ⟨vs,sl,he,_⟩:=o
 have hcB:(Value.ref CF::mroV).contains (.type "BaseException")=true:=by rw [List.contains_cons];simp
 have hcC:(Value.ref C::bm).contains (.ref CF)=true:=by rw [List.contains_cons,hb,Bool.or_true]
 have f:=tc_notTuple
 unfold excMatches
 repeat (first|with_reducible refine wpAny_loadPart_at he ?_|with_reducible refine wpAny_loadPart_at eF ?_|(with_reducible refine wpAny_isSubtype_exc eF ?_;rw [hcB])|(with_reducible refine wpAny_isSubtype_exc eC ?_;rw [hcC])|wp_step)
 exact h
end
end L2
set_option maxHeartbeats 1000000
namespace L2
open PySem PyProof.Rows
def Below (K:PySem.W.Frag) (CF C:Addr):Prop:=∃ bm fI,xcIn K C bm fI=true∧bm.contains (.ref CF)=true
def tTry (K:PySem.W.Frag) (CF:Addr) (sp:Sp) (t:TA) (ie iy:Nat):TS:=fun D σ H=>t σ H fun vs H1=>sp vs H1 (fun _ H2=>D.nx σ H2) (fun e od H2=>∃ x C dx,e = .ref x∧od=some dx∧H2 x=some (XO C dx x)∧Below K CF C ∧
 D.nx (((σ.set ie (some (.ref x))).set iy (some (.ref x))).set ie none) H2)
section
variable {X:Cx}{pins:List (Addr × Obj)}{σ:St}{H:Hp}{s:Shared}{M:Model}{A:Around}{E:Value→Shared→Prop}{CF x C dx T:Addr}
theorem Inv.out_ {e:Value}(ok:X.Ok) (I:Inv (X.in_ e) pins σ H s):Inv X pins σ H s:=⟨ok,I.os,I.bare,I.base,I.loc,I.cell,I.free,I.freeC,I.pin,I.hok,I.len⟩
theorem ch_new {s1:Shared}(I:Inv X pins σ H s1) (n:s1.heap.objs.size≤T):∀ b∈[T],(b∈X.ex∨X.s₀.heap.objs.size≤b)∧b≠X.env.locals∧(∀ x c,X.env.cells.lookup x=some c→c≠b)∧∀ p∈X.pn ++ pins,p.1≠b:=fun b hb=>by
 cases List.mem_singleton.mp hb
 have lt:∀ c o,s1.heap.get? c=some o→c≠T:=fun c o e=>Nat.ne_of_lt (Nat.lt_of_lt_of_le (Heap.lt_size e) n)
 refine ⟨.inr (Nat.le_trans I.sz n),?_,fun y c e=>?_,fun p hp=>?_⟩
 ·exact Ne.symm (Nat.ne_of_lt (Nat.lt_of_lt_of_le I.lt n))
 ·obtain ⟨v,o,ho,_⟩:=I.cell y c e
  exact lt c o ho
 ·obtain ⟨e,_⟩:=I.pin p hp
  exact lt p.1 _ e
theorem caught {n y cf:Str}{ie iy:Nat}{p2 p3 p4 p5 hpos:Pos}{H2:Hp}{s2:Shared}{D:Ends}(I:Inv X pins σ H s) (hst:X.stack=X.env::X.outer∧X.env.frame=some X.env.locals) (hne:X.xe=fun _ _=>False)
  (hN:X.N.Nodup) (hi:X.N[ie]? = some n) (hl:X.env.kindOf n=some .local) (hy:X.N[iy]? = some y) (hyl:Loc X.env.scope y) (hyf:X.fn y=true∨X.env.scope.names.lookup y=some .local) (gcf:Gl X cf) (mcf:X.mg cf=some (.ref CF)) (qcf:fxIn X.K CF=true) (bl:Below X.K CF C)
  (os:s2.os=s.os) (bare:AllBare s2.gens) (un:Un (frs X.stack) [] H H2 s.heap s2.heap) (ok:HOk X.prog X.w H2 s2.heap) (hx:H2 x=some (XO C dx x)) (xo:XObj s2.heap x C dx (.ref T)) (tr:TrOk s2.heap T) (hT:H2 T=none) (nT:s.heap.objs.size≤T)
  (hd:(cf == ("__debug__":Str))=false) (hdn:(n == ("__debug__":Str))=false) (hcn:(n == ("__classdict__":Str))=false)
  (hs:swapsWith (.Name n p4) (some (.Name y p3)) p5.line X.env=pure false)
  (q:D.nx (((σ.set ie (some (.ref x))).set iy (some (.ref x))).set ie none) H2) :
  wpAny (model X.prog X.w) X.A (noteFrame (.ref x) X.env) (fun _ s3=>wpAny (model X.prog X.w) X.A (setFlight (.ref x) none) (fun _ s4=>wpAny (model X.prog X.w) X.A (handleBy (.ref x) X.env [.ExceptHandler (some (.Name cf p2)) (some n) [.Assign [.Name y p3] (.Name n p4) p5] hpos]) (SP X pins D) E s4) E s3) E s2:=by
 have I1:Inv X pins σ H2 s2:=I.call' os un ok bare (fun b z=>absurd z (by simp))
 have sz:s.heap.objs.size≤s2.heap.objs.size:=by
  obtain ⟨bm,fI,q1,q2⟩:=bl
  cases Nat.lt_or_ge s2.heap.objs.size s.heap.objs.size with
  |inr h=>exact h
  |inl h =>
   obtain ⟨_,_,g,_⟩:=tr
   exact absurd (Nat.lt_of_lt_of_le (Nat.lt_trans (Heap.lt_size g) h) nT) (Nat.lt_irrefl _)
 have fr:X.A.frames=some (X.env::X.outer):=by rw [← hst.1];exact I.ok.frames
 refine noted1 (base:=X.base) fr (by rw [← hst.1];exact I1.stack) hst.2 xo tr (tr_ne xo hx hT) fun h2 nt=>?_
 obtain ⟨⟨T2,n2,x2,t2⟩,k,k2⟩:=id nt
 have nt2:y4n X.stack x C dx (fun b=>b=T) s2.heap h2:=by rw [hst.1];exact nt
 obtain ⟨un2,ok2⟩:=noted_un (P:=X.prog) (w:=X.w) (ex:=[T]) I1.hok I1.stkFree (fun b z=>by rw [z];exact hT) hx nt2 (fun b z=>by simp [z])
 have chT:∀ b∈[T],(b∈X.ex∨X.s₀.heap.objs.size≤b)∧b≠X.env.locals∧(∀ x c,X.env.cells.lookup x=some c→c≠b)∧∀ p∈X.pn ++ pins,p.1≠b:=ch_new I nT
 have I2:Inv X pins σ H2 { s2 with heap:=h2 }:=I1.call' rfl un2 ok2 bare chT
 have hT2:H2 T2=none:=I1.hok.fresh n2
 obtain ⟨bm,fI,qC,hbm⟩:=bl
 refine wpAny_handleBy_cons (codeAny_handlers_test ?_) (by intro z;cases z)
 refine z7d (X:=X.in_ (.ref x)) I2.in_ gcf mcf ?_ hd
 obtain ⟨f,xc,_⟩:=y3d I2.kIn qC
 refine exm I2.kIn qcf xc hbm x2 ?_
 refine codeAny_handlers_suite_as ?_
 obtain ⟨vs,sl,gx,hv⟩:=id x2
 obtain ⟨oT,ts,gT,dT,h3⟩:=id t2
 refine wpAny_setFlight_none gx rfl hv gT dT (Array.getElem?_eq_some_iff.mp h3).1 ?_
 have nTx:T2≠x:=fun z=>by rw [z,hx] at hT2;cases hT2
 have kp:∀ b o,b≠T2→h2.get? b=some o→(h2.update T2 (Obj.mapFields (·.setIfInBounds 3 .none))).get? b=some o:=fun b o nb e=>(Heap.get?_update_other _ _ (Ne.symm nb)).trans e
 have un3:Un (frs X.stack) [T2] H2 H2 h2 (h2.update T2 (Obj.mapFields (·.setIfInBounds 3 .none))) :=
  ⟨fun b o e _ _ nb=>kp b o (by simpa using nb) e,fun b o e _ _ nb=>⟨o.slots,kp b o (by simpa using nb) e⟩,fun _ _ _ n _=>n,fun b o e nb=>⟨o,kp b o (by simpa using nb) e⟩,fun _ _ z=>z,fun _ _ _ z=>z,fun _ ps z=>⟨#[],by rw [z];simp⟩⟩
 have ok3:HOk X.prog X.w H2 (h2.update T2 (Obj.mapFields (·.setIfInBounds 3 .none))):=fun b o e=>by
  refine (I2.hok b o e).stay (fun c u hc z=>kp c u (fun r=>?_) z) (fun _ z=>z) fun _ _ z=>z
  subst r
  rcases hc with rfl|hc
  ·rw [hT2] at e;cases e
  ·rw [hT2] at hc;cases hc
 have I3:Inv X pins σ H2 { s2 with heap:=h2.update T2 (Obj.mapFields (·.setIfInBounds 3 .none)) }:=I2.call' rfl un3 ok3 bare (ch_new I (Nat.le_trans sz n2))
 refine z7p (v:=.ref x) I3 hN hi (.inl hl) rfl (fun s4 I4=>?_) (.inr hl)
 have body:PSs (X.in_ (.ref x)) [.Assign [.Name y p3] (.Name n p4) p5] _:=z0h (z2f hN hy hyl (y0g hi (.inl hl) hdn hcn) hs hyf) z0t
 have hiσ:ie < σ.length:=by rw [I.len];exact (List.getElem?_eq_some_iff.mp hi).1
 refine wpAny_mono (body pins s4 _ H2 { nx:=fun σ' H'=>σ' = (σ.set ie (some (.ref x))).set iy (some (.ref x))∧H' = H2,rt:=fun _ _=>False } I4.in_ ⟨.ref x,by rw [List.getElem?_set_self hiσ],rfl,rfl⟩) (fun fl s5 h5=>?_) fun e s5 h5=>?_
 ·cases fl with
  |next =>
   obtain ⟨σ5,H5,I5,rfl,rfl⟩:=h5
   exact unname (I5.out_ I.ok) hN hi hl fun s6 I6=>⟨_,_,I6,q⟩
  |ret u=>obtain ⟨_,_,_,_,_,z⟩:=h5;exact z.elim
  |brk=>obtain ⟨_,_,_,z⟩:=h5;exact z.elim
  |cont=>obtain ⟨_,_,_,z⟩:=h5;exact z.elim
 ·have z:X.xe e s5:=h5
  rw [hne] at z;exact z.elim
end
end L2
set_option maxHeartbeats 1000000
namespace L2
open PySem PyProof.Rows
section
variable {X:Cx}
theorem ps_try {k:Nat}{f:Addr}{fd:FuncData}{ps:List Str}{sp:Sp}{g n y cf:Str}{ie iy:Nat}{p2 p3 p4 p5 hpos pg cpos epos pos:Pos}{CF:Addr}{e:Expr}{es:List Expr}{t:TA}
  (F:FnOk X.prog X.w X.K X.mg X.base (CX1 X.prog X.w) k f fd ps sp) (hr:Room k X.A) (hg:Gl X g) (hm:X.mg g=some (.ref f)) (hk:PySem.W.keepIn X.K (.ref f)=true) (hb:Binds X.K fd ps []) (ha:PA X (e::es) t)
  (hst:X.stack=X.env::X.outer∧X.env.frame=some X.env.locals) (hne:X.xe=fun _ _=>False) (hN:X.N.Nodup) (hi:X.N[ie]? = some n) (hl:X.env.kindOf n=some .local) (hy:X.N[iy]? = some y) (hyl:Loc X.env.scope y)
  (hyf:X.fn y=true∨X.env.scope.names.lookup y=some .local) (gcf:Gl X cf) (mcf:X.mg cf=some (.ref CF)) (qcf:fxIn X.K CF=true)
  (hd:(cf == ("__debug__":Str))=false:=by decide) (hdn:(n == ("__debug__":Str))=false:=by decide) (hcn:(n == ("__classdict__":Str))=false:=by decide) (hdg:(g == ("__debug__":Str))=false:=by decide)
  (hs:swapsWith (.Name n p4) (some (.Name y p3)) p5.line X.env=pure false:=by rfl) (he:starEach (e::es) X.env=(false,eval e X.env)::starEach es X.env:=by rfl) (hpl:(backTo cpos (starEach es X.env)).any (·.1)=false:=by rfl)
  (hse:swapsWith (.Call (.Name g pg) (e::es) [] cpos) none epos.line X.env=pure false:=by rfl) :
  PS X (.Try [.Expr (.Call (.Name g pg) (e::es) [] cpos) epos] [.ExceptHandler (some (.Name cf p2)) (some n) [.Assign [.Name y p3] (.Name n p4) p5] hpos] [] [] pos) (tTry X.K CF sp t ie iy):=by
 intro pins s σ H D I h
 refine wpAny_Try_except (wpAny_execs_cons ?_)
 refine wpAny_Expr_any ?_ I.quiet hse
 refine wpAny_Call_Name_kw (z7d I hg hm ?_ hdg)
 refine PySem.W.callWith_K (h₀:=X.base) I.ok.mod.kin hk (wpAny_mono (ha cpos pins s σ H _ I h) (fun us s1 ⟨vs,H1,I1,r,q⟩=>⟨I1.kIn,?_⟩) fun e s1 z=>?_) he hpl
 ·have hl2:(us ++ []).length=ps.length:=by rw [List.append_nil,← r.length];exact F.len _ _ _ _ q
  have bt:=hb s1 us I1.kIn hl2
  rw [List.append_nil] at bt
  refine wpAny_call (codeAny_mono (F.run X.A X.stack s1 H1 ⟨us,[]⟩ us vs _ _ hr I1.env0 bt r q) fun r2 s2 hq=>?_)
  cases r2 with
  |error e =>
   obtain ⟨x,C,dx,T,H2,rfl,os,bare,un,ok,hx,xo,tr,hT,nx,nT,x2,C2,dx2,e1,e2,hx2,bl,q⟩:=hq
   cases e1;cases e2
   have eC:C2=C:=by
    obtain ⟨⟨v1,l1,g1⟩,_⟩:=ok x _ hx2
    obtain ⟨v2,l2,g2,_⟩:=xo
    rw [g1] at g2;cases g2;rfl
   subst eC
   exact caught I1 hst hne hN hi hl hy hyl hyf gcf mcf qcf bl os bare un ok hx xo tr hT nT hd hdn hcn hs q
  |ok fl =>
   cases fl with
   |ret u =>
    obtain ⟨v,H2,I2,rv,q2⟩:=I1.after hq
    exact wpAny_execs_nil (wpAny_execs_nil ⟨σ,H2,I2,q2⟩)
   |next=>exact False.elim hq
   |brk=>exact False.elim hq
   |cont=>exact False.elim hq
 ·rw [hne] at z;exact z.elim
end
end L2
set_option maxHeartbeats 1000000
namespace L2
open PySem PyProof.Rows
open Builtin Builtin.ObjectAttr
theorem veClass:typeLookup (.type "ValueError") "__class__" = pure (some (.builtin "object.__class__")):=by rw [typeLookup_type,builtinLookup_eq_fast];kernel_rfl
section
variable {prog:Program}{w:World}{A:Around}{E:Value→Shared→Prop}{h:Heap}{g:Array GenState}{d:Drawn}{t:Nat}{os:OsState}
variable {C x:Addr}{bm:List Value}{nid:String}{f:Str→Option Value}{o:Obj}
theorem cls_get {R:Result→Shared→Prop}(c:XC h C bm f nid) (hx:h.get? x=some o) (hc:o.cls = .ref C) (hq:R (.ok (.ret (.ref C))) ⟨h,g,d,t,os⟩) :
  codeAny (model prog w) A (.call (.builtin "getset_descriptor.__get__") ⟨[.builtin "object.__class__",.ref x,.ref C],[]⟩) R ⟨h,g,d,t,os⟩:=by
 obtain ⟨nm,qn,N,bs,sn,sub,ab,col,dd,k0,k1,k2,k3,k5,eC,n⟩:=id c.ex
 have t5:(⟨h,g,d,t,os⟩:Shared).TypeIs (.builtin "object.__class__") "getset_descriptor":=F.typeOf_object_class
 have hcB:(Value.ref C::bm).contains (.type (".".intercalate ("object.__class__".cutAt '.').dropLast))=true:=by rw [F.owner_object_class];exact hasV c.up (by decide) C
 refine codeAny_call_builtin F.slot_gs_get.plain F.entry_gs_get (F.slot_gs_get.check _ _ _ _ _ _ _ _ t5 (F.args_gs_get _ _ _) ?_)
 repeat (any_goals (first|assumption|(with_reducible refine wpAny_loadPart_at hx ?_;rw [hc])|(with_reducible refine wpAny_isSubtype_exc eC ?_;rw [hcB])|wp_step))
 refine ⟨Code.quiet_builtin _ (by decide +kernel),codeAny_builtin F.entry_object_class ?_⟩
 repeat (any_goals (first|assumption|(with_reducible refine wpAny_loadPart_at hx ?_;rw [hc])|wp_step))
theorem cls_entry {tk:Tok}{Q:Fin→Shared→Prop}(c:XC h C bm f nid) (hfa:f "__class__" = none) (hx:h.get? x=some o) (hc:o.cls = .ref C) (hq:Q (.done (.ret (.ref C))) ⟨h,g,d,t,os⟩) :
  wpAny (model prog w) A (Builtin.«object.__getattribute__» ⟨[.ref x,.str "__class__" tk],[]⟩) Q E ⟨h,g,d,t,os⟩:=by
 have t5:(⟨h,g,d,t,os⟩:Shared).TypeIs (.builtin "object.__class__") "getset_descriptor":=F.typeOf_object_class
 have f5:=F.typeOf_object_class
 have f6:=F.slot_gs_get.lookup
 have f7:=F.slot_gs_set.lookup
 repeat (any_goals (first|assumption|(with_reducible refine wpAny_loadPart_at hx ?_;rw [hc])|(with_reducible refine c.look (by simp) veClass ?_;rw [hfa])|wp_step))
 refine cls_get c hx hc ?_
 repeat (any_goals (first|assumption|wp_step))
theorem cls_attr {Q:Option Value→Shared→Prop}(c:XC h C bm f nid) (hg:f "__getattribute__" = none) (hh:f "__getattr__" = none) (hfa:f "__class__" = none) (hx:h.get? x=some o) (hc:o.cls = .ref C) (hq:Q (some (.ref C)) ⟨h,g,d,t+1,os⟩) :
  wpAny (model prog w) A (getAttr? (.ref x) "__class__") Q E ⟨h,g,d,t,os⟩:=by
 have FB:=F.attrBase_ValueError
 have f3:=FB.ga.bind (.ref x)
 have z0:(false && onTheHeap (Value.builtin "BaseException.__getattribute__"))=false:=rfl
 have z2:(Value.builtin "BaseException.__getattribute__" == Value.builtin "object.__getattribute__")=false:=by decide +kernel
 have z1:(onTheHeap (Value.ref C) && Value.builtin "BaseException.__getattribute__" == Value.builtin "object.__getattribute__")=false:=by rw [z2];rfl
 unfold getAttr? getAttrBy?
 repeat (any_goals (first|assumption|(with_reducible refine wpAny_loadPart_at hx ?_;rw [hc])|(with_reducible refine c.look (by simp) FB.ga.lookup ?_;rw [hg])|(with_reducible refine c.look (by simp) FB.noGetattr ?_;rw [hh])|wp_step))
 refine codeAny_call_builtin FB.ga.plain F.entry_bexc_ga (chk_ga c hx hc (cls_entry c hfa hx hc ?_))
 repeat (any_goals (first|assumption|wp_step))
end
theorem kitx_exc {K:PySem.W.Frag}{C x fI:Addr}{bm:List Value}(q:xcIn K C bm fI=true):PySem.W.KitX K (.ref x) (.ref C) (fun h=>∃ o,h.get? x=some o∧o.cls = .ref C) where
 ty:=fun M h _ ⟨o,h1,h2⟩=>h2 ▸ (PySem.W.Looks.ld h1).andThen .now
 it:=fun M h Y _=>by
  obtain ⟨f,c,_⟩:=y3d Y q
  obtain ⟨nm,qn,N,bs,sn,sub,ab,col,dd,k0,k1,k2,k3,k5,eC,n⟩:=c.ex
  intro A' Q' E' s' k q
  unfold isType loadHead
  exact wpAny_bind (wpAny_loadPart (k _ _ eC) (wpAny_pure q))
 ne:=fun h tp dd its n sl Y htp=>Bool.eq_false_iff.mpr fun z=>by
  obtain ⟨f,c,_⟩:=y3d Y q
  obtain ⟨nm,qn,N,bs,sn,sub,ab,col,dd,k0,k1,k2,k3,k5,eC,n⟩:=c.ex
  have e:C=tp:=Value.ref.inj (beq_iff_eq.mp z)
  subst e
  rw [eC] at htp;exact absurd (Value.type.inj (congrArg Obj.cls (Option.some.inj htp))) (by decide)
 ca:=fun {prog w A E Q s} Y ⟨o,h1,h2⟩ k=>by
  obtain ⟨f,c,_,no⟩:=y3d Y q
  obtain ⟨hp,g,d,t,os⟩:=s
  exact cls_attr c (no _ (by simp)) (no _ (by simp)) (no _ (by simp)) h1 h2 k
end L2
set_option maxHeartbeats 1000000
namespace L2
open PySem PyProof.Rows
def y5v (K:PySem.W.Frag) (a:Str) (te:TE):TE:=fun σ H Q=>te σ H fun y H1=>∃ x C dx v bm fI,y = .ref x∧H1 x=some (XO C dx x)∧H1 dx=some (.xd [(a,v)])∧xcIn K C bm fI=true∧(∃ z,v = .str z)∧Q v H1
theorem nameNo {a:Str}(ha:a∈(["name","row"]:List Str)):a∈quiets.tail∧typeLookup (.type "ValueError") a=pure none:=by
 simp only [List.mem_cons,List.not_mem_nil,or_false] at ha
 rcases ha with rfl|rfl
 ·exact ⟨by simp,by rw [typeLookup_type,builtinLookup_eq_fast];kernel_rfl⟩
 ·exact ⟨by simp,by rw [typeLookup_type,builtinLookup_eq_fast];kernel_rfl⟩
section
variable {X:Cx}{e:Expr}{te:TE}{a:Str}{pos:Pos}
theorem z5n (ha:a∈(["name","row"]:List Str)) (he:PE X e te) (hb:attributeBase e a X.env (eval e X.env)=eval e X.env):PE X (.Attribute e a pos) (y5v X.K a te):=by
 intro pins s σ H Q I h
 refine attr_of hb (thn (he pins s σ H _ I h) fun u s1 ⟨y,H1,I1,ry,x,C,dx,v,bm,fI,e1,hx,hd,q,⟨z,e2⟩,h1⟩=>?_)
 subst e1;subst e2
 obtain rfl:u=Value.ref x:=ry
 obtain ⟨f,c,_,no⟩:=y3d I1.kIn q
 obtain ⟨⟨vs,sl,gx⟩,_,_⟩:=I1.hok x _ hx
 obtain ⟨mA,nx,rel⟩:=(show ∃ mA,s1.heap.Ns1 dx mA∧∀ f,RelO (([(a,V.str z)]:List (Str × V)).lookup f) (mA f) from I1.hok dx _ hd)
 obtain ⟨aq,aB⟩:=nameNo ha
 have ra:=rel a
 have lk:([(a,V.str z)]:List (Str × V)).lookup a=some (.str z):=by simp [List.lookup]
 rw [lk] at ra
 cases hv:mA a with
 |none=>rw [hv] at ra;exact ra.elim
 |some u2 =>
  rw [hv] at ra
  obtain ⟨tk,rfl⟩:=(show ∃ t,u2=Value.str z t from ra)
  obtain ⟨hp,g,d,t,os⟩:=s1
  exact get_attr c (no _ (by simp)) (no _ (by simp)) (List.mem_of_mem_tail aq) aB (no a aq) gx nx hv rfl ⟨.str z,H1,I1.tok _,⟨tk,rfl⟩,h1⟩
def rIsX (K:PySem.W.Frag):List V→Hp→VK→Prop:=fun xs H Q=>∃ x c cv t b,xs=[x,c]∧((∃ T,c = .ty T∧cv = .type T) ∨ ∃ C2,c = .ref C2∧cv = .ref C2) ∧
 ((x = .non∧t = .type "NoneType") ∨ ∃ y C dx bm fI,x = .ref y∧H y=some (XO C dx y)∧xcIn K C bm fI=true∧t = .ref C)∧PySem.W.kitOne K t cv=some b∧Q (.bl b) H
theorem z4o:z6d X (.builtin "isinstance") (rIsX X.K):=by
 intro pins s σ H xs us Q I r h
 obtain ⟨x,c,cv,t,b,rfl,hc,hx,e,q⟩:=h
 obtain ⟨u,u2,rfl,rx,rt⟩:=vals2 r
 have e2:u2=cv:=by
  rcases hc with ⟨T,rfl,rfl⟩|⟨C2,rfl,rfl⟩
  ·exact rt
  ·exact rt
 subst e2
 rcases hx with ⟨rfl,rfl⟩|⟨y,C,dx,bm,fI,rfl,hy,xc,rfl⟩
 ·cases (show u=Value.none from rx)
  exact PySem.W.kia_one PySem.W.kitx_none I.kIn True.intro e (fun z=>nomatch z) fun tk=>⟨.bl b,H,I.tok tk,rfl,q⟩
 ·obtain rfl:u=Value.ref y:=rx
  obtain ⟨⟨vs,sl,gx⟩,_,_⟩:=I.hok y _ hy
  exact PySem.W.kia_one (kitx_exc xc) I.kIn ⟨_,gx,rfl⟩ e (fun z=>nomatch z) fun tk=>⟨.bl b,H,I.tok tk,rfl,q⟩
theorem z9v {x:Str}{C:Addr}(hg:Gl X x) (hm:X.mg x=some (.ref C)) (hd:(x == ("__debug__":Str))=false:=by decide):PE X (.Name x pos) (tC (.ref C)):=fun pins s σ H Q I h=>z7d I hg hm ⟨.ref C,H,I,rfl,h⟩ hd
end
end L2
namespace Pap
open PySem L2
inductive Part where
 |txt (s:Str)
 |tup (n:Str) (ps:List Part)
mutual
def z1j:Part→Nat
 |.txt _=>1
 |.tup _ ps=>1+z0q ps
def z0q:List Part→Nat
 | []=>0
 |p::ps=>z1j p+z0q ps
end
def z9a:Part→Str
 |.txt _=>"#"
 |.tup n _=>n
def z5t (ps:List Part):List Str:=ps.map z9a
theorem z3b (ps qs:List Part):z0q (ps ++ qs)=z0q ps+z0q qs:=by
 induction ps with
 |nil=>simp [z0q]
 |cons p ps ih=>simp [z0q,ih];omega
inductive RepL (H:Hp):List V→List Part→List V→List Addr→Prop
 |nil:RepL H [] [] [] []
 |txt {s:Str}{vs:List V}{ps:List Part}{out:List V}{F:List Addr}:RepL H vs ps out F→RepL H (.str s::vs) (.txt s::ps) (.str s::out) F
 |tup {t l:Addr}{n:Str}{cs:List V}{qs:List Part}{o1:List V}{F1:List Addr}{vs:List V}{ps:List Part}{o2:List V}{F2:List Addr}(ht:H t=some (.tup [.str n,.ref l])) (hl:H l=some (.lst cs)) (h1:RepL H cs qs o1 F1) (h2:RepL H vs ps o2 F2) :
   RepL H (.ref t::vs) (.tup n qs::ps) (.ref t::(o1 ++ o2)) (l::(F1 ++ F2))
theorem RepL.frame {H H':Hp}{vs:List V}{ps:List Part}{o:List V}{F:List Addr}(h:RepL H vs ps o F):(∀ b∈F,H' b=H b)→(∀ b xs,H b=some (.tup xs)→H' b=some (.tup xs))→RepL H' vs ps o F:=by
 induction h with
 |nil=>intro _ _;exact .nil
 |txt _ ih=>intro k t;exact .txt (ih k t)
 | @tup t l n cs qs o1 F1 vs ps o2 F2 ht hl h1 h2 ih1 ih2 =>
  intro k q
  exact .tup (q _ _ ht) ((k l (by simp)).trans hl) (ih1 (fun b hb=>k b (by simp [hb])) q) (ih2 (fun b hb=>k b (by simp [hb])) q)
theorem RepL.same {H H':Hp}{vs:List V}{ps:List Part}{o:List V}{F:List Addr}(h:RepL H vs ps o F) (s:Same H H'):RepL H' vs ps o F:=by
 induction h with
 |nil=>exact .nil
 |txt _ ih=>exact .txt ih
 |tup ht hl h1 h2 ih1 ih2=>exact .tup (s _ _ ht) (s _ _ hl) ih1 ih2
theorem RepL.lsts {H:Hp}{vs:List V}{ps:List Part}{o:List V}{F:List Addr}(h:RepL H vs ps o F):∀ b∈F,∃ xs,H b=some (.lst xs):=by
 induction h with
 |nil=>intro b hb;cases hb
 |txt _ ih=>exact ih
 | @tup t l n cs qs o1 F1 vs ps o2 F2 ht hl h1 h2 ih1 ih2 =>
  intro b hb
  rcases List.mem_cons.mp hb with rfl|hb
  ·exact ⟨_,hl⟩
  ·rcases List.mem_append.mp hb with hb|hb
   ·exact ih1 b hb
   ·exact ih2 b hb
theorem RepL.append {H:Hp}{vs:List V}{ps:List Part}{o:List V}{F:List Addr}{vs':List V}{ps':List Part}{o':List V}{F':List Addr}(h:RepL H vs ps o F) (h':RepL H vs' ps' o' F'):RepL H (vs ++ vs') (ps ++ ps') (o ++ o') (F ++ F'):=by
 induction h with
 |nil=>exact h'
 |txt _ ih=>exact .txt ih
 | @tup t l n cs qs o1 F1 vs ps o2 F2 ht hl h1 h2 ih1 ih2 =>
  have q:=RepL.tup ht hl h1 ih2
  simpa [List.append_assoc] using q
inductive Bel (H:Hp):Addr→List Addr→List (List Part × Str)→List Addr→Prop
 |nil {c:Addr}:Bel H c [] [] []
 |cons {c a t:Addr}{as:List Addr}{vs:List V}{n:Str}{ps:List Part}{o:List V}{F G:List Addr}{fs:List (List Part × Str)}(ha:H a=some (.lst (vs ++ [.ref t]))) (ht:H t=some (.tup [.str n,.ref c])) (h:RepL H vs ps o F) (b:Bel H a as fs G) :
   Bel H c (a::as) ((ps,n)::fs) (F ++ G)
structure BInv (H:Hp) (a:Addr) (as:List Addr) (cur:List Part) (fs:List (List Part × Str)) (S:List Addr):Prop where
 ex:∃ vs o F G,H a=some (.lst vs)∧RepL H vs cur o F∧Bel H a as fs G∧S=F ++ G
 nd:(a::as).Nodup
 off:∀ b∈a::as,b∉S
theorem z2y:∀ ps:List Part,ps.length≤z0q ps
 | []=>Nat.le_refl _
 |p::ps=>by
  have h1:1≤z1j p:=by cases p <;> simp [z1j]
  have h2:=z2y ps
  simp only [z0q,List.length_cons]
  omega
end Pap
namespace L2
open PySem PySem.Spec PyProof.Rows
structure Ent (K:PySem.W.Frag) (mg:Str→Option Value) (x:Str) (st:Stmt) (ps:List Str) (f:Addr) (fd:FuncData):Prop where
 F:Fun K x x st f fd
 g:mg x=some (.ref f)
 b:Binds K fd ps []
theorem z1b {K:PySem.W.Frag}{mg:Str→Option Value}{h:Heap}{x:Str}{st:Stmt}{ps:List Str}{f:Addr}{oc:Value}{od an:Option Addr}{osl:Array (Option Value)}{kV doc pm cdv ct:Value}(X:K.In h) (G:h.Ns mainGlobals mg)
  (hb:∀ (kV doc pm:Value) (an:Option Addr) (cdv ct:Value) (us:List Value),us.length=ps.length→bindArgs (PySem.W.fnOf x x (z0o st) (z0n st) (z0c st) .none kV doc pm an cdv ct) ⟨us,[]⟩=pure (ps.zip us))
  (a:PySem.W.nsIn K mainGlobals x=some (some (.ref f))) (l:K.lookup f=some ⟨oc,od,.func (PySem.W.fnOf x x (z0o st) (z0n st) (z0c st) .none kV doc pm an cdv ct),osl⟩)
  (c:PySem.W.codeIn K cdv x=true) (k:PySem.W.keepIn K (.ref f)=true):∃ f fd,Ent K mg x st ps f fd :=
 ⟨f,_,y2k l c k,PySem.W.mg_of X G a,(y2k (st:=st) l c k).binds hb⟩
end L2
namespace K11
open PySem L2 VL
def top (i:Nat):Stmt:=PySem.Challenge.pw_formferry_k10_ferries_looked_at.main.body.getD i (.Pass ⟨0,0,0,0⟩)
abbrev s_all_parts:Stmt:=top 10
abbrev s_tuples_beneath:Stmt:=top 11
abbrev s_tuples_with_paths:Stmt:=top 12
abbrev s_sign_of:Stmt:=top 13
abbrev s_word:Stmt:=top 14
abbrev s_patterns_within:Stmt:=top 16
abbrev s_signs:Stmt:=top 17
abbrev s_bare:Stmt:=top 18
abbrev s_firsts:Stmt:=top 19
abbrev s_lasts:Stmt:=top 20
abbrev s_link:Stmt:=top 21
abbrev s_link_row:Stmt:=top 22
abbrev s_link_all:Stmt:=top 23
abbrev s_nexts:Stmt:=top 24
abbrev s_table:Stmt:=top 25
abbrev s_agrees:Stmt:=top 26
abbrev s_look_twice:Stmt:=top 28
abbrev s_look_names:Stmt:=top 29
abbrev s_look:Stmt:=top 30
abbrev s_tables:Stmt:=top 31
abbrev s_holds:Stmt:=top 32
abbrev s_faults:Stmt:=top 33
abbrev s_is_paper:Stmt:=top 34
abbrev s_stars:Stmt:=top 37
abbrev s_look_ferry:Stmt:=top 38
abbrev s_jobs:Stmt:=top 39
abbrev s_carry:Stmt:=top 40
abbrev s_carried:Stmt:=top 41
abbrev s_ferried:Stmt:=top 42
abbrev s_staying_row:Stmt:=top 43
abbrev s_joined:Stmt:=top 44
abbrev s_arrives:Stmt:=top 45
abbrev s__law_draws:Stmt:=top 47
abbrev s__law_pop:Stmt:=top 48
abbrev s__law_name:Stmt:=top 49
abbrev s__law_names:Stmt:=top 50
abbrev s__law_text:Stmt:=top 51
abbrev s__law_plain:Stmt:=top 52
abbrev s__law_starred:Stmt:=top 53
abbrev s__law_ferry:Stmt:=top 54
abbrev s__law_stars:Stmt:=top 55
abbrev s__law_due_ferry:Stmt:=top 56
abbrev s__law_bent_ferry:Stmt:=top 57
abbrev s__law_copy_row:Stmt:=top 58
abbrev s__law_kind:Stmt:=top 59
abbrev s__law_asked:Stmt:=top 60
abbrev s__law_refused:Stmt:=top 61
abbrev s__law_copy_ferry:Stmt:=top 62
abbrev s_law:Stmt:=top 63
theorem sc_all_parts:FnScope ["row","found","waiting","part"] ["row"] (z0c s_all_parts):=⟨rfl,rfl,rfl,by decide +kernel,rfl,by decide +kernel,by decide +kernel⟩
theorem z7b:FnScope ["path","part"] ["path","part"] (z0c s_tuples_beneath):=⟨rfl,rfl,rfl,by decide +kernel,rfl,by decide +kernel,by decide +kernel⟩
theorem sc_tuples_with_paths:FnScope ["paper","found","waiting","place"] ["paper"] (z0c s_tuples_with_paths):=⟨rfl,rfl,rfl,by decide +kernel,rfl,by decide +kernel,by decide +kernel⟩
theorem sc_sign_of:FnScope ["part"] ["part"] (z0c s_sign_of):=⟨rfl,rfl,rfl,by decide +kernel,rfl,by decide +kernel,by decide +kernel⟩
theorem sc_word:FnScope ["row"] ["row"] (z0c s_word):=⟨rfl,rfl,rfl,by decide +kernel,rfl,by decide +kernel,by decide +kernel⟩
theorem z6j:FnScope ["pattern"] ["pattern"] (z0c s_patterns_within):=⟨rfl,rfl,rfl,by decide +kernel,rfl,by decide +kernel,by decide +kernel⟩
theorem sc_signs:FnScope ["pattern","found","inner"] ["pattern"] (z0c s_signs):=⟨rfl,rfl,rfl,by decide +kernel,rfl,by decide +kernel,by decide +kernel⟩
theorem sc_bare:FnScope ["pattern","kind"] ["pattern"] (z0c s_bare):=⟨rfl,rfl,rfl,by decide +kernel,rfl,by decide +kernel,by decide +kernel⟩
theorem sc_firsts:FnScope ["pattern","found","inner"] ["pattern"] (z0c s_firsts):=⟨rfl,rfl,rfl,by decide +kernel,rfl,by decide +kernel,by decide +kernel⟩
theorem sc_lasts:FnScope ["pattern","found","inner"] ["pattern"] (z0c s_lasts):=⟨rfl,rfl,rfl,by decide +kernel,rfl,by decide +kernel,by decide +kernel⟩
theorem sc_link_all:FnScope ["pattern","followers","inner"] ["pattern","followers"] (z0c s_link_all):=⟨rfl,rfl,rfl,by decide +kernel,rfl,by decide +kernel,by decide +kernel⟩
theorem sc_nexts:FnScope ["pattern","order","followers","sign","told"] ["pattern"] (z0c s_nexts):=⟨rfl,rfl,rfl,by decide +kernel,rfl,by decide +kernel,by decide +kernel⟩
theorem sc_table:FnScope ["pattern"] ["pattern"] (z0c s_table):=⟨rfl,rfl,rfl,by decide +kernel,rfl,by decide +kernel,by decide +kernel⟩
theorem sc_agrees:FnScope ["told","word","sign","behind"] ["told","word"] (z0c s_agrees):=⟨rfl,rfl,rfl,by decide +kernel,rfl,by decide +kernel,by decide +kernel⟩
theorem sc_look_twice:FnScope ["rules","ahead","name","pattern","found"] ["rules"] (z0c s_look_twice):=⟨rfl,rfl,rfl,by decide +kernel,rfl,by decide +kernel,by decide +kernel⟩
theorem sc_look_names:FnScope ["root","rules","known","rule","sign"] ["root","rules"] (z0c s_look_names):=⟨rfl,rfl,rfl,by decide +kernel,rfl,by decide +kernel,by decide +kernel⟩
theorem sc_look:FnScope ["form"] ["form"] (z0c s_look):=⟨rfl,rfl,rfl,by decide +kernel,rfl,by decide +kernel,by decide +kernel⟩
theorem sc_tables:FnScope ["rules","found","name","pattern"] ["rules"] (z0c s_tables):=⟨rfl,rfl,rfl,by decide +kernel,rfl,by decide +kernel,by decide +kernel⟩
theorem sc_holds:FnScope ["part","known"] ["part","known"] (z0c s_holds):=⟨rfl,rfl,rfl,by decide +kernel,rfl,by decide +kernel,by decide +kernel⟩
theorem sc_faults:FnScope ["form","paper","known","found","path","part","other_root"] ["form","paper"] (z0c s_faults):=⟨rfl,rfl,rfl,by decide +kernel,rfl,by decide +kernel,by decide +kernel⟩
theorem y5g:FnScope ["form","paper"] ["form","paper"] (z0c s_is_paper):=⟨rfl,rfl,rfl,by decide +kernel,rfl,by decide +kernel,by decide +kernel⟩
theorem sc_stars:FnScope ["row"] ["row"] (z0c s_stars):=⟨rfl,rfl,rfl,by decide +kernel,rfl,by decide +kernel,by decide +kernel⟩
theorem sc_look_ferry:FnScope ["ferry","ahead","name","row"] ["ferry"] (z0c s_look_ferry):=⟨rfl,rfl,rfl,by decide +kernel,rfl,by decide +kernel,by decide +kernel⟩
theorem sc_jobs:FnScope ["parts","target","starred"] ["parts","target","starred"] (z0c s_jobs):=⟨rfl,rfl,rfl,by decide +kernel,rfl,by decide +kernel,by decide +kernel⟩
theorem sc_carry:FnScope ["rules","part","target","starred","inner"] ["rules","part","target","starred"] (z0c s_carry):=⟨rfl,rfl,rfl,by decide +kernel,rfl,by decide +kernel,by decide +kernel⟩
theorem sc_carried:FnScope ["rules","row","told","waiting","job"] ["rules","row"] (z0c s_carried):=⟨rfl,rfl,rfl,by decide +kernel,rfl,by decide +kernel,by decide +kernel⟩
theorem y0b:FnScope ["ferry","row"] ["ferry","row"] (z0c s_ferried):=⟨rfl,rfl,rfl,by decide +kernel,rfl,by decide +kernel,by decide +kernel⟩
theorem z9g:FnScope ["name"] ["name"] (z0c s_staying_row):=⟨rfl,rfl,rfl,by decide +kernel,rfl,by decide +kernel,by decide +kernel⟩
theorem sc_joined:FnScope ["one","other","firsts","seconds","told"] ["one","other"] (z0c s_joined):=⟨rfl,rfl,rfl,by decide +kernel,rfl,by decide +kernel,by decide +kernel⟩
theorem sc_arrives:FnScope ["ferry","form","paper","told"] ["ferry","form","paper"] (z0c s_arrives):=⟨rfl,rfl,rfl,by decide +kernel,rfl,by decide +kernel,by decide +kernel⟩
theorem sc__law_draws:FnScope ["_law_script","_law_turn","_law_many","_law_cells","_law_found","_law_left","_law_k","_law_at","_law_place","_law_number"] ["_law_script","_law_turn","_law_many"] (z0c s__law_draws):=⟨rfl,rfl,rfl,by decide +kernel,rfl,by decide +kernel,by decide +kernel⟩
theorem y4v:FnScope ["_law_draws_here"] ["_law_draws_here"] (z0c s__law_pop):=⟨rfl,rfl,rfl,by decide +kernel,rfl,by decide +kernel,by decide +kernel⟩
theorem sc__law_name:FnScope ["_law_k","_law_draw","_law_letters","_law_base","_law_at"] ["_law_k","_law_draw"] (z0c s__law_name):=⟨rfl,rfl,rfl,by decide +kernel,rfl,by decide +kernel,by decide +kernel⟩
theorem y1t:FnScope ["_law_draw"] ["_law_draw"] (z0c s__law_names):=⟨rfl,rfl,rfl,by decide +kernel,rfl,by decide +kernel,by decide +kernel⟩
theorem sc__law_text:FnScope ["_law_number","_law_some"] ["_law_number"] (z0c s__law_text):=⟨rfl,rfl,rfl,by decide +kernel,rfl,by decide +kernel,by decide +kernel⟩
theorem sc__law_plain:FnScope ["_law_names_here","_law_draws_here","_law_deep","_law_row","_law_k","_law_number"] ["_law_names_here","_law_draws_here","_law_deep"] (z0c s__law_plain):=⟨rfl,rfl,rfl,by decide +kernel,rfl,by decide +kernel,by decide +kernel⟩
theorem sc__law_starred:FnScope ["_law_row","_law_number","_law_inner","_law_at"] ["_law_row","_law_number"] (z0c s__law_starred):=⟨rfl,rfl,rfl,by decide +kernel,rfl,by decide +kernel,by decide +kernel⟩
theorem sc__law_ferry:FnScope ["_law_names_here","_law_draws_here","_law_many","_law_rules","_law_k","_law_number","_law_row","_law_found","_law_name_here"] ["_law_names_here","_law_draws_here","_law_many"] (z0c s__law_ferry):=⟨rfl,rfl,rfl,by decide +kernel,rfl,by decide +kernel,by decide +kernel⟩
theorem sc__law_stars:FnScope ["_law_row","_law_many","_law_part"] ["_law_row"] (z0c s__law_stars):=⟨rfl,rfl,rfl,by decide +kernel,rfl,by decide +kernel,by decide +kernel⟩
theorem sc__law_due_ferry:FnScope ["_law_ferry_here","_law_met","_law_name_here","_law_row"] ["_law_ferry_here"] (z0c s__law_due_ferry):=⟨rfl,rfl,rfl,by decide +kernel,rfl,by decide +kernel,by decide +kernel⟩
theorem sc__law_bent_ferry:FnScope ["_law_ferry_here","_law_number","_law_at","_law_to","_law_name_here","_law_row"] ["_law_ferry_here","_law_number"] (z0c s__law_bent_ferry):=⟨rfl,rfl,rfl,by decide +kernel,rfl,by decide +kernel,by decide +kernel⟩
theorem z7l:FnScope ["_law_row"] ["_law_row"] (z0c s__law_copy_row):=⟨rfl,rfl,rfl,by decide +kernel,rfl,by decide +kernel,by decide +kernel⟩
theorem sc__law_kind:FnScope ["_law_error","_law_found"] ["_law_error"] (z0c s__law_kind):=⟨rfl,rfl,rfl,by decide +kernel,rfl,by decide +kernel,by decide +kernel⟩
theorem y0z:FnScope ["_law_ferry_here","_law_beside","_law_some"] ["_law_ferry_here","_law_beside","_law_some"] (z0c s__law_asked):=⟨rfl,rfl,rfl,by decide +kernel,rfl,by decide +kernel,by decide +kernel⟩
theorem z6n:FnScope ["_law_ferry_here"] ["_law_ferry_here"] (z0c s__law_copy_ferry):=⟨rfl,rfl,rfl,by decide +kernel,rfl,by decide +kernel,by decide +kernel⟩
theorem sc_law:FnScope ["_law_script","_law_draws_here","_law_names_here","_law_some","_law_beside","_law_ferry_here","_law_k","_law_due","_law_handed","_law_one","_law_bad"] ["_law_script"] (z0c s_law):=⟨rfl,rfl,rfl,by decide +kernel,rfl,by decide +kernel,by decide +kernel⟩
open PySem L2 VL
abbrev i_Twice:Stmt:=y4l (top 2) 0
abbrev i_NoName:Stmt:=y4l (top 3) 0
abbrev i_Stars:Stmt:=y4l (top 4) 0
theorem si_Twice:FnScope ["self","name"] ["self","name"] (z0c i_Twice):=⟨rfl,rfl,rfl,by decide +kernel,rfl,by decide +kernel,by decide +kernel⟩
theorem si_NoName:FnScope ["self","name"] ["self","name"] (z0c i_NoName):=⟨rfl,rfl,rfl,by decide +kernel,rfl,by decide +kernel,by decide +kernel⟩
theorem si_Stars:FnScope ["self","name"] ["self","name"] (z0c i_Stars):=⟨rfl,rfl,rfl,by decide +kernel,rfl,by decide +kernel,by decide +kernel⟩
open PySem L2 VL Pap
def R_pop:RD:=fun δ Q=>∃ ns:List Int,δ=[.ob true (.lst (ns.map .int))]∧∀ (x:Int) (ms:List Int),Q false (.int x) [.ob true (.lst (ms.map .int))]
theorem e_pop {ns:List Int}{Q:Bool→D→List VL.Slot→Prop}{w:Beh Q}:hold R_pop Q w [.ob true (.lst (ns.map .int))] = ∀ (x:Int) (ms:List Int),Q false (.int x) [.ob true (.lst (ms.map .int))] :=
 propext ⟨fun ⟨_,_,h⟩=>h,fun h=>⟨ns,rfl,h⟩⟩
def R_text:RD:=fun δ Q=>∃ n:Int,δ=[.fz (.int n)]∧∀ z:Str,z.length≤60→Q false (.str z) [.no]
theorem e_text {n:Int}{Q:Bool→D→List VL.Slot→Prop}{w:Beh Q}:hold R_text Q w [.fz (.int n)] = ∀ z:Str,z.length≤60→Q false (.str z) [.no] :=
 propext ⟨fun ⟨_,e,h⟩=>h,fun h=>⟨n,rfl,h⟩⟩
local macro_rules|`(tactic| walk_at "vd")=>do
 let u←("reduceIte getK_0 getK_s setK_0 setK_s setW_no setW_fz setW_ob setW_s varS_fz varS_ob pkS_fz pkS_ob obK_ob scK_sc ioK_t ioK_no intK_e strK_e blK_e lstK_e dctK_e truK_lst isLK_e int1K_e dFor_eq dComp_eq v_seq v_next v_ret v_never v_drop v_if v_set v_c v_var v_mv v_op v_opV v_opW v_test v_not v_and v_or v_truV v_andV v_ifE v_neg v_nil v_cons v_tup v_lst v_CB v_CBV v_rev v_mt v_gN v_gTup2 v_gCons v_gNil v_asg v_setL v_iList v_iRng1 v_call v_compV v_aNil v_aV v_aO v_callIO v_oN v_oS v_slLV v_slS v_slC v_join v_dict0 v_dget v_din v_dput v_I v_Ic v_eq_ii v_eq_ss v_ne_ii v_ne_ss v_notN v_catS v_cat v_ixL v_ixT0 v_ixT1 v_ixT2 v_ixS v_eqL0 v_neL0 v_inL v_notInL v_inT2 v_inT3 v_lenL v_lenS v_int1b v_append v_extend v_pop y3h y3r lst2K_e v_iRev v_iZip v_scA v_callC v_lst1K v_iEnum v_lenSet".splitOn " ").mapM fun n=>`(Lean.Parser.Tactic.simpLemma| ↓ $(Lean.mkIdent n.toName):term)
 let v←("e_pop e_text isNon_non rsl_t rsl_f outS keepIo_t keepIo_fz keepIo_no keepIo_sc List.map_cons List.map_nil List.length_cons List.length_nil Nat.reduceAdd List.replicate_succ List.replicate_zero List.cons_append List.nil_append List.append_nil List.drop_succ_cons List.drop_zero List.filter_cons List.filter_nil Option.isNone_none Option.isNone_some and_true true_and decide_eq_true_eq Bool.true_eq_false Bool.false_eq_true Bool.not_true Bool.not_false Bool.not_eq_eq_eq_not decide_true decide_false if_true if_false eq_self Int.zero_add List.isEmpty_nil List.isEmpty_cons not_true_eq_false not_false_eq_true false_and and_false Option.isSome_none Option.isSome_some y1s fgt List.set_cons_zero List.set_cons_succ".splitOn " ").mapM fun n=>`(Lean.Parser.Tactic.simpLemma| $(Lean.mkIdent n.toName):term)
 `(tactic| simp only [$((u++v).toArray),*])
structure Zs (K:PySem.W.Frag) (mg:Str→Option Value):Prop where
 z_list:mg "list" = none
 z_reversed:mg "reversed" = none
 z_isinstance:mg "isinstance" = none
 z_str:mg "str" = none
 z_len:mg "len" = none
 z_int:mg "int" = none
 z_bool:mg "bool" = none
 z_range:mg "range" = none
 z_all:mg "all" = none
 z_any:mg "any" = none
 z_zip:mg "zip" = none
 z_tuple:mg "tuple" = none
 z_dict:mg "dict" = none
 z_set:mg "set" = none
 z_enumerate:mg "enumerate" = none
 g_TEXT_SIGN:∃ t,mg "TEXT_SIGN" = some (.str "#" t)
 g_STAR:∃ t,mg "STAR" = some (.str "*" t)
 kit:KitOk K
mutual
def pD:Part→D
 |.txt s=>.str s
 |.tup n ps=>.tup [.str n,.lst (pDs ps)]
def pDs:List Part→List D
 | []=>[]
 |p::ps=>pD p::pDs ps
end
theorem z3m:∀ ps:List Part,pDs ps=ps.map pD
 | []=>rfl
 |p::ps=>by rw [pDs,z3m ps];rfl
theorem z5c (ps:List Part):(pDs ps).length=ps.length:=by rw [z3m];simp
section
variable {P:Program}{w:World}{K:PySem.W.Frag}{mg:Str→Option Value}{base:Heap}{f:Addr}{fd:FuncData}
theorem ok_pop (E:Ent K mg "_law_pop" s__law_pop ["_law_draws_here"] f fd) (T:Zs K mg):FnOk P w K mg base CX0 1 f fd ["_law_draws_here"] (spD R_pop):=by
 refine VL.Fun.dok E.F y4v (fun δ Qd h=>?_) (by decide) (fun cdv A outer s H E δ Qd hr h=>?_)
 ·obtain ⟨ns,rfl,_⟩:=h;rfl
 ·obtain ⟨ns,rfl,q⟩:=h
  have hu:=z4f hr
  refine ⟨_,(z0e (z2e (y0y (z9m hu) z3p (pv 0) (z1c z0g) (z0p _)) (z0i (z0z z0k)) z1a)
   (z0i (z0z (de_mt0 ms_pop PySem.F.slot_list_pop PySem.F.type_list_pop y6h (pv 0))))),?_⟩
  walk_at "vd"
  refine ⟨by decide,?_⟩
  cases ns with
  |nil=>exact iteT (q 0 [])
  |cons a r =>
   have hlt:(a::r).length - 1 < (a::r).length:=by simp
   refine iteF ⟨.int (a::r)[(a::r).length - 1],?_,?_⟩
   ·rw [List.getElem?_map,List.length_map,List.getElem?_eq_getElem hlt];rfl
   ·have:=q (a::r)[(a::r).length - 1] (a::r).dropLast
    rwa [List.map_dropLast] at this
theorem ok_text (E:Ent K mg "_law_text" s__law_text ["_law_number"] f fd) (T:Zs K mg):FnOk P w K mg base CX0 1 f fd ["_law_number"] (spD R_text):=by
 refine VL.Fun.dok E.F sc__law_text (fun δ Qd h=>?_) (by decide) (fun cdv A outer s H E δ Qd hr h=>?_)
 ·obtain ⟨ns,rfl,_⟩:=h;rfl
 ·obtain ⟨n,rfl,q⟩:=h
  refine ⟨_,(z0e (z1d (i:=1) sc__law_text.nd rfl (Or.inl rfl) (z1c (z0a z1g (z0a z1g (z0a z1g (z0a z1g (z0a z1g (z0a z1g (z0a z1g (z0a z1g (z0a z1g (z0a z1g (z0a z1g z0g)))))))))))))
   (z0i (z0z (z0y z2u z2l (pv 1) (z0s z1p z1r (dv 0) (z2g z3r z1h rfl T.z_len PySem.boot_len (pv 1))) (fun _ _=>rfl))))),?_⟩
  walk_at "vd"
  obtain ⟨d,hd,e⟩:=z5s (xs:=[D.str "",D.str "x",D.str "\"",D.str "\\",D.str "a b",D.str "\\q",D.str " ",D.str "~<*#",D.str "word(\"",D.str "q\\\\\"",D.str "- | ?"]) (z3d (a:=n) (b:=11) (by decide)) (z3c (by decide))
  refine ⟨by decide,by decide,d,e,?_⟩
  simp only [List.mem_cons,List.not_mem_nil,or_false] at hd
  rcases hd with rfl|rfl|rfl|rfl|rfl|rfl|rfl|rfl|rfl|rfl|rfl <;> exact q _ (by decide +kernel)
def NameOk (z:Str):Prop:=(∃ c∈z.cps.toList,97≤c∧c≤122)∧z.length≤30
theorem NameOk.ne {z:Str}(h:NameOk z):z ≠ "*":=by
 rintro rfl
 obtain ⟨⟨c,hc,h1,_⟩,_⟩:=h
 have:∀ c∈("*":Str).cps.toList,c=42:=by decide +kernel
 have:=this c hc
 omega
def R_name:RD:=fun δ Q=>∃ k n:Int,δ=[.fz (.int k),.fz (.int n)]∧∀ z:Str,NameOk z→Q false (.str z) [.no,.no]
theorem Str.len_app (a b:Str):(a ++ b).length=a.length+b.length:=by
 show (a.cps ++ b.cps).size=a.cps.size+b.cps.size
 simp
theorem lettersOk:∀ c∈("abcdefghijklmnopqrstuvwxyz":Str).cps.toList,97≤c∧c≤122:=by decide +kernel
theorem y4g:("abcdefghijklmnopqrstuvwxyz":Str).cps.toList.length=26:=by decide +kernel
theorem mem_rng {lo:Int}{n:Nat}{d:D}(h:d∈rngD lo n):∃ k:Nat,k < n∧d = .int (lo+k):=by
 obtain ⟨k,hk,rfl⟩:=List.mem_map.mp h
 exact ⟨k,List.mem_range.mp hk,rfl⟩
theorem z6k {n:Nat}{d:D}(h:d∈rngD 0 n):∃ k:Nat,k < n∧d = .int k:=by
 obtain ⟨k,hk,rfl⟩:=mem_rng h
 exact ⟨k,hk,by rw [Int.zero_add]⟩
theorem z8h (lo:Int) (n:Nat):(rngD lo n).length=n:=by simp [rngD]
theorem y5r:∀ ts:List Str,(∀ t∈ts,t.length=1)→(ts.map (·.length)).sum=ts.length
 | [],_=>rfl
 |t::ts,h=>by
  simp [y5r ts fun x hx=>h x (List.mem_cons_of_mem _ hx),h t List.mem_cons_self]
  omega
theorem strs_of {ds:List D}{ys:List D}(h:All2 (fun _ y=>∃ z:Str,y = .str z∧z.length=1) ds ys):∃ ts:List Str,ys=ts.map .str∧(∀ t∈ts,t.length=1)∧ts.length=ds.length:=by
 induction h with
 |nil=>exact ⟨[],rfl,fun t h=>(by cases h),rfl⟩
 |cons g _ ih =>
  obtain ⟨z,rfl,hz⟩:=g
  obtain ⟨ts,rfl,h1,h2⟩:=ih
  refine ⟨z::ts,rfl,fun t ht=>?_,by simp [h2]⟩
  rcases List.mem_cons.mp ht with rfl|ht
  ·exact hz
  ·exact h1 t ht
theorem ok_name (E:Ent K mg "_law_name" s__law_name ["_law_k","_law_draw"] f fd) (T:Zs K mg):FnOk P w K mg base CX0 1 f fd ["_law_k","_law_draw"] (spD R_name):=by
 refine VL.Fun.dok E.F sc__law_name (fun δ Qd h=>?_) (by decide) (fun cdv A outer s H E δ Qd hr h=>?_)
 ·obtain ⟨_,_,rfl,_⟩:=h;rfl
 ·obtain ⟨kk,n,rfl,q⟩:=h
  refine ⟨_,(z0e (z1d (i:=2) sc__law_name.nd rfl (Or.inr rfl) z1g)
   (z0e (z1d (i:=3) sc__law_name.nd rfl (Or.inl rfl) (de_join z1g (z5v ["_law_j"] ["_law_k","_law_draw","_law_letters","_law_base","_law_at"] rfl (show CScopeG (z0c s__law_name) ["_law_k","_law_draw","_law_letters","_law_base","_law_at"] ["_law_j"] _ _ from ⟨rfl,by decide +kernel,by decide +kernel,by decide +kernel,by decide +kernel⟩) (z2q rfl T.z_range (z0a (z0s z1p z1r (dv 1) z0k) z0g)) (fun _ _ _ _ _=>(z2j (i:=0) (by decide) (show List.Nodup (["_law_j","_law_k","_law_draw","_law_letters","_law_base","_law_at"]:List Str) from by decide +kernel) rfl (Or.inl rfl))) (fun _ _ _ _ _=>z7i) (fun _ _ _ _ _=>(z0y os_ixS ix_str (pv 3) (z0s z1p z1r (z0s z3l z3k (z0s z2h z1s (dv 2) z0k) (z0s z7k z7h (dv 0) (dv 0))) z0k) (fun _ _=>rfl))))))
   (z0e (z1d (i:=4) sc__law_name.nd rfl (Or.inl rfl) (z0s z1p z1r (z0s z2h z1s (dv 1) z0k) (z0s z3l z3k (z2g cs_lenS y2o rfl T.z_len PySem.boot_len (pv 3)) z0k)))
   (z0i (z0z (z0s os_catS y0e (z0s os_catS y0e (y3b (dv 3) z3h (z3f (dv 4))) (z0y os_ixS ix_str (pv 2) (z0s z1p z1r (z0s z3l z3k (dv 0) (dv 1)) z0k) (fun _ _=>rfl))) (y3b (dv 3) (z3f (dv 4)) z3h))))))),?_⟩
  have hLO:=lettersOk
  have hLL:=y4g
  generalize hz:("abcdefghijklmnopqrstuvwxyz":Str)=letters at hLO hLL ⊢
  have sz:=z0u
  have hll:letters.length=26:=hLL
  have m1:=z3d (a:=n) (b:=11) (by decide)
  have m2:=z3c (a:=n) (b:=11) (by decide)
  walk_at "vd"
  refine ⟨by decide,by omega,by omega,comp1 (fun _ y=>∃ z:Str,y = .str z∧z.length=1) (by rw [z8h];omega) (fun d hd P hP=>?_) fun ys hys=>?_⟩
  ·obtain ⟨k,hk,rfl⟩:=z6k hd
   walk_at "vd"
   obtain ⟨c,hc,e⟩:=z5s (xs:=letters.cps.toList) (i:=(n / 150+(k:Int) * k) % 26) (z3d (by decide)) (by rw [hLL];exact z3c (by decide))
   exact ⟨⟨by decide,by decide⟩,.inl ⟨by omega,by omega⟩,by decide,by omega,c,e,hP _ ⟨_,rfl,rfl⟩⟩
  ·obtain ⟨ts,rfl,h1,h2⟩:=strs_of hys
   rw [z8h] at h2
   have hs:=y5r ts h1
   refine ⟨ts,rfl,PyProof.Rows.joinOk_of_weight (by omega) (by decide),?_⟩
   have hj:=PySem.W.KT.join_ones ts h1
   generalize Txt.join (Str.ofString "") ts=base at hj ⊢
   walk_at "vd"
   obtain ⟨c,hc,e⟩:=z5s (xs:=letters.cps.toList) (i:=(kk+n) % 26) (z3d (by decide)) (by rw [hLL];exact z3c (by decide))
   have g1:=Txt.slice_le base none (some (n / 11 % ((base.length:Int)+1)))
   have g2:=Txt.slice_le base (some (n / 11 % ((base.length:Int)+1))) none
   generalize Txt.slice base none (some (n / 11 % ((base.length:Int)+1)))=sa at g1 ⊢
   generalize Txt.slice base (some (n / 11 % ((base.length:Int)+1))) none=sb at g2 ⊢
   have l1:(⟨#[c]⟩:Str).length=1:=rfl
   have l2:=Str.len_app sa ⟨#[c]⟩
   have l3:=Str.len_app (sa ++ ⟨#[c]⟩) sb
   refine ⟨⟨by decide,by decide⟩,by omega,by omega,by omega,by decide,by omega,c,e,by omega,by omega,by omega,q _ ⟨⟨c,?_,hLO c hc⟩,by omega⟩⟩
   show c∈((sa.cps ++ #[c]) ++ sb.cps).toList
   simp
def R_names:RD:=fun δ Q=>∃ n:Int,δ=[.fz (.int n)]∧∀ zs:List Str,zs.length=8→(∀ z∈zs,NameOk z)→Q true (.lst (zs.map .str)) [.no]
theorem e_name {k n:Int}{Q:Bool→D→List VL.Slot→Prop}{w:Beh Q}:hold R_name Q w [.fz (.int k),.fz (.int n)] = ∀ z:Str,NameOk z→Q false (.str z) [.no,.no] :=
 propext ⟨fun ⟨_,_,e,h⟩=>h,fun h=>⟨k,n,rfl,h⟩⟩
theorem names_of {ds ys:List D}(h:All2 (fun _ y=>∃ z:Str,y = .str z∧NameOk z) ds ys):∃ ts:List Str,ys=ts.map .str∧(∀ t∈ts,NameOk t)∧ts.length=ds.length:=by
 induction h with
 |nil=>exact ⟨[],rfl,fun t h=>(by cases h),rfl⟩
 |cons g _ ih =>
  obtain ⟨z,rfl,hz⟩:=g
  obtain ⟨ts,rfl,h1,h2⟩:=ih
  refine ⟨z::ts,rfl,fun t ht=>?_,by simp [h2]⟩
  rcases List.mem_cons.mp ht with rfl|ht
  ·exact hz
  ·exact h1 t ht
theorem ok_names {f1:Addr}{fd1:FuncData}(E:Ent K mg "_law_names" s__law_names ["_law_draw"] f fd) (T:Zs K mg) (E__law_name:Ent K mg "_law_name" s__law_name ["_law_k","_law_draw"] f1 fd1):FnOk P w K mg base CX0 2 f fd ["_law_draw"] (spD R_names):=by
 have G__law_name:FnOk P w K mg base CX0 1 f1 fd1 _ (spD R_name):=ok_name E__law_name T
 refine VL.Fun.dok E.F y1t (fun δ Qd h=>?_) (by decide) (fun cdv A outer s H E δ Qd hr h=>?_)
 ·obtain ⟨_,rfl,_⟩:=h;rfl
 ·obtain ⟨n,rfl,q⟩:=h
  refine ⟨_,(z0i (z0z (z5v ["_law_k"] ["_law_draw"] rfl (show CScopeG (z0c s__law_names) ["_law_draw"] ["_law_k"] _ _ from ⟨rfl,by decide +kernel,by decide +kernel,by decide +kernel,by decide +kernel⟩) (z2q rfl T.z_range (z0a z0k z0g)) (fun _ _ _ _ _=>(z2j (i:=0) (by decide) (show List.Nodup (["_law_k","_law_draw"]:List Str) from by decide +kernel) rfl (Or.inl rfl))) (fun _ _ _ _ _=>z7i) (fun _ _ _ _ _=>(z0v G__law_name (hr.mono (by decide)) rfl E__law_name.g E__law_name.F.kp E__law_name.b z0w (z0a (dv 0) (z0a (dv 1) z0g))))))),?_⟩
  have sz:=z0u
  walk_at "vd"
  refine ⟨by decide,by decide,comp1 (fun _ y=>∃ z:Str,y = .str z∧NameOk z) (by rw [z8h];show (8:Nat)≤_;omega) (fun d hd P hP=>?_) fun ys hys=>?_⟩
  ·obtain ⟨k,hk,rfl⟩:=z6k hd
   walk_at "vd"
   rw [e_name]
   intro z hz
   exact hP _ ⟨z,rfl,hz⟩
  ·obtain ⟨ts,rfl,h1,h2⟩:=names_of hys
   rw [z8h] at h2
   exact q ts h2 h1
def R_sign:RD:=fun δ Q=>∃ p:Part,δ=[.fz (pD p)]∧Q false (.str (z9a p)) [.no]
theorem ok_sign (E:Ent K mg "sign_of" s_sign_of ["part"] f fd) (T:Zs K mg):FnOk P w K mg base CX0 1 f fd ["part"] (spD R_sign):=by
 refine VL.Fun.dok E.F sc_sign_of (fun δ Qd h=>?_) (by decide) (fun cdv A outer s H E δ Qd hr h=>?_)
 ·obtain ⟨ns,rfl,_⟩:=h;rfl
 ·obtain ⟨p,rfl,q⟩:=h
  refine ⟨_,(z0i (z0z (de_if (z9n (z4r (z9q T.kit) (z2s (K:=K) rfl) rfl T.z_isinstance PyProof.Rows.boot_isinstance (z0a (dv 0) (z0a (de_ty rfl T.z_str PyProof.Rows.boot_str) z0g)))) (de_gS rfl T.g_TEXT_SIGN) (z0y z1l z1m (pv 0) z0k (fun _ _=>rfl))))),?_⟩
  cases p with
  |txt z =>
   simp only [pD]
   walk_at "vd"
   exact q
  |tup n ps =>
   simp only [pD]
   walk_at "vd"
   exact q
end
open PySem L2 VL Pap
mutual
def dp1:Part→Nat
 |.txt _=>0
 |.tup _ ps=>dpL ps+1
def dpL:List Part→Nat
 | []=>0
 |p::ps=>max (dp1 p) (dpL ps)
end
mutual
def st1:Part→Nat
 |.txt _=>0
 |.tup n ps=>(if n = "*" then 1 else 0)+stL ps
def stL:List Part→Nat
 | []=>0
 |p::ps=>st1 p+stL ps
end
mutual
def y2y:Part→List Part
 |.txt s=>[.txt s]
 |.tup n ps=>.tup n ps::z5y ps
def z5y:List Part→List Part
 | []=>[]
 |p::ps=>y2y p ++ z5y ps
end
theorem y2u (ps qs:List Part):z5y (ps ++ qs)=z5y ps ++ z5y qs:=by
 induction ps with
 |nil=>rfl
 |cons p ps ih=>simp [z5y,ih]
mutual
theorem flat1_len:∀ p:Part,(y2y p).length=z1j p
 |.txt _=>rfl
 |.tup _ ps=>by simp [y2y,z1j,z4u ps];omega
theorem z4u:∀ ps:List Part,(z5y ps).length=z0q ps
 | []=>rfl
 |p::ps=>by simp [z5y,z0q,flat1_len p,z4u ps]
end
mutual
theorem flat1_star:∀ p:Part,((y2y p).filter fun q=>decide (z9a q = "*")).length=st1 p
 |.txt z=>by
  have:decide (z9a (.txt z) = "*")=false:=(show decide (("#":Str) = "*")=false by decide +kernel)
  simp [y2y,st1,List.filter_cons,this]
 |.tup n ps=>by
  have:=z6v ps
  have e:z9a (.tup n ps)=n:=rfl
  simp only [y2y,st1,List.filter_cons,e]
  by_cases h:n = "*"
  ·simp only [h,decide_true,if_true,List.length_cons,this];omega
  ·simp only [h,decide_false,if_false,Bool.false_eq_true,this];omega
theorem z6v:∀ ps:List Part,((z5y ps).filter fun q=>decide (z9a q = "*")).length=stL ps
 | []=>rfl
 |p::ps=>by simp [z5y,stL,List.filter_append,flat1_star p,z6v ps]
end
theorem z3n (ps qs:List Part):dpL (ps ++ qs)=max (dpL ps) (dpL qs):=by
 induction ps with
 |nil=>simp [dpL]
 |cons p ps ih=>simp only [dpL,ih,List.cons_append];omega
theorem z3v (ps qs:List Part):stL (ps ++ qs)=stL ps+stL qs:=by
 induction ps with
 |nil=>simp [stL]
 |cons p ps ih=>simp [stL,ih];omega
mutual
def se1:Part→Bool
 |.txt _=>true
 |.tup n ps=>if n = "*" then ps.isEmpty else seL ps
def seL:List Part→Bool
 | []=>true
 |p::ps=>se1 p && seL ps
end
theorem z5g (ps qs:List Part):seL (ps ++ qs)=(seL ps && seL qs):=by
 induction ps with
 |nil=>simp [seL]
 |cons p ps ih=>simp [seL,ih,Bool.and_assoc]
mutual
theorem se1_of:∀ p:Part,st1 p=0→se1 p=true
 |.txt _,_=>rfl
 |.tup n ps,h=>by
  simp only [st1] at h
  have hn:n ≠ "*":=fun e=>by rw [if_pos e] at h;omega
  simp only [se1,hn,if_false]
  exact y3q ps (by omega)
theorem y3q:∀ ps:List Part,stL ps=0→seL ps=true
 | [],_=>rfl
 |p::ps,h=>by
  simp only [stL] at h
  simp only [seL,se1_of p (by omega),y3q ps (by omega),Bool.and_self]
end
def PlOk:Nat→List Part→Prop
 |0,ps=>ps.length≤3∧∀ p∈ps,∃ z:Str,p = .txt z
 |d+1,ps=>ps.length≤3∧∀ p∈ps,(∃ z:Str,p = .txt z) ∨ ∃ n qs,p = .tup n qs∧NameOk n∧PlOk d qs
def szP:Nat→Nat
 |0=>3
 |d+1=>3 * (1+szP d)
theorem sum_le {f:Part→Nat}{B:Nat}:∀ ps:List Part,(∀ p∈ps,f p≤B)→(ps.map f).sum≤ps.length * B
 | [],_=>by simp
 |p::ps,h=>by
  have h1:=h p List.mem_cons_self
  have h2:=sum_le ps fun q hq=>h q (List.mem_cons_of_mem _ hq)
  simp only [List.map_cons,List.sum_cons,List.length_cons,Nat.add_mul,Nat.one_mul]
  omega
theorem z7z:∀ ps:List Part,z0q ps=(ps.map z1j).sum
 | []=>rfl
 |p::ps=>by simp [z0q,z7z ps]
theorem y0q:∀ ps:List Part,(∀ p∈ps,st1 p=0)→stL ps=0
 | [],_=>rfl
 |p::ps,h=>by simp [stL,h p List.mem_cons_self,y0q ps fun q hq=>h q (List.mem_cons_of_mem _ hq)]
theorem dpL_le {B:Nat}:∀ ps:List Part,(∀ p∈ps,dp1 p≤B)→dpL ps≤B
 | [],_=>Nat.zero_le _
 |p::ps,h=>by
  have h1:=h p List.mem_cons_self
  have h2:=dpL_le ps fun q hq=>h q (List.mem_cons_of_mem _ hq)
  simp only [dpL];omega
theorem PlOk.all:∀ (d:Nat) (ps:List Part),PlOk d ps→z0q ps≤szP d∧stL ps=0∧dpL ps≤d
 |0,ps,⟨h1,h2⟩=>by
  have key:∀ p∈ps,z1j p≤1∧st1 p=0∧dp1 p≤0:=fun p hp=>by obtain ⟨z,rfl⟩:=h2 p hp;exact ⟨Nat.le_refl _,rfl,Nat.le_refl _⟩
  refine ⟨?_,y0q ps fun p hp=>(key p hp).2.1,dpL_le ps fun p hp=>(key p hp).2.2⟩
  have:=sum_le (f:=z1j) (B:=1) ps fun p hp=>(key p hp).1
  rw [z7z];simp only [szP];omega
 |d+1,ps,⟨h1,h2⟩=>by
  have key:∀ p∈ps,z1j p≤1+szP d∧st1 p=0∧dp1 p≤d+1:=fun p hp=>by
   rcases h2 p hp with ⟨z,rfl⟩|⟨n,qs,rfl,hn,hq⟩
   ·exact ⟨by simp only [z1j];omega,rfl,Nat.zero_le _⟩
   ·obtain ⟨a,b,c⟩:=PlOk.all d qs hq
    simp [z1j,st1,dp1,hn.ne,b];omega
  refine ⟨?_,y0q ps fun p hp=>(key p hp).2.1,dpL_le ps fun p hp=>(key p hp).2.2⟩
  have h3:=sum_le (f:=z1j) (B:=1+szP d) ps fun p hp=>(key p hp).1
  have h4:ps.length * (1+szP d)≤3 * (1+szP d):=Nat.mul_le_mul_right _ h1
  rw [z7z];simp only [szP];omega
theorem pDs_app (ps qs:List Part):pDs (ps ++ qs)=pDs ps ++ pDs qs:=by simp [z3m]
section
variable {P:Program}{w:World}{K:PySem.W.Frag}{mg:Str→Option Value}{base:Heap}{f:Addr}{fd:FuncData}
theorem y1e {k:Nat}{ps:List Str}{R:RD}(h:∀ δ Q,¬ R δ Q):FnOk P w K mg base CX0 k f fd ps (spD R) :=
 ⟨fun vs H Q E q=>by obtain ⟨_,_,_,_,_,_,_,z,_⟩:=q;exact (h _ _ z).elim,fun A outer s H args us vs Q E _ _ _ _ q=>by obtain ⟨_,_,_,_,_,_,_,z,_⟩:=q;exact (h _ _ z).elim⟩
def y4h (n:Nat):RD:=fun δ Q=>∃ (zs:List Str) (ns:List Int) (dp:Nat),δ=[.fz (.lst (zs.map .str)),.ob true (.lst (ns.map .int)),.fz (.int dp)]∧dp < n∧zs.length=8∧(∀ z∈zs,NameOk z) ∧
 ∀ (ps:List Part) (ms:List Int),PlOk dp ps→Q true (.lst (pDs ps)) [.no,.ob true (.lst (ms.map .int)),.no]
theorem e_plain {n:Nat}{zs:List Str}{ns:List Int}{dp:Int}{Q:Bool→D→List VL.Slot→Prop}(j:Nat) (hj:dp=j) (hn:j < n) (hz:zs.length=8) (ok:∀ z∈zs,NameOk z) (h:∀ (ps:List Part) (ms:List Int),PlOk j ps→Q true (.lst (pDs ps)) [.no,.ob true (.lst (ms.map .int)),.no]) :
  y4h n [.fz (.lst (zs.map .str)),.ob true (.lst (ns.map .int)),.fz (.int dp)] Q:=⟨zs,ns,j,by rw [hj],hn,hz,ok,h⟩
theorem ok_plain {f1 f2:Addr}{fd1 fd2:FuncData}(E__law_plain:Ent K mg "_law_plain" s__law_plain ["_law_names_here","_law_draws_here","_law_deep"] f fd) (T:Zs K mg) (E__law_pop:Ent K mg "_law_pop" s__law_pop ["_law_draws_here"] f1 fd1) (E__law_text:Ent K mg "_law_text" s__law_text ["_law_number"] f2 fd2):∀ n,FnOk P w K mg base CX0 (n+2) f fd ["_law_names_here","_law_draws_here","_law_deep"] (spD (y4h n)):=by
 have G__law_pop:FnOk P w K mg base CX0 1 f1 fd1 _ (spD R_pop):=ok_pop E__law_pop T
 have G__law_text:FnOk P w K mg base CX0 1 f2 fd2 _ (spD R_text):=ok_text E__law_text T
 intro n
 induction n with
 |zero=>exact y1e fun δ Q h=>by obtain ⟨_,_,_,_,h,_⟩:=h;exact Nat.not_lt_zero _ h
 |succ n G__law_plain =>
 refine VL.Fun.dok E__law_plain.F sc__law_plain (fun δ Qd h=>?_) (by decide) (fun cdv A outer s H E δ Qd hr h=>?_)
 ·obtain ⟨_,_,_,rfl,_⟩:=h;rfl
 ·obtain ⟨zs,ns,dp,rfl,hdp,hz,ok,q⟩:=h
  refine ⟨_,(z0e (z1d (i:=3) sc__law_plain.nd rfl (Or.inl rfl) (z1c z0g))
   (z0e (z2t PassesOwn.never rfl (z2q rfl T.z_range (z0a (z0s z1p z1r (z3e (i:=1) G__law_pop (hr.mono (by omega)) rfl E__law_pop.g E__law_pop.F.kp E__law_pop.b z0w (da_o (pv 1) z6i)) z0k) z0g)) (z1i (i:=4) sc__law_plain.nd rfl (Or.inl rfl)) (z0e (z1d (i:=5) sc__law_plain.nd rfl (Or.inl rfl) (z3e (i:=1) G__law_pop (hr.mono (by omega)) rfl E__law_pop.g E__law_pop.F.kp E__law_pop.b z0w (da_o (pv 1) z6i)))
   (z0i (z2e (dt_w (dw_or (z1k z4v z1w (z0s z1p z1r (dv 5) z0k) z0k (z0p _)) (dw_or1 (z1k z4v z1w (dv 2) z0k (z0p _))))) (z0i (z3q (y1z z3o PySem.F.slot_list_append PySem.F.type_list_append z1v (pv 3) (z0a (z0v G__law_text (hr.mono (by omega)) rfl E__law_text.g E__law_text.F.kp E__law_text.b z0w (z0a (z0s z2h z1s (dv 5) z0k) z0g)) z0g)))) (z0i (z3q (y1z z3o PySem.F.slot_list_append PySem.F.type_list_append z1v (pv 3) (z0a (z3a (z0a (z0y z2u z2l (pv 0) (z0s z1p z1r (z0s z2h z1s (dv 5) z0k) (z2g z3r z1h rfl T.z_len PySem.boot_len (pv 0))) (fun _ _=>rfl)) (z0a (z3e (i:=1) G__law_plain (hr.mono (by omega)) rfl E__law_plain.g E__law_plain.F.kp E__law_plain.b z0w (da_v (dv 0) (da_o (pv 1) (da_v (z0s os_sub op_sub (dv 2) z0k) z6i)))) z0g))) z0g))))))))
   (z0i (z0z (dm 3))))),?_⟩
  have sz:=z0u
  walk_at "vd"
  refine ⟨by decide,fun x ms=>?_⟩
  have m1:=z3d (a:=x) (b:=4) (by decide)
  have m2:=z3c (a:=x) (b:=4) (by decide)
  refine ⟨by decide,by omega,by omega,y4t [4,5] (fun i δ=>∃ ms ps,ps.length=i∧(∀ p∈ps,(∃ z:Str,p = .txt z) ∨ ∃ n qs,p = .tup n qs∧NameOk n∧∃ d,dp=d+1∧PlOk d qs)∧δ=[.fz (.lst (zs.map .str)),.ob true (.lst (ms.map .int)),.fz (.int dp),.ob false (.lst (pDs ps)),.no,.no]) ⟨ms,[],rfl,fun p h=>(by cases h),rfl⟩ ?_ ?_⟩
  ·rintro i δ hi ⟨ms,ps,hl,hp,rfl⟩
   walk_at "vd"
   intro x ms
   have hpl:=z5c ps
   have txt:∀ z:Str,z.length≤60→(pDs ps).length < sizeLine∧∃ (ms_1:List Int) (ps_1:List Part),ps_1.length=i+1∧(∀ p∈ps_1,(∃ z:Str,p=Part.txt z) ∨ ∃ n qs,p=Part.tup n qs∧NameOk n∧∃ d,dp=d+1∧PlOk d qs) ∧
     ([.fz (.lst (zs.map .str)),.ob true (.lst (ms.map .int)),.fz (.int dp),.ob false (.lst (pDs ps ++ [.str z])),.no,.no]:List VL.Slot)=[.fz (.lst (zs.map .str)),.ob true (.lst (ms_1.map .int)),.fz (.int dp),.ob false (.lst (pDs ps_1)),.no,.no]:=fun z hz=>by
    refine ⟨by omega,ms,ps ++ [.txt z],by simp [hl],fun p hq=>?_,by rw [pDs_app];rfl⟩
    rcases List.mem_append.mp hq with hq|hq
    ·exact hp p hq
    ·exact .inl ⟨z,by simpa using hq⟩
   refine ⟨by decide,ite2 (fun _=>⟨⟨by decide,by decide⟩,txt⟩) fun _=>ite2 (fun _=>⟨⟨by decide,by decide⟩,txt⟩) fun hd=>?_⟩
   have hl8:((List.map D.str zs).length:Int)=8:=by simp [hz]
   rw [hl8]
   obtain ⟨d,hd1,e⟩:=z5s (xs:=List.map D.str zs) (i:=x / 3 % 8) (z3d (by decide)) (by rw [hl8];exact z3c (by decide))
   obtain ⟨nm,hnm,rfl⟩:=List.mem_map.mp hd1
   obtain ⟨d',rfl⟩:∃ d',dp=d' + 1:=⟨dp - 1,by omega⟩
   refine ⟨⟨by decide,by decide⟩,by decide,_,e,e_plain d' (by omega) (by omega) hz ok fun qs ms2 hq=>?_⟩
   walk_at "vd"
   refine ⟨by decide,by omega,ms2,ps ++ [.tup nm qs],by simp [hl],fun p hq'=>?_,by rw [pDs_app];rfl⟩
   rcases List.mem_append.mp hq' with hq' | hq'
   ·exact hp p hq'
   ·exact .inr ⟨nm,qs,by simpa using hq',ok nm hnm,d',rfl,hq⟩
  ·rintro δ ⟨ms,ps,hl,hp,rfl⟩
   walk_at "vd"
   refine q ps ms ?_
   cases dp with
   |zero =>
    refine ⟨by omega,fun p hq=>?_⟩
    rcases hp p hq with h|⟨_,_,_,_,d,h,_⟩
    ·exact h
    ·cases h
   |succ d =>
    refine ⟨by omega,fun p hq=>?_⟩
    rcases hp p hq with h|⟨n,qs,h1,h2,d',h3,h4⟩
    ·exact .inl h
    ·cases h3;exact .inr ⟨n,qs,h1,h2,h4⟩
end
open PySem L2 VL Pap
theorem pDs_get {ps:List Part}{k:Nat}(h:k < ps.length):atI (pDs ps) (k:Int)=some (pD ps[k]):=by
 refine z8n ?_
 rw [z3m,List.getElem?_map,List.getElem?_eq_getElem h];rfl
theorem dp_mem {ps:List Part}{p:Part}(h:p∈ps):dp1 p≤dpL ps:=by
 induction ps with
 |nil=>cases h
 |cons q ps ih =>
  simp only [dpL]
  rcases List.mem_cons.mp h with rfl|h
  ·omega
  ·have:=ih h;omega
theorem sz_mem {ps:List Part}{p:Part}(h:p∈ps):z1j p≤z0q ps:=by
 induction ps with
 |nil=>cases h
 |cons q ps ih =>
  simp only [z0q]
  rcases List.mem_cons.mp h with rfl|h
  ·omega
  ·have:=ih h;omega
def y2v (ps:List Part):D→Bool
 |.int k=>match ps[k.toNat]? with|some (.tup n _)=>!decide (n = "*")|_=>false
 |_=>false
section
variable {P:Program}{w:World}{K:PySem.W.Frag}{mg:Str→Option Value}{base:Heap}{f:Addr}{fd:FuncData}
def z6l (n:Nat):RD:=fun δ Q=>∃ (ps:List Part) (x:Int),δ=[.fz (.lst (pDs ps)),.fz (.int x)]∧dpL ps < n∧z0q ps≤1000 ∧
 ∀ ps':List Part,z0q ps' = z0q ps+1→stL ps' = stL ps+1→dpL ps' ≤ dpL ps+1→(seL ps=true→seL ps' = true)→Q true (.lst (pDs ps')) [.no,.no]
theorem z9s (E__law_starred:Ent K mg "_law_starred" s__law_starred ["_law_row","_law_number"] f fd) (T:Zs K mg):∀ n,FnOk P w K mg base CX0 (n+1) f fd ["_law_row","_law_number"] (spD (z6l n)):=by
 intro n
 induction n with
 |zero=>exact y1e fun δ Q h=>by obtain ⟨_,_,_,h,_⟩:=h;exact Nat.not_lt_zero _ h
 |succ n G__law_starred =>
 refine VL.Fun.dok E__law_starred.F sc__law_starred (fun δ Qd h=>?_) (by decide) (fun cdv A outer s H E δ Qd hr h=>?_)
 ·obtain ⟨_,_,rfl,_⟩:=h;rfl
 ·obtain ⟨ps,x,rfl,hdp,hs,q⟩:=h
  have hu:=z4f hr
  refine ⟨_,(z0e (y4k (j:=2) ["_law_k"] ["_law_row","_law_number","_law_inner","_law_at"] sc__law_starred.nd rfl rfl rfl (show CScopeG (z0c s__law_starred) ["_law_row","_law_number","_law_inner","_law_at"] ["_law_k"] _ _ from ⟨rfl,by decide +kernel,by decide +kernel,by decide +kernel,by decide +kernel⟩) (z2q rfl T.z_range (z0a (z2g z3r z1h rfl T.z_len PySem.boot_len (pv 0)) z0g)) (fun _ _ _ _ _=>(z2j (i:=0) (by decide) (show List.Nodup (["_law_k","_law_row","_law_number","_law_inner","_law_at"]:List Str) from by decide +kernel) rfl (Or.inl rfl))) (fun _ _ _ _ _=>(df_one (dt_w (y6j (y2j (z9n (z4r (z9q T.kit) (z2s (K:=K) rfl) rfl T.z_isinstance PyProof.Rows.boot_isinstance (z0a (z0y z2u z2l (pv 1) (dv 0) (fun _ _=>rfl)) (z0a (de_ty rfl T.z_str PyProof.Rows.boot_str) z0g))))) (y1u (z1k os_ne op_ne (de_ix z1l z1m (z0y z2u z2l (pv 1) (dv 0) (fun _ _=>rfl)) z0k (fun _ _=>rfl)) z1g (z0p _))))))) (fun _ _ _ _ _=>(dv 0)))
   (z0e (z2e (dt_w (y6j (z1k z4v z1w (z0s z1p z1r (dv 1) z0k) z0k (z0p _)) (y1u (y0y (y2w hu) z4h (pv 2) (z1c z0g) (z0p _))))) (z0e (z1d (i:=3) sc__law_starred.nd rfl (Or.inl rfl) (z0y z2u z2l (pv 2) (z0s z1p z1r (z0s z2h z1s (dv 1) z0k) (z2g z3r z1h rfl T.z_len PySem.boot_len (pv 2))) (fun _ _=>rfl)))
   (z0i (z0z (z0s z4s z3j (z0s z4s z3j (z2c (pv 0) z3h (z3f (dv 3))) (z1c (z0a (z3a (z0a (de_ix z1l z1m (z0y z2u z2l (pv 0) (dv 3) (fun _ _=>rfl)) z0k (fun _ _=>rfl)) (z0a (z0v G__law_starred (hr.mono (by omega)) rfl E__law_starred.g E__law_starred.F.kp E__law_starred.b z0w (z0a (de_ix z1l z1m (z0y z2u z2l (pv 0) (dv 3) (fun _ _=>rfl)) z0k (fun _ _=>rfl)) (z0a (z0s z2h z1s (dv 1) z0k) z0g))) z0g))) z0g))) (z2c (pv 0) (z3f (z0s z3l z3k (dv 3) z0k)) z3h))))) z1a)
   (z0e (z1d (i:=3) sc__law_starred.nd rfl (Or.inl rfl) (z0s z1p z1r (z0s z2h z1s (dv 1) z0k) (z0s z3l z3k (z2g z3r z1h rfl T.z_len PySem.boot_len (pv 0)) z0k)))
   (z0i (z0z (z0s z4s z3j (z0s z4s z3j (z2c (pv 0) z3h (z3f (dv 3))) (z1c (z0a (z3a (z0a z1g (z0a (z1c z0g) z0g))) z0g))) (z2c (pv 0) (z3f (dv 3)) z3h))))))),?_⟩
  have sz:=z0u
  have hpl:=z5c ps
  have hle:=z2y ps
  walk_at "vd"
  rw [hpl]
  refine ⟨by omega,by omega,comp1f (y2v ps) id (by rw [z8h];omega) (fun d hd P hP=>?_) (fun d hd hc P hP=>?_) ?_⟩
  ·obtain ⟨k,hk,rfl⟩:=z6k hd
   have hk':k < ps.length:=by omega
   have e:=pDs_get hk'
   have eo:y2v ps (.int k)=match ps[k] with | .tup n _=>!decide (n = "*")|_=>false:=by
    simp only [y2v,Int.toNat_natCast,List.getElem?_eq_getElem hk']
    cases ps[k] <;> rfl
   rw [eo] at hP
   walk_at "vd"
   refine ⟨_,e,?_⟩
   cases hp:ps[k] with
   |txt z =>
    rw [hp] at hP e
    simp only [pD]
    walk_at "vd"
    exact hP
   |tup n qs =>
    rw [hp] at hP e
    simp only [pD] at e ⊢
    walk_at "vd"
    refine ⟨_,e,?_⟩
    walk_at "vd"
    exact hP
  ·obtain ⟨k,hk,rfl⟩:=z6k hd
   walk_at "vd"
   exact hP
  ·rw [List.map_id]
   generalize hin:List.filter (y2v ps) (rngD 0 (Int.toNat ↑ps.length))=ins
   walk_at "vd"
   have fin:(0 < (2:Int)∧(Int.natAbs 2).log2 < 9000)∧0 < ((pDs ps).length:Int)+1∧0≤sizeLine∧2≤sizeLine∧1≤sizeLine∧(cutD (pDs ps) none (some (x / 2 % (((pDs ps).length:Int)+1)))).length+1≤sizeLine ∧
     (cutD (pDs ps) none (some (x / 2 % (((pDs ps).length:Int)+1))) ++ [D.tup [D.str "*",D.lst []]]).length+(cutD (pDs ps) (some (x / 2 % (((pDs ps).length:Int)+1))) none).length≤sizeLine ∧
     Qd true (D.lst (cutD (pDs ps) none (some (x / 2 % (((pDs ps).length:Int)+1))) ++ [D.tup [D.str "*",D.lst []]] ++ cutD (pDs ps) (some (x / 2 % (((pDs ps).length:Int)+1))) none)) [.no,.no]:=by
    have h0:0 < ((pDs ps).length:Int)+1:=by omega
    have h1:=z3d (a:=x / 2) h0
    have h2:=z3c (a:=x / 2) h0
    obtain ⟨k,hk⟩:=Int.eq_ofNat_of_zero_le h1
    rw [hk] at h2 ⊢
    rw [z4j,z5f]
    have hk':k≤ps.length:=by omega
    have e:List.take k (pDs ps) ++ [D.tup [D.str "*",D.lst []]] ++ List.drop k (pDs ps)=pDs (ps.take k ++ [.tup "*" []] ++ ps.drop k):=by
     simp only [z3m,List.map_append,List.map_take,List.map_drop];rfl
    have l1:(List.take k (pDs ps)).length≤ps.length:=by rw [List.length_take];omega
    have l2:(List.drop k (pDs ps)).length≤ps.length:=by rw [List.length_drop];omega
    refine ⟨⟨by decide,by decide⟩,h0,by omega,by omega,by omega,by omega,by simp only [List.length_append,List.length_cons,List.length_nil];omega,?_⟩
    rw [e]
    have ez:=congrArg z0q (List.take_append_drop k ps)
    have es:=congrArg stL (List.take_append_drop k ps)
    have ed:=congrArg dpL (List.take_append_drop k ps)
    rw [z3b] at ez
    rw [z3v] at es
    rw [z3n] at ed
    refine q _ ?_ ?_ ?_ ?_
    ·simp only [z3b,z0q,z1j];omega
    ·simp only [z3v,stL,st1,if_true];omega
    ·simp only [z3n,dpL,dp1];omega
    ·intro hse
     rw [← List.take_append_drop k ps,z5g,Bool.and_eq_true] at hse
     simp [z5g,seL,se1,hse.1,hse.2]
   refine ⟨by decide,ite2 (fun _=>⟨by omega,ite2 (fun hne=>?_) fun _=>fin⟩) fun _=>fin⟩
   have hl0:0 < (ins.length:Int):=by cases ins with
    |nil=>cases hne
    |cons a r=>simp
   obtain ⟨d,hd,e⟩:=z5s (xs:=ins) (i:=x / 2 % (ins.length:Int)) (z3d hl0) (z3c hl0)
   rw [← hin] at hd
   obtain ⟨hd1,hd2⟩:=List.mem_filter.mp hd
   obtain ⟨k,hk,rfl⟩:=z6k hd1
   have hk':k < ps.length:=by omega
   have ep:=pDs_get hk'
   refine ⟨⟨by decide,by decide⟩,hl0,_,e,?_⟩
   obtain ⟨nm,qs,hp,hn⟩:∃ nm qs,ps[k] = .tup nm qs∧nm ≠ "*":=by
    simp only [y2v,Int.toNat_natCast,List.getElem?_eq_getElem hk'] at hd2
    cases hp:ps[k] with
    |txt z=>rw [hp] at hd2;cases hd2
    |tup nm qs=>rw [hp] at hd2;exact ⟨nm,qs,rfl,by simpa using hd2⟩
   rw [hp] at ep
   simp only [pD] at ep
   have esplit:ps=ps.take k ++ (.tup nm qs::ps.drop (k+1)):=by
    rw [← hp];simp
   have ez:=congrArg z0q esplit
   have es:=congrArg stL esplit
   have ed:=congrArg dpL esplit
   rw [z3b] at ez
   rw [z3v] at es
   rw [z3n] at ed
   simp only [z0q,z1j] at ez
   simp only [stL,st1,hn,if_false] at es
   simp only [dpL,dp1] at ed
   walk_at "vd"
   refine ⟨_,ep,?_⟩
   walk_at "vd"
   refine ⟨_,ep,?_⟩
   walk_at "vd"
   refine ⟨⟨by decide,by decide⟩,qs,x / 6,rfl,by omega,by omega,fun qs' z1 z2 z3 z4=>?_⟩
   walk_at "vd"
   have ek:((k:Int)+1)=((k+1:Nat):Int):=by omega
   rw [ek,z4j,z5f]
   have l1:(List.take k (pDs ps)).length≤ps.length:=by rw [List.length_take];omega
   have l2:(List.drop (k+1) (pDs ps)).length≤ps.length:=by rw [List.length_drop];omega
   have e:List.take k (pDs ps) ++ [D.tup [D.str nm,D.lst (pDs qs')]] ++ List.drop (k+1) (pDs ps)=pDs (ps.take k ++ [.tup nm qs'] ++ ps.drop (k+1)):=by
    simp only [z3m,List.map_append,List.map_take,List.map_drop,List.map_cons,List.map_nil,pD]
   refine ⟨by omega,by omega,by omega,by simp only [List.length_append,List.length_cons,List.length_nil];omega,?_⟩
   rw [e]
   refine q _ ?_ ?_ ?_ ?_
   ·simp only [z3b,z0q,z1j];omega
   ·simp only [z3v,stL,st1,hn,if_false];omega
   ·simp only [z3n,dpL,dp1];omega
   ·intro hse
    have ee:=congrArg seL esplit
    rw [hse,z5g] at ee
    simp only [seL,se1,hn,if_false] at ee
    have ee:=ee.symm
    simp only [Bool.and_eq_true] at ee
    simp only [z5g,seL,se1,hn,if_false,ee.1,z4 ee.2.1,ee.2.2,Bool.and_self]
end
open PySem L2 VL Pap
def z0x (r:Str × List Part):D:=.tup [.str r.1,.lst (pDs r.2)]
def fstD:D→D
 |.tup (a::_)=>a
 |d=>d
structure RuleOk (r:Str × List Part):Prop where
 nm:NameOk r.1
 sz:z0q r.2≤40
 st:stL r.2≤1
 dp:dpL r.2≤3
 se:seL r.2=true
structure FerOk (fs:List (Str × List Part)):Prop where
 len:fs.length≤6
 nd:(fs.map (·.1)).Nodup
 ok:∀ r∈fs,RuleOk r
structure RuleW (r:Str × List Part):Prop where
 nm:NameOk r.1
 sz:z0q r.2≤48
 st:stL r.2≤1
 dp:dpL r.2≤8
 se:seL r.2=true
structure FerW (fs:List (Str × List Part)):Prop where
 len:fs.length≤8
 nd:(fs.map (·.1)).Nodup
 ok:∀ r∈fs,RuleW r
structure FerB (k:Nat) (fs:List (Str × List Part)):Prop where
 len:fs.length≤6+k
 ok:∀ r∈fs,NameOk r.1∧z0q r.2≤40+2 * k∧dpL r.2≤3+2 * k∧seL r.2=true
theorem FerOk.b {fs:List (Str × List Part)}(o:FerOk fs):FerB 0 fs:=⟨o.len,fun r h=>⟨(o.ok r h).nm,(o.ok r h).sz,(o.ok r h).dp,(o.ok r h).se⟩⟩
section
variable {P:Program}{w:World}{K:PySem.W.Frag}{mg:Str→Option Value}{base:Heap}{f:Addr}{fd:FuncData}
def R_ferry:RD:=fun δ Q=>∃ (zs:List Str) (ns:List Int) (m:Int),δ=[.fz (.lst (zs.map .str)),.ob true (.lst (ns.map .int)),.fz (.int m)]∧0≤m∧m≤6∧zs.length=8∧(∀ z∈zs,NameOk z) ∧
 ∀ (fs:List (Str × List Part)) (ms:List Int),FerOk fs→Q true (.lst (fs.map z0x)) [.no,.ob true (.lst (ms.map .int)),.no]
theorem z4x {n:Nat}{ps:List Part}{x:Int}{Q:Bool→D→List VL.Slot→Prop}(h1:dpL ps < n) (h2:z0q ps≤1000) (h:∀ ps':List Part,z0q ps' = z0q ps+1→stL ps' = stL ps+1→dpL ps' ≤ dpL ps+1→(seL ps=true→seL ps' = true)→Q true (.lst (pDs ps')) [.no,.no]) :
  z6l n [.fz (.lst (pDs ps)),.fz (.int x)] Q:=⟨ps,x,rfl,h1,h2,h⟩
theorem ok_ferry {f1 f2 f3 f4:Addr}{fd1 fd2 fd3 fd4:FuncData}(E__law_ferry:Ent K mg "_law_ferry" s__law_ferry ["_law_names_here","_law_draws_here","_law_many"] f fd) (T:Zs K mg) (E__law_pop:Ent K mg "_law_pop" s__law_pop ["_law_draws_here"] f1 fd1) (E__law_text:Ent K mg "_law_text" s__law_text ["_law_number"] f2 fd2) (E__law_plain:Ent K mg "_law_plain" s__law_plain ["_law_names_here","_law_draws_here","_law_deep"] f3 fd3) (E__law_starred:Ent K mg "_law_starred" s__law_starred ["_law_row","_law_number"] f4 fd4) :
  FnOk P w K mg base CX0 6 f fd ["_law_names_here","_law_draws_here","_law_many"] (spD R_ferry):=by
 have G__law_pop:FnOk P w K mg base CX0 1 f1 fd1 _ (spD R_pop):=ok_pop E__law_pop T
 have G__law_plain:FnOk P w K mg base CX0 5 f3 fd3 _ (spD (y4h 3)):=ok_plain E__law_plain T E__law_pop E__law_text 3
 have G__law_starred:FnOk P w K mg base CX0 4 f4 fd4 _ (spD (z6l 3)):=z9s E__law_starred T 3
 refine VL.Fun.dok E__law_ferry.F sc__law_ferry (fun δ Qd h=>?_) (by decide) (fun cdv A outer s H E δ Qd hr h=>?_)
 ·obtain ⟨_,_,_,rfl,_⟩:=h;rfl
 ·obtain ⟨zs,ns,m,rfl,hm0,hm6,hz,ok,q⟩:=h
  have hu:=z4f hr
  refine ⟨_,(z0e (z1d (i:=3) sc__law_ferry.nd rfl (Or.inl rfl) (z1c z0g))
   (z0e (z2t PassesOwn.never rfl (z2q rfl T.z_range (z0a (dv 2) z0g)) (z1i (i:=4) sc__law_ferry.nd rfl (Or.inl rfl)) (z0e (z1d (i:=5) sc__law_ferry.nd rfl (Or.inl rfl) (z3e (i:=1) G__law_pop (hr.mono (by decide)) rfl E__law_pop.g E__law_pop.F.kp E__law_pop.b z0w (da_o (pv 1) z6i)))
   (z0e (z1d (i:=6) sc__law_ferry.nd rfl (Or.inl rfl) (z3e (i:=1) G__law_plain (hr.mono (by decide)) rfl E__law_plain.g E__law_plain.F.kp E__law_plain.b z0w (da_v (dv 0) (da_o (pv 1) (da_v z0k z6i)))))
   (z0e (z2e (z1k z4v z1w (z0s z1p z1r (dv 5) z0k) z0k (z0p _)) (z0i (z1d (i:=6) sc__law_ferry.nd rfl (Or.inl rfl) (z1c z0g))) z1a)
   (z0e (z2e (z1k os_ne op_ne (z0s z1p z1r (dv 5) z0k) z0k (z0p _)) (z0i (z1d (i:=6) sc__law_ferry.nd rfl (Or.inl rfl) (z0v G__law_starred (hr.mono (by decide)) rfl E__law_starred.g E__law_starred.F.kp E__law_starred.b z0w (z0a (dv 6) (z0a (z0s z2h z1s (dv 5) z0k) z0g))))) z1a)
   (z0i (z3q (y1z z3o PySem.F.slot_list_append PySem.F.type_list_append z1v (pv 3) (z0a (z3a (z0a (z0y z2u z2l (pv 0) (z0s z1p z1r (z0s z3l z3k (z0s z2h z1s (dv 5) z0k) (z0s z7k z7h (dv 4) z0k)) (z2g z3r z1h rfl T.z_len PySem.boot_len (pv 0))) (fun _ _=>rfl)) (z0a (dv 6) z0g))) z0g)))))))))
   (z0e (z1d (i:=7) sc__law_ferry.nd rfl (Or.inl rfl) (z1c z0g))
   (z0e (z2t PassesOwn.never rfl (z2i (dv 3)) (z8 (n:=2) rfl (z2k (z1i (i:=8) sc__law_ferry.nd rfl (Or.inl rfl)) (z2k (z1i (i:=6) sc__law_ferry.nd rfl (Or.inl rfl)) z5z))) (z0i (z2e (z1k z6f z3y (dv 8) (de_compV ["_law_one","_law_other"] ["_law_names_here","_law_draws_here","_law_many","_law_rules","_law_k","_law_number","_law_row","_law_found","_law_name_here"] rfl (show CScopeG (z0c s__law_ferry) ["_law_names_here","_law_draws_here","_law_many","_law_rules","_law_k","_law_number","_law_row","_law_found","_law_name_here"] ["_law_one","_law_other"] _ _ from ⟨rfl,by decide +kernel,by decide +kernel,by decide +kernel,by decide +kernel⟩) (pv 7) (fun _ _ _ _ _=>(y5p (m:=2) rfl (z4k (z2j (i:=0) (by decide) (show List.Nodup (["_law_one","_law_other","_law_names_here","_law_draws_here","_law_many","_law_rules","_law_k","_law_number","_law_row","_law_found","_law_name_here"]:List Str) from by decide +kernel) rfl (Or.inl rfl)) (z4k (z2j (i:=1) (by decide) (show List.Nodup (["_law_one","_law_other","_law_names_here","_law_draws_here","_law_many","_law_rules","_law_k","_law_number","_law_row","_law_found","_law_name_here"]:List Str) from by decide +kernel) rfl (Or.inl rfl)) y1g)))) (fun _ _ _ _ _=>z7i) (fun _ _ _ _ _=>(dv 0))) rfl) (z0i (z3q (y1z z3o PySem.F.slot_list_append PySem.F.type_list_append z1v (pv 7) (z0a (z3a (z0a (dv 8) (z0a (dv 6) z0g))) z0g)))) z1a)))
   (z0i (z0z (dm 7))))))),?_⟩
  have sz:=z0u
  walk_at "vd"
  refine ⟨by omega,by omega,by omega,y4t [4,5,6] (fun i δ=>∃ (ms:List Int) (rs:List (Str × List Part)),rs.length=i∧(∀ r∈rs,RuleOk r)∧δ=[.fz (.lst (zs.map .str)),.ob true (.lst (ms.map .int)),.fz (.int m),.ob false (.lst (rs.map z0x)),.no,.no,.no,.no,.no]) ⟨ns,[],rfl,fun r h=>(by cases h),rfl⟩ ?_ ?_⟩
  ·rintro i δ hi ⟨ms,rs,hl,hr',rfl⟩
   walk_at "vd"
   intro x ms1
   refine e_plain 2 rfl (by decide) hz ok fun ps ms2 hps=>?_
   obtain ⟨p1,p2,p3⟩:=PlOk.all 2 ps hps
   simp only [szP] at p1
   have hl8:((List.map D.str zs).length:Int)=8:=by simp [hz]
   walk_at "vd"
   have step:∀ qs:List Part,z0q qs≤40→stL qs≤1→dpL qs≤3→seL qs=true→CMul (i:Int) 7∧0 < ((List.map D.str zs).length:Int)∧∃ d,atI (List.map D.str zs) ((x / 4+(i:Int) * 7) % ((List.map D.str zs).length:Int))=some d∧2≤sizeLine∧(List.map z0x rs).length < sizeLine ∧
     ∃ (ms_1:List Int) (rs_1:List (Str × List Part)),rs_1.length=i+1∧(∀ r∈rs_1,RuleOk r)∧([.fz (.lst (zs.map .str)),.ob true (.lst (ms2.map .int)),.fz (.int m),.ob false (.lst (List.map z0x rs ++ [D.tup [d,D.lst (pDs qs)]])),.no,.no,.no,.no,.no]:List VL.Slot)=[.fz (.lst (zs.map .str)),.ob true (.lst (ms_1.map .int)),.fz (.int m),.ob false (.lst (List.map z0x rs_1)),.no,.no,.no,.no,.no]:=fun qs s1 s2 s3 s4=>by
    obtain ⟨d,hd1,e⟩:=z5s (xs:=List.map D.str zs) (i:=(x / 4+(i:Int) * 7) % ((List.map D.str zs).length:Int)) (z3d (by omega)) (z3c (by omega))
    obtain ⟨nm,hnm,rfl⟩:=List.mem_map.mp hd1
    refine ⟨.inl ⟨by omega,by omega⟩,by omega,_,e,by omega,by simp;omega,ms2,rs ++ [(nm,qs)],by simp [hl],fun r hr2=>?_,by simp [z0x]⟩
    rcases List.mem_append.mp hr2 with h|h
    ·exact hr' r h
    ·have e:r=(nm,qs):=by simpa using h
     subst e
     exact ⟨ok nm hnm,s1,s2,s3,s4⟩
   refine ⟨by decide,ite2 (fun _=>⟨by omega,by decide,ite2 (fun _=>⟨⟨by decide,by decide⟩,z4x (ps:=[]) (by simp [dpL]) (by simp [z0q]) fun qs' z1 z2 z3 z4=>?_⟩) fun _=>⟨⟨by decide,by decide⟩,step [] (by simp [z0q]) (by simp [stL]) (by simp [dpL]) rfl⟩⟩) fun _=>⟨by decide,ite2 (fun _=>⟨⟨by decide,by decide⟩,z4x (by omega) (by omega) fun qs' z1 z2 z3 z4=>?_⟩) fun _=>⟨⟨by decide,by decide⟩,step ps (by omega) (by omega) (by omega) (y3q ps p2)⟩⟩⟩
   ·have k1:z0q ([]:List Part)=0:=by simp [z0q]
    have k2:stL ([]:List Part)=0:=by simp [stL]
    have k3:dpL ([]:List Part)=0:=by simp [dpL]
    walk_at "vd"
    exact ⟨⟨by decide,by decide⟩,step qs' (by omega) (by omega) (by omega) (z4 (y3q [] k2))⟩
   ·walk_at "vd"
    exact ⟨⟨by decide,by decide⟩,step qs' (by omega) (by omega) (by omega) (z4 (y3q ps p2))⟩
  ·rintro δ ⟨ms,rs,hl,hr',rfl⟩
   walk_at "vd"
   refine ⟨by omega,z5w [8,6] (fun r δ=>∃ pre suf fs,rs=pre ++ suf∧r=suf.map z0x∧fs.length≤pre.length∧(fs.map (·.1)).Nodup∧(∀ r∈fs,r∈rs)∧δ=[.fz (.lst (zs.map .str)),.ob true (.lst (ms.map .int)),.fz (.int m),.fz (.lst (rs.map z0x)),.no,.no,.no,.ob false (.lst (fs.map z0x)),.no]) ⟨[],rs,[],rfl,rfl,Nat.le_refl _,List.nodup_nil,fun r h=>(by cases h),rfl⟩ ?_ ?_⟩
   ·rintro d r δ ⟨pre,suf,fs,e1,e2,h1,h2,h3,rfl⟩
    cases suf with
    |nil=>cases e2
    |cons r0 suf =>
     obtain ⟨nm,row⟩:=r0
     cases e2
     simp only [z0x]
     walk_at "vd"
     have hfl:fs.length≤6:=by
      have:=congrArg List.length e1
      simp at this;omega
     refine compV2 fstD (by simp;omega) rfl (fun d hd=>?_) (fun a b hab P hP=>?_) ?_
     ·obtain ⟨r1,_,rfl⟩:=List.mem_map.mp hd
      exact ⟨_,_,rfl⟩
     ·walk_at "vd"
      exact hP
     ·have e:List.map fstD (List.map z0x fs)=(fs.map (·.1)).map .str:=by simp [z0x,fstD]
      rw [e]
      walk_at "vd"
      refine ite2 (fun hn=>⟨by omega,by simp;omega,pre ++ [(nm,row)],suf,fs ++ [(nm,row)],by simp [e1],rfl,by simp;omega,?_,?_,by simp [z0x]⟩) fun _=>⟨pre ++ [(nm,row)],suf,fs,by simp [e1],rfl,by simp;omega,h2,h3,rfl⟩
      ·rw [List.map_append]
       exact nd_snoc h2 (by simpa using hn)
      ·intro r hr2
       rcases List.mem_append.mp hr2 with h|h
       ·exact h3 r h
       ·have:r=(nm,row):=by simpa using h
        rw [this,e1];simp
   ·rintro δ ⟨pre,suf,fs,e1,e2,h1,h2,h3,rfl⟩
    walk_at "vd"
    refine q fs ms ⟨?_,h2,fun r hr2=>hr' r (h3 r hr2)⟩
    have:=congrArg List.length e1
    simp at this;omega
end
open PySem L2 VL Pap
mutual
def z7o (inner:List Part):Part→List Part
 |.txt s=>[.txt s]
 |.tup n ps=>if n = "*" then inner else [.tup n (z8e inner ps)]
def z8e (inner:List Part):List Part→List Part
 | []=>[]
 |p::ps=>z7o inner p ++ z8e inner ps
end
mutual
theorem fill1_size (inner:List Part):∀ p:Part,z0q (z7o inner p)≤z1j p+st1 p * z0q inner
 |.txt s=>by simp [z7o,z0q,z1j]
 |.tup n ps=>by
  have:=z6z inner ps
  by_cases h:n = "*"
  ·simp only [z7o,h,if_true,st1,z1j,Nat.add_mul,Nat.one_mul];omega
  ·simp only [z7o,h,if_false,st1,z1j,z0q,Nat.zero_add];omega
theorem z6z (inner:List Part):∀ ps:List Part,z0q (z8e inner ps)≤z0q ps+stL ps * z0q inner
 | []=>by simp [z8e,z0q]
 |p::ps=>by
  have h1:=fill1_size inner p
  have h2:=z6z inner ps
  simp only [z8e,z3b,z0q,stL,Nat.add_mul]
  omega
end
mutual
theorem fill1_dp (inner:List Part):∀ p:Part,dpL (z7o inner p)≤dp1 p+dpL inner
 |.txt s=>by simp [z7o,dpL,dp1]
 |.tup n ps=>by
  have:=y1y inner ps
  by_cases h:n = "*"
  ·simp only [z7o,h,if_true,dp1];omega
  ·simp only [z7o,h,if_false,dp1,dpL];omega
theorem y1y (inner:List Part):∀ ps:List Part,dpL (z8e inner ps)≤dpL ps+dpL inner
 | []=>by simp [z8e,dpL]
 |p::ps=>by
  have h1:=fill1_dp inner p
  have h2:=y1y inner ps
  simp only [z8e,z3n,dpL]
  omega
end
def z4c (fs:List (Str × List Part)) (n:Str):Option (List Part):=(fs.find? fun r=>decide (r.1=n)).map (·.2)
mutual
def fer1 (fs:List (Str × List Part)):Part→List Part
 |.txt s=>[.txt s]
 |.tup n ps=>if n = "*" then [.tup "*" []] else match z4c fs n with|some row=>z8e (ferL fs ps) row|none=>[.tup n (ferL fs ps)]
def ferL (fs:List (Str × List Part)):List Part→List Part
 | []=>[]
 |p::ps=>fer1 fs p ++ ferL fs ps
end
theorem z6o {fs:List (Str × List Part)}{n:Str}{row:List Part}(h:z4c fs n=some row):∃ r∈fs,r.2=row∧r.1=n:=by
 unfold z4c at h
 obtain ⟨r,e,rfl⟩:=Option.map_eq_some_iff.mp h
 exact ⟨r,List.mem_of_find?_eq_some e,rfl,by simpa using List.find?_some e⟩
mutual
theorem fer1_size {fs:List (Str × List Part)}(ok:FerW fs):∀ p:Part,z0q (fer1 fs p)≤49 * z1j p∧dpL (fer1 fs p)≤9 * dp1 p
 |.txt s=>by simp [fer1,z0q,z1j,dpL,dp1]
 |.tup n ps=>by
  obtain ⟨h1,h2⟩:=z8c ok ps
  by_cases h:n = "*"
  ·simp only [fer1,h,if_true,z0q,z1j,dpL,dp1];omega
  ·simp only [fer1,h,if_false]
   cases e:z4c fs n with
   |none=>simp only [z0q,z1j,dpL,dp1];omega
   |some row =>
    obtain ⟨r,hr,rfl,_⟩:=z6o e
    obtain ⟨_,s1,s2,s3,_⟩:=ok.ok r hr
    have f1:=z6z (ferL fs ps) r.2
    have f2:=y1y (ferL fs ps) r.2
    have f3:stL r.2 * z0q (ferL fs ps)≤1 * z0q (ferL fs ps):=Nat.mul_le_mul_right _ s2
    simp only [z1j,dp1];omega
theorem z8c {fs:List (Str × List Part)}(ok:FerW fs):∀ ps:List Part,z0q (ferL fs ps)≤49 * z0q ps∧dpL (ferL fs ps)≤9 * dpL ps
 | []=>by simp [ferL,z0q,dpL]
 |p::ps=>by
  have h1:=fer1_size ok p
  have h2:=z8c ok ps
  simp only [ferL,z3b,z0q,z3n,dpL]
  omega
end
section
variable {P:Program}{w:World}{K:PySem.W.Frag}{mg:Str→Option Value}{base:Heap}{f:Addr}{fd:FuncData}
end
open PySem L2 VL Pap
section
variable {P:Program}{w:World}{K:PySem.W.Frag}{mg:Str→Option Value}{base:Heap}{f:Addr}{fd:FuncData}
def R_copy (n:Nat):RD:=fun δ Q=>∃ ps:List Part,δ=[.fz (.lst (pDs ps))]∧dpL ps < n∧z0q ps≤1000000∧Q true (.lst (pDs ps)) [.no]
theorem ok_copy (E__law_copy_row:Ent K mg "_law_copy_row" s__law_copy_row ["_law_row"] f fd) (T:Zs K mg):∀ n,FnOk P w K mg base CX0 (n+1) f fd ["_law_row"] (spD (R_copy n)):=by
 intro n
 induction n with
 |zero=>exact y1e fun δ Q h=>by obtain ⟨_,_,h,_⟩:=h;exact Nat.not_lt_zero _ h
 |succ n G__law_copy_row =>
 refine VL.Fun.dok E__law_copy_row.F z7l (fun δ Qd h=>?_) (by decide) (fun cdv A outer s H E δ Qd hr h=>?_)
 ·obtain ⟨_,rfl,_⟩:=h;rfl
 ·obtain ⟨ps,rfl,hdp,hs,q⟩:=h
  refine ⟨_,(z0i (z0z (z5v ["_law_part"] ["_law_row"] rfl (show CScopeG (z0c s__law_copy_row) ["_law_row"] ["_law_part"] _ _ from ⟨rfl,by decide +kernel,by decide +kernel,by decide +kernel,by decide +kernel⟩) (z2i (dv 0)) (fun _ _ _ _ _=>(z2j (i:=0) (by decide) (show List.Nodup (["_law_part","_law_row"]:List Str) from by decide +kernel) rfl (Or.inl rfl))) (fun _ _ _ _ _=>z7i) (fun _ _ _ _ _=>(de_if (z9n (z4r (z9q T.kit) (z2s (K:=K) rfl) rfl T.z_isinstance PyProof.Rows.boot_isinstance (z0a (dv 0) (z0a (de_ty rfl T.z_str PyProof.Rows.boot_str) z0g)))) (dv 0) (z3a (z0a (z0y z1l z1m (pv 0) z0k (fun _ _=>rfl)) (z0a (z0v G__law_copy_row (hr.mono (by omega)) rfl E__law_copy_row.g E__law_copy_row.F.kp E__law_copy_row.b z0w (z0a (z0y z1l z1m (pv 0) z0k (fun _ _=>rfl)) z0g)) z0g)))))))),?_⟩
  have sz:=z0u
  have hpl:=z5c ps
  have hle:=z2y ps
  walk_at "vd"
  refine comp1m id (by omega) (fun d hd P hP=>?_) (by rw [List.map_id];exact q)
  rw [z3m] at hd
  obtain ⟨p,hp,rfl⟩:=List.mem_map.mp hd
  have h1:=dp_mem hp
  have h2:=sz_mem hp
  cases p with
  |txt z =>
   simp only [pD] at hP ⊢
   walk_at "vd"
   exact hP
  |tup nm qs =>
   simp only [pD] at hP ⊢
   simp only [dp1] at h1
   simp only [z1j] at h2
   walk_at "vd"
   refine ⟨qs,rfl,by omega,by omega,?_⟩
   exact ⟨by omega,hP⟩
end
open PySem L2 VL Pap
mutual
def sD:D→Nat
 |.tup xs=>1+sDs xs
 |.lst xs=>sDs xs
 |.str _=>1
 |_=>0
def sDs:List D→Nat
 | []=>0
 |d::r=>sD d+sDs r
end
theorem y4i (xs ys:List D):sDs (xs ++ ys)=sDs xs+sDs ys:=by
 induction xs with
 |nil=>simp [sDs]
 |cons a r ih=>simp [sDs,ih];omega
theorem sDs_rev:∀ xs:List D,sDs xs.reverse=sDs xs
 | []=>rfl
 |a::r=>by rw [List.reverse_cons,y4i,sDs_rev r];simp [sDs];omega
def μ2 (δ:List VL.Slot):Nat:=match δ[2]? with|some (VL.Slot.ob _ (D.lst xs))=>sDs xs|_=>0
def starD:D→Bool
 |.tup (.str n::_)=>decide (n = "*")
 |_=>false
theorem y6o (p:Part):starD (pD p)=decide (z9a p = "*"):=by
 cases p with
 |txt z=>exact (show false=decide (("#":Str) = "*") by decide +kernel)
 |tup n ps=>rfl
section
variable {P:Program}{w:World}{K:PySem.W.Frag}{mg:Str→Option Value}{base:Heap}{f:Addr}{fd:FuncData}
def R_all:RD:=fun δ Q=>∃ ps:List Part,δ=[.fz (.lst (pDs ps))]∧z0q ps≤1000000∧Q true (.lst ((z5y ps).map pD)) [.no]
theorem ok_all (E_all_parts:Ent K mg "all_parts" s_all_parts ["row"] f fd) (T:Zs K mg):FnOk P w K mg base CX0 1 f fd ["row"] (spD R_all):=by
 refine VL.Fun.dok E_all_parts.F sc_all_parts (fun δ Qd h=>?_) (by decide) (fun cdv A outer s H E δ Qd hr h=>?_)
 ·obtain ⟨_,rfl,_⟩:=h;rfl
 ·obtain ⟨ps,rfl,hs,q⟩:=h
  refine ⟨_,(z0e (z1d (i:=1) sc_all_parts.nd rfl (Or.inl rfl) (z1c z0g))
   (z0e (z1d (i:=2) sc_all_parts.nd rfl (Or.inl rfl) (z9r rfl rfl T.z_list rfl T.z_reversed (dv 0)))
   (z0e (ds_while PassesOwn.never (y3u (pv 2)) (z0e (z1d (i:=3) sc_all_parts.nd rfl (Or.inl rfl) (de_mt0 ms_pop PySem.F.slot_list_pop PySem.F.type_list_pop y6h (pv 2)))
   (z0e (z3q (y1z z3o PySem.F.slot_list_append PySem.F.type_list_append z1v (pv 1) (z0a (dv 3) z0g)))
   (z0i (z2e (y2j (z9n (z4r (z9q T.kit) (z2s (K:=K) rfl) rfl T.z_isinstance PyProof.Rows.boot_isinstance (z0a (dv 3) (z0a (de_ty rfl T.z_str PyProof.Rows.boot_str) z0g))))) (z0i (z3q (y1z ms_extend PySem.F.slot_list_extend PySem.F.type_list_extend z6q (pv 2) (z0a (z9r rfl rfl T.z_list rfl T.z_reversed (z0y z1l z1m (pv 3) z0k (fun _ _=>rfl))) z0g)))) z1a)))))
   (z0i (z0z (dm 1)))))),?_⟩
  have sz:=z0u
  walk_at "vd"
  have hfl:=z4u ps
  refine ⟨by omega,[3],fun δ=>∃ acc stack,acc ++ z5y stack=z5y ps∧δ=[.fz (.lst (pDs ps)),.ob false (.lst (acc.map pD)),.ob false (.lst (stack.reverse.map pD)),.no],μ2,⟨[],ps,rfl,by simp [fgt,z3m]⟩,?_⟩
  rintro δ ⟨acc,stack,e,rfl⟩
  have el:=congrArg List.length e
  rw [List.length_append,z4u,hfl] at el
  walk_at "vd"
  cases stack with
  |nil =>
   refine ite2 (fun h=>by simp at h) fun _=>?_
   rw [show z5y []=[] from rfl,List.append_nil] at e
   rw [e]
   exact q
  |cons p st =>
   have e1:(p::st).reverse.map pD=st.reverse.map pD ++ [pD p]:=by simp
   rw [e1]
   refine ite2 (fun _=>?_) (fun h=>by simp at h)
   refine ⟨pD p,by simp,?_⟩
   rw [List.dropLast_concat]
   simp only [z5y,z0q] at e el
   have hl1:(List.map pD acc).length=acc.length:=by simp
   have hl2:=z2y st
   refine ⟨by omega,?_⟩
   cases p with
   |txt z =>
    simp only [pD]
    walk_at "vd"
    refine ⟨⟨acc ++ [.txt z],st,by simpa [y2y] using e,by simp [pD]⟩,?_⟩
    simp only [μ2,List.getElem?_cons_succ,List.getElem?_cons_zero,y4i,sDs,sD];omega
   |tup nm qs =>
    simp only [pD]
    walk_at "vd"
    have hl3:=z5c qs
    have hl4:=z2y qs
    simp only [z1j] at el
    refine ⟨by simp;omega,⟨acc ++ [.tup nm qs],qs ++ st,by simpa [y2y,y2u] using e,by simp [pD,z3m]⟩,?_⟩
    simp only [μ2,List.getElem?_cons_succ,List.getElem?_cons_zero,y4i,sDs,sD,sDs_rev];omega
def y5e:RD:=fun δ Q=>∃ ps:List Part,δ=[.fz (.lst (pDs ps))]∧z0q ps≤1000000∧Q false (.int (stL ps)) [.no]
theorem filter_pD (ps:List Part):((ps.map pD).filter starD).length=(ps.filter fun q=>decide (z9a q = "*")).length:=by
 rw [List.filter_map,List.length_map]
 congr 2
 funext p
 exact y6o p
theorem y6f {f1 f2:Addr}{fd1 fd2:FuncData}(E_stars:Ent K mg "stars" s_stars ["row"] f fd) (T:Zs K mg) (E_all_parts:Ent K mg "all_parts" s_all_parts ["row"] f1 fd1) (E_sign_of:Ent K mg "sign_of" s_sign_of ["part"] f2 fd2):FnOk P w K mg base CX0 2 f fd ["row"] (spD y5e):=by
 have G_all_parts:FnOk P w K mg base CX0 1 f1 fd1 _ (spD R_all):=ok_all E_all_parts T
 have G_sign_of:FnOk P w K mg base CX0 1 f2 fd2 _ (spD R_sign):=ok_sign E_sign_of T
 refine VL.Fun.dok E_stars.F sc_stars (fun δ Qd h=>?_) (by decide) (fun cdv A outer s H E δ Qd hr h=>?_)
 ·obtain ⟨_,rfl,_⟩:=h;rfl
 ·obtain ⟨ps,rfl,hs,q⟩:=h
  refine ⟨_,(z0i (z0z (z4r z3r z1h rfl T.z_len PySem.boot_len (z0a (z5v ["part"] ["row"] rfl (show CScopeG (z0c s_stars) ["row"] ["part"] _ _ from ⟨rfl,by decide +kernel,by decide +kernel,by decide +kernel,by decide +kernel⟩) (z2i (z0v G_all_parts (hr.mono (by decide)) rfl E_all_parts.g E_all_parts.F.kp E_all_parts.b z0w (z0a (dv 0) z0g))) (fun _ _ _ _ _=>(z2j (i:=0) (by decide) (show List.Nodup (["part","row"]:List Str) from by decide +kernel) rfl (Or.inl rfl))) (fun _ _ _ _ _=>(df_one (z1k z4v z1w (z0v G_sign_of (hr.mono (by decide)) rfl E_sign_of.g E_sign_of.F.kp E_sign_of.b z0w (z0a (dv 0) z0g)) (de_gS rfl T.g_STAR) (z0p _)))) (fun _ _ _ _ _=>(dv 0))) z0g)))),?_⟩
  have sz:=z0u
  have hfl:=z4u ps
  walk_at "vd"
  refine ⟨ps,rfl,hs,?_⟩
  walk_at "vd"
  refine comp1f starD id (by simp;omega) (fun d hd P hP=>?_) (fun d hd hc P hP=>?_) ?_
  ·obtain ⟨p,hp,rfl⟩:=List.mem_map.mp hd
   rw [y6o] at hP
   walk_at "vd"
   refine ⟨p,rfl,?_⟩
   walk_at "vd"
   exact hP
  ·walk_at "vd"
   exact hP
  ·walk_at "vd"
   rw [List.map_id,filter_pD,z6v]
   exact q
def z3w:RD:=fun δ Q=>∃ fs:List (Str × List Part),δ=[.fz (.lst (fs.map z0x))]∧fs.length≤1000∧(fs.map (·.1)).Nodup∧(∀ r∈fs,z0q r.2≤1000000∧stL r.2≤1)∧Q false .non [.no]
def y4a (fs:List (Str × List Part)):List (Key × D):=fs.map fun r=>(Sum.inr r.1,.bl true)
theorem seen_none {fs:List (Str × List Part)}{n:Str}(h:n∉fs.map (·.1)):getS (y4a fs) n=none∧putS (y4a fs) n (.bl true)=y4a fs ++ [(Sum.inr n,.bl true)]:=by
 have h1:(y4a fs).any (fun kv=>decide (kv.1=Sum.inr n))=false:=by
  rw [List.any_eq_false]
  intro x hx hd
  obtain ⟨r,hr,rfl⟩:=List.mem_map.mp hx
  have e:r.1=n:=by simpa using hd
  exact h (List.mem_map.mpr ⟨r,hr,e⟩)
 refine ⟨?_,?_⟩
 ·unfold getS
  rw [List.find?_eq_none.mpr]
  ·rfl
  ·intro x hx hd
   exact absurd (List.any_eq_true.mpr ⟨x,hx,hd⟩) (by rw [h1];simp)
 ·unfold putS
  rw [h1];simp
theorem z5x {f1 f2 f3:Addr}{fd1 fd2 fd3:FuncData}(E_look_ferry:Ent K mg "look_ferry" s_look_ferry ["ferry"] f fd) (T:Zs K mg) (E_stars:Ent K mg "stars" s_stars ["row"] f1 fd1) (E_all_parts:Ent K mg "all_parts" s_all_parts ["row"] f2 fd2) (E_sign_of:Ent K mg "sign_of" s_sign_of ["part"] f3 fd3):FnOk P w K mg base CX0 3 f fd ["ferry"] (spD z3w):=by
 have G_stars:FnOk P w K mg base CX0 2 f1 fd1 _ (spD y5e):=y6f E_stars T E_all_parts E_sign_of
 refine VL.Fun.dok E_look_ferry.F sc_look_ferry (fun δ Qd h=>?_) (by decide) (fun cdv A outer s H E δ Qd hr h=>?_)
 ·obtain ⟨_,rfl,_⟩:=h;rfl
 ·obtain ⟨fs,rfl,hl,nd,hok,q⟩:=h
  have hu:=z4f hr
  refine ⟨_,(z0e (z1d (i:=1) sc_look_ferry.nd rfl (Or.inl rfl) z5i)
   (z0i (z2t PassesOwn.never rfl (z2i (dv 0)) (z8 (n:=2) rfl (z2k (z1i (i:=2) sc_look_ferry.nd rfl (Or.inl rfl)) (z2k (z1i (i:=3) sc_look_ferry.nd rfl (Or.inl rfl)) z5z))) (z0e (z2e (dt_dinV hu (dv 2) (pv 1)) (z0i z1u) z1a)
   (z0e (z2e (z1k os_gt op_gt (z0v G_stars (hr.mono (by decide)) rfl E_stars.g E_stars.F.kp E_stars.b z0w (z0a (dv 3) z0g)) z0k (z0p _)) (z0i z1u) z1a)
   (z0i (y1p hu (pv 1) (dv 2) z9b))))))),?_⟩
  have sz:=z0u
  walk_at "vd"
  refine z5w [2,3] (fun r δ=>∃ pre suf,fs=pre ++ suf∧r=suf.map z0x∧δ=[.fz (.lst (fs.map z0x)),.ob false (.dct (y4a pre)),.no,.no]) ⟨[],fs,rfl,rfl,rfl⟩ ?_ ?_
  ·rintro d r δ ⟨pre,suf,e1,e2,rfl⟩
   cases suf with
   |nil=>cases e2
   |cons r0 suf =>
    obtain ⟨nm,row⟩:=r0
    cases e2
    simp only [z0x]
    have hnd:=nd
    rw [e1,List.map_append,List.map_cons] at hnd
    have hnot:nm∉pre.map (·.1):=fun h=>(List.nodup_append.mp hnd).2.2 nm h nm List.mem_cons_self rfl
    obtain ⟨s1,s2⟩:=seen_none hnot
    obtain ⟨o1,o2⟩:=hok (nm,row) (by rw [e1];simp)
    have o3:stL row≤1:=o2
    have hpre:pre.length≤fs.length:=by rw [e1];simp
    walk_at "vd"
    rw [s1]
    walk_at "vd"
    refine ⟨row,rfl,o1,?_⟩
    walk_at "vd"
    refine ite2 (fun h=>by omega) fun _=>⟨by simp [y4a];omega,pre ++ [(nm,row)],suf,by simp [e1],rfl,?_⟩
    rw [s2];simp [y4a]
  ·rintro δ ⟨pre,suf,e1,e2,rfl⟩
   walk_at "vd"
   exact q
end
open PySem L2 VL Pap
section
variable {P:Program}{w:World}{K:PySem.W.Frag}{mg:Str→Option Value}{base:Heap}{f:Addr}{fd:FuncData}
def R_draws (K:PySem.W.Frag):RD:=fun δ Q=>∃ (ns:List Int) (t m:Nat),δ=[.sc K ns,.fz (.int t),.fz (.int m)]∧t≤1000∧m≤1000∧∀ ms:List Int,Q true (.lst (ms.map .int)) [.no,.no,.no]
theorem y0x {ns:List Int}{i:Int}(h0:0≤i) (h1:i < ns.length):∃ x,atI (ns.map D.int) i=some (.int x):=by
 obtain ⟨d,hd,e⟩:=z5s (xs:=ns.map D.int) h0 (by simpa using h1)
 obtain ⟨x,_,rfl⟩:=List.mem_map.mp hd
 exact ⟨x,e⟩
theorem ixN_of {n:Nat}{i:Int}(h0:0≤i) (h1:i < n):∃ j,ixN n i=some j∧j < n:=by
 unfold ixN
 rw [if_pos h0,if_pos h1]
 exact ⟨_,rfl,by omega⟩
theorem ok_draws (E__law_draws:Ent K mg "_law_draws" s__law_draws ["_law_script","_law_turn","_law_many"] f fd) (T:Zs K mg):FnOk P w K mg base CX0 1 f fd ["_law_script","_law_turn","_law_many"] (spD (R_draws K)):=by
 refine VL.Fun.dok E__law_draws.F sc__law_draws (fun δ Qd h=>?_) (by decide) (fun cdv A outer s H E δ Qd hr h=>?_)
 ·obtain ⟨_,_,_,rfl,_⟩:=h;rfl
 ·obtain ⟨ns,t,m,rfl,ht,hm,q⟩:=h
  refine ⟨_,(z0e (z1d (i:=3) sc__law_draws.nd rfl (Or.inl rfl) (z0s z4s z3j (de_sliceC (K:=K) rfl (pv 0) z3h (z3f z0k)) (z1c (z0a (dv 1) z0g))))
   (z0e (z1d (i:=4) sc__law_draws.nd rfl (Or.inl rfl) (z1c z0g))
   (z0e (z2e (z1k z4v z1w (z0s z1p z1r (z0s z2h z1s (z0y z2u z2l (pv 3) z0k (fun _ _=>rfl)) z0k) z0k) z0k (z0p _)) (z0e (y4k (j:=5) ["_law_cell"] ["_law_script","_law_turn","_law_many","_law_cells","_law_found","_law_left","_law_k","_law_at","_law_place","_law_number"] sc__law_draws.nd rfl rfl rfl (show CScopeG (z0c s__law_draws) ["_law_script","_law_turn","_law_many","_law_cells","_law_found","_law_left","_law_k","_law_at","_law_place","_law_number"] ["_law_cell"] _ _ from ⟨rfl,by decide +kernel,by decide +kernel,by decide +kernel,by decide +kernel⟩) (z2i (dv 3)) (fun _ _ _ _ _=>(z2j (i:=0) (by decide) (show List.Nodup (["_law_cell","_law_script","_law_turn","_law_many","_law_cells","_law_found","_law_left","_law_k","_law_at","_law_place","_law_number"]:List Str) from by decide +kernel) rfl (Or.inl rfl))) (fun _ _ _ _ _=>z7i) (fun _ _ _ _ _=>(z0s z2h z1s (dv 0) z0k)))
   (z0e (z2t PassesOwn.never rfl (z2q rfl T.z_range (z0a (z0s z3l z3k (dv 1) (dv 2)) z0g)) (z1i (i:=6) sc__law_draws.nd rfl (Or.inl rfl)) (z0e (z1d (i:=7) sc__law_draws.nd rfl (Or.inl rfl) (z0s z1p z1r (dv 6) (z2g z3r z1h rfl T.z_len PySem.boot_len (pv 5))))
   (z0e (z2e (z1k os_ge op_ge (dv 6) (dv 1) (z0p _)) (z0i (z3q (y1z z3o PySem.F.slot_list_append PySem.F.type_list_append z1v (pv 4) (z0a (z0s z1p z1r (z0y z2u z2l (pv 5) (dv 7) (fun _ _=>rfl)) z0k) z0g)))) z1a)
   (z0i (ds_setL (pv 5) (dv 7) (z0s z2h z1s (z0y z2u z2l (pv 5) (dv 7) (fun _ _=>rfl)) z0k))))))
   (z0i (z0z (dm 4))))) z1a)
   (z0e (z2t PassesOwn.never rfl (z2q rfl T.z_range (z0a (dv 2) z0g)) (z1i (i:=6) sc__law_draws.nd rfl (Or.inl rfl)) (z0e (z1d (i:=8) sc__law_draws.nd rfl (Or.inl rfl) (z0s z3l z3k (z0s z7k z7h (z0s z7k z7h (z0s z3l z3k (dv 6) (dv 1)) (z0s z3l z3k (dv 6) (dv 1))) z0k) z0k))
   (z0e (z1d (i:=9) sc__law_draws.nd rfl (Or.inl rfl) (z0s z1p z1r (z0s z7k z7h (z0s z3l z3k (z0s z1p z1r (z0y z2u z2l (pv 3) (z0s z1p z1r (dv 6) (z2g z3r z1h rfl T.z_len PySem.boot_len (pv 3))) (fun _ _=>rfl)) z0k) (dv 8)) z0k) z0k))
   (z0e (z1d (i:=9) sc__law_draws.nd rfl (Or.inl rfl) (z0s z1p z1r (z0s z3l z3k (z0s z7k z7h (dv 9) (dv 9)) (z0s z7k z7h z0k (dv 6))) z0k))
   (z0i (z3q (y1z z3o PySem.F.slot_list_append PySem.F.type_list_append z1v (pv 4) (z0a (z0s z1p z1r (z0s z7k z7h (dv 9) (dv 9)) z0k) z0g))))))))
   (z0i (z0z (dm 4))))))),?_⟩
  have sz:=z0u
  have ec:∃ cs:List Int,cutD (ns.map .int) none (some 63)=cs.map .int∧cs.length≤63:=by
   refine ⟨ns.take 63,?_,by rw [List.length_take];omega⟩
   rw [show (63:Int)=((63:Nat):Int) from rfl,z4j,List.map_take]
  obtain ⟨cs0,ec,hcl⟩:=ec
  walk_at "vd"
  rw [ec]
  have e2:List.map D.int cs0 ++ [D.int t]=(cs0 ++ [(t:Int)]).map .int:=by simp
  rw [e2]
  generalize hcs:cs0 ++ [(t:Int)]=cs
  have hcs1:0 < cs.length:=by rw [← hcs];simp
  have hcs2:cs.length≤64:=by rw [← hcs];simp;omega
  obtain ⟨c0,e0⟩:=y0x (ns:=cs) (i:=0) (by decide) (by omega)
  refine ⟨by omega,by simp;omega,by omega,_,e0,?_⟩
  walk_at "vd"
  refine ⟨⟨by decide,by decide⟩,by decide,ite2 (fun _=>?_) fun _=>?_⟩
  ·refine comp1 (fun _ y=>∃ x:Int,y = .int x) (by simp;omega) (fun d hd P hP=>?_) fun ys hys=>?_
   ·obtain ⟨x,_,rfl⟩:=List.mem_map.mp hd
    walk_at "vd"
    exact ⟨⟨by decide,by decide⟩,hP _ ⟨_,rfl⟩⟩
   ·obtain ⟨ls,rfl,hls⟩:∃ ls:List Int,ys=ls.map .int∧ls.length=cs.length:=by
     have:∀ {ds ys:List D},All2 (fun _ y=>∃ x:Int,y = .int x) ds ys→∃ ls:List Int,ys=ls.map .int∧ls.length=ds.length:=by
      intro ds ys h
      induction h with
      |nil=>exact ⟨[],rfl,rfl⟩
      |cons g _ ih =>
       obtain ⟨x,rfl⟩:=g
       obtain ⟨ls,rfl,hl⟩:=ih
       exact ⟨x::ls,rfl,by simp [hl]⟩
     obtain ⟨ls,h1,h2⟩:=this hys
     exact ⟨ls,h1,by simpa using h2⟩
    walk_at "vd"
    refine ⟨by omega,by omega,y4t [6,7] (fun i δ=>∃ (fs ls:List Int),fs.length≤i∧ls.length=cs.length∧δ=[.sc K ns,.fz (.int t),.fz (.int m),.fz (.lst (cs.map .int)),.ob false (.lst (fs.map .int)),.ob false (.lst (ls.map .int)),.no,.no,.no,.no]) ⟨[],ls,Nat.le_refl _,hls,rfl⟩ ?_ ?_⟩
    ·rintro i δ hi ⟨fs,ls,hf,hl,rfl⟩
     walk_at "vd"
     have hL:((List.map D.int ls).length:Int)=cs.length:=by simp [hl]
     rw [hL]
     have h0:0 < (cs.length:Int):=by omega
     have a1:=z3d (a:=(i:Int)) h0
     have a2:=z3c (a:=(i:Int)) h0
     generalize (i:Int) % (cs.length:Int)=k at a1 a2 ⊢
     obtain ⟨x,ex⟩:=y0x (ns:=ls) a1 (by omega)
     obtain ⟨j,ej,hj⟩:=ixN_of (n:=(List.map D.int ls).length) a1 (by omega)
     have es:∀ v:Int,(List.map D.int ls).set j (.int v)=(ls.set j v).map .int:=fun v=>by simp
     refine ⟨h0,ite2 (fun _=>⟨_,ex,?_⟩) fun _=>⟨_,ex,?_⟩⟩
     ·walk_at "vd"
      refine ⟨by decide,by simp;omega,_,ex,?_⟩
      walk_at "vd"
      refine ⟨⟨by decide,by decide⟩,j,ej,fs ++ [x % 2147483587],ls.set j (x / 2147483587),by simp;omega,by simp [hl],?_⟩
      rw [es];simp
     ·walk_at "vd"
      refine ⟨⟨by decide,by decide⟩,j,ej,fs,ls.set j (x / 2147483587),by omega,by simp [hl],?_⟩
      rw [es]
    ·rintro δ ⟨fs,ls,hf,hl,rfl⟩
     walk_at "vd"
     exact q fs
  ·refine ⟨by omega,by omega,y4t [6,8,9] (fun i δ=>∃ fs:List Int,fs.length≤i∧δ=[.sc K ns,.fz (.int t),.fz (.int m),.ob false (.lst (cs.map .int)),.ob false (.lst (fs.map .int)),.no,.no,.no,.no,.no]) ⟨[],Nat.le_refl _,rfl⟩ ?_ ?_⟩
   ·rintro i δ hi ⟨fs,hf,rfl⟩
    walk_at "vd"
    have hL:((List.map D.int cs).length:Int)=cs.length:=by simp
    rw [hL]
    have h0:0 < (cs.length:Int):=by omega
    obtain ⟨x,ex⟩:=y0x (ns:=cs) (z3d (a:=(i:Int)) h0) (z3c h0)
    refine ⟨.inl ⟨by omega,by omega⟩,.inr ⟨by decide,by decide⟩,h0,_,ex,?_⟩
    walk_at "vd"
    have b1:=z3d (a:=(x % 2147483647+(((i:Int)+t) * (i+t) * 7919+104729)) * 48271) (b:=2147483647) (by decide)
    have b2:=z3c (a:=(x % 2147483647+(((i:Int)+t) * (i+t) * 7919+104729)) * 48271) (b:=2147483647) (by decide)
    generalize (x % 2147483647+(((i:Int)+t) * (i+t) * 7919+104729)) * 48271 % 2147483647=y at b1 b2 ⊢
    have b3:=z3d (a:=y * y+69621 * (i:Int)) (b:=2147483629) (by decide)
    have b4:=z3c (a:=y * y+69621 * (i:Int)) (b:=2147483629) (by decide)
    generalize (y * y+69621 * (i:Int)) % 2147483629=z at b3 b4 ⊢
    refine ⟨by decide,.inr ⟨by decide,by decide⟩,by decide,.inl ⟨by omega,by omega⟩,.inl ⟨by decide,by decide⟩,by decide,.inl ⟨by omega,by omega⟩,by decide,by simp;omega,fs ++ [z * z % 2147483587],by simp;omega,by simp⟩
   ·rintro δ ⟨fs,hf,rfl⟩
    walk_at "vd"
    exact q fs
end
open PySem L2 VL Pap
local macro_rules|`(tactic| walk_at "rd")=>do
 let v←("L2.start tSeq y1a tAsg z7n tVar tC tOp rI0 y2n tIfS tRet z9k z7m tCB z6e tNil tNot tAnd tB tTup tLst y4e y4f tRev tYes rEq scal z4e z4q rCat gTup y5b gNil tLM tDIn z4w y4w y5o z8g tB z3t z0d and_imp ne_eq HO.lst.injEq HO.tup.injEq z9y y0h Int.toNat_natCast z9z List.map_cons List.map_nil List.length_cons List.length_nil Nat.reduceAdd Nat.reduceSub List.replicate_succ List.replicate_zero List.cons_append List.nil_append List.append_nil List.getElem?_cons_zero List.getElem?_cons_succ List.set_cons_zero List.set_cons_succ Option.some.injEq V.int.injEq V.str.injEq V.ref.injEq V.bl.injEq V.ty.injEq List.cons.injEq exists_eq_left' exists_eq_left exists_eq' and_true true_and and_assoc exists_and_left reduceCtorEq false_and exists_false false_or or_false decide_eq_true_eq if_true if_false Bool.true_eq_false Bool.false_eq_true Bool.not_true Bool.not_false Bool.not_eq_eq_eq_not".splitOn " ").mapM fun n=>`(Lean.Parser.Tactic.simpLemma| $(Lean.mkIdent n.toName):term)
 `(tactic| simp only [$(v.toArray),*])
def StarV (F:Hp) (v:V):Option (List Part)→Prop
 |none=>v = .non
 |some qs=>∃ s vs,v = .ref s∧F s=some (.lst vs)∧Reps F (pDs qs) vs
def JobAt (F H:Hp) (p:Part) (tg:Addr) (so:Option (List Part)) (t:Addr):Prop:=∃ v sv,H t=some (.tup [v,.ref tg,sv])∧Rep F (pD p) v∧StarV F sv so
section
variable {P:Program}{w:World}{K:PySem.W.Frag}{mg:Str→Option Value}{base:Heap}{f:Addr}{fd:FuncData}
def y0v:Sp:=fun vs H Q _=>∃ (a tg:Addr) (sv:V) (xs:List V),vs=[.ref a,.ref tg,sv]∧H a=some (.lst xs)∧xs.length≤1000000 ∧
 ∀ (l:Addr) (ts:List Addr) (H':Hp),H l=none→Same H H'→H' l=some (.lst (ts.map V.ref))→All2 (fun v t=>H' t=some (.tup [v,.ref tg,sv])∧H t=none) xs.reverse ts→Q (.ref l) H'
theorem hu1 {n:Nat}(h:n+100 < cLine):n+1 < cLine:=by omega
theorem z2r {α β:Type}{G G':α→β→Prop}{as:List α}{bs:List β}(h:All2 G as bs) (k:∀ a b,G a b→G' a b):All2 G' as bs:=by
 induction h with
 |nil=>exact .nil
 |cons g _ ih=>exact .cons (k _ _ g) ih
theorem ok_jobs (E_jobs:Ent K mg "jobs" s_jobs ["parts","target","starred"] f fd) (T:Zs K mg):FnOk P w K mg base CX0 1 f fd ["parts","target","starred"] y0v:=by
 refine E_jobs.F.ok sc_jobs (fun vs H Q E h=>?_) (fun cdv A outer s H vs Q E hr h=>?_)
 ·obtain ⟨_,_,_,_,rfl,_⟩:=h;rfl
 ·obtain ⟨a,tg,sv,xs,rfl,ha,hl,q⟩:=h
  refine ⟨_,(z0m (z1q (z7s ["part"] ["parts","target","starred"] rfl (fun _ _ _ _ _=>(z4b (i:=0) (show List.Nodup (["part","parts","target","starred"]:List Str) from by decide +kernel) rfl (Or.inl rfl))) (show CScopeG (z0c s_jobs) ["parts","target","starred"] ["part"] _ _ from ⟨rfl,by decide +kernel,by decide +kernel,by decide +kernel,by decide +kernel⟩) (pi_rev rfl T.z_reversed (pv 0)) (fun _ _ _ _ _=>pf_nil) (fun _ _ _ _ _=>(z3i (z0b (pv 0) (z0b (pv 2) (z0b (pv 3) z0j)))))))),?_⟩
  have sz:=z0u
  refine ⟨_,rfl,a,rfl,xs,ha,fun D hD=>?_⟩
  refine ⟨fun i m ys H'=>m=xs.length - i∧i≤xs.length∧Same H H'∧H' D=some (.lst ys)∧∃ ts:List Addr,ys=ts.map V.ref∧All2 (fun v t=>H' t=some (.tup [v,.ref tg,sv])∧H t=none) (xs.reverse.take i) ts,⟨xs.length,by simp,Nat.zero_le _,Same.of_new hD,z0d,[],rfl,.nil⟩,?_⟩
  rintro i m ys H1 ⟨rfl,hi,s1,hy,ts,rfl,hts⟩
  refine ⟨hy,?_⟩
  have haH:H1 a=some (.lst xs):=s1 _ _ ha
  have hlen:=hts.len
  by_cases hlt:i < xs.length
  ·have hlr:i < xs.reverse.length:=by simpa using hlt
   have ex:xs[xs.length - 1 - i]? = some xs.reverse[i]:=by
    rw [← List.getElem?_reverse hlt];exact List.getElem?_eq_getElem hlr
   refine .inr ⟨⟨xs,_,haH,hlt,ex⟩,fun ys' H'=>i+1≤xs.length∧Same H H'∧H' D=some (.lst ys')∧∃ ts:List Addr,ys' = ts.map V.ref∧All2 (fun v t=>H' t=some (.tup [v,.ref tg,sv])∧H t=none) (xs.reverse.take (i+1)) ts,fun ys' H' hN=>⟨xs.length - (i+1),by omega,rfl,hN⟩,fun v H2 y τ hτ=>?_⟩
   obtain ⟨e,y⟩:=y
   subst e
   have ev:=y xs haH
   rw [ex] at ev
   cases ev
   match τ,hτ with
   | [o],_ =>
    refine ⟨⟨[some _],rfl,rfl⟩,?_⟩
    unfold tYes
    dsimp only
    rw [if_pos rfl]
    refine ⟨_,rfl,_,rfl,_,rfl,by show 3≤sizeLine;omega,fun p hp=>?_⟩
    have nDp:D≠p:=z0l hy hp
    refine ⟨by rw [z0f nDp];exact hy,?_,hlt,?_,z0d,ts ++ [p],by simp,?_⟩
    ·have:ts.length≤xs.length:=by rw [← hlen,List.length_take];omega
     simp;omega
    ·exact ((s1.upd (s1.free hp)).upd hD)
    ·rw [List.take_add_one,List.getElem?_eq_getElem hlr]
     refine (z2r hts fun v t ht=>?_).snoc ?_
     ·obtain ⟨h1,h2⟩:=ht
      have n1:t≠D:=z6c h1 hy (by intro z;cases z)
      have n2:t≠p:=z0l h1 hp
      exact ⟨by rw [z0f n1,z0f n2];exact h1,h2⟩
     ·exact ⟨by rw [z0f (Ne.symm nDp),z0d],s1.free hp⟩
  ·have e:i=xs.length:=by omega
   subst e
   refine .inl ⟨rfl,?_⟩
   rw [List.take_of_length_le (by simp)] at hts
   exact q D ts H1 hD s1 hy hts
theorem DGet.rO {H:Hp}{a:Addr}{kvs:List (Key × V)}{k:Str}(e:Rd H a (.dK kvs)):DGet H a (.str k) (valV kvs (Sum.inr k)):=.inl ⟨kvs,Sum.inr k,e,rfl,rfl⟩
theorem DGet.rS {H:Hp}{a:Addr}{kvs:List (Key × V)}{k:Str}{v:V}(e:Rd H a (.dK kvs)) (h:valV kvs (Sum.inr k)=some v):DGet H a (.str k) (some v):=by rw [← h];exact DGet.rO e
def z5e (fs:List (Str × List Part)):List (Key × D):=fs.map fun r=>(Sum.inr r.1,.lst (pDs r.2))
theorem z6x:∀ (fs:List (Str × List Part)) (n:Str),getS (z5e fs) n=(z4c fs n).map fun row=>.lst (pDs row)
 | [],n=>rfl
 |r::fs,n=>by
  have ih:=z6x fs n
  unfold getS z4c z5e at ih ⊢
  rw [List.map_cons,List.find?_cons,List.find?_cons]
  by_cases h:r.1=n
  ·simp [h]
  ·simp only [Sum.inr.injEq,h,decide_false]
   exact ih
inductive Stp where
 |text (z:Str)
 |jobs (row:List Part) (so:Option (List Part))
 |opens (n:Str) (ps:List Part)
def z3s (fs:List (Str × List Part)):Part→Option (List Part)→Stp
 |.txt z,_=>.text z
 |.tup n ps,none=>match z4c fs n with|some row=>.jobs row (some ps)|none=>.opens n ps
 |.tup n ps,some qs=>if n = "*" then .jobs qs none else .opens n ps
def y6l (F H H':Hp) (l:Addr) (row:List Part) (tg:Addr) (so:Option (List Part)):Prop:=∃ ts:List Addr,H' l=some (.lst (ts.map V.ref))∧All2 (fun p t=>JobAt F H' p tg so t∧H t=none) row.reverse ts
def y1v:Sp:=fun vs H Q _=>∃ (F:Hp) (fs:List (Str × List Part)) (rl:Addr) (kvs:List (Key × V)) (p:Part) (vp:V) (tg:Addr) (us:List V) (sv:V) (so:Option (List Part)),vs=[.ref rl,vp,.ref tg,sv]∧Same F H∧Rd F rl (.dK kvs)∧RepK F (z5e fs) kvs∧Rep F (pD p) vp∧StarV F sv so ∧
 H tg=some (.lst us)∧us.length < sizeLine∧F tg=none∧(∀ r∈fs,z0q r.2≤1000000)∧z1j p≤1000000∧(∀ qs,so=some qs→z0q qs≤1000000) ∧
 match z3s fs p so with
 |.text z=>∀ (l:Addr) (H':Hp),H l=none→(∀ b o,b≠tg→H b=some o→H' b=some o)→H' tg=some (.lst (us ++ [.str z]))→H' l=some (.lst [])→Q (.ref l) H'
 |.jobs row so'=>∀ (l:Addr) (H':Hp),H l=none→Same H H'→y6l F H H' l row tg so'→Q (.ref l) H'
 |.opens n ps=>∀ (inner tp l:Addr) (H':Hp),H inner=none→H tp=none→H l=none→inner≠tp→l≠inner→(∀ b o,b≠tg→H b=some o→H' b=some o)→H' tg=some (.lst (us ++ [.ref tp]))→H' tp=some (.tup [.str n,.ref inner])→H' inner=some (.lst [])→y6l F H H' l ps inner so→Q (.ref l) H'
theorem z8d {F H H':Hp}{tg:Addr}{sv:V}{so:Option (List Part)}(hs:StarV F sv so):∀ {ps:List Part}{vs:List V}{ts:List Addr},Reps F (ps.map pD) vs→All2 (fun v t=>H' t=some (.tup [v,.ref tg,sv])∧H t=none) vs ts→All2 (fun p t=>JobAt F H' p tg so t∧H t=none) ps ts
 | [],_,_,h,h2=>by cases (show _=[] from h);cases h2;exact .nil
 |p::ps,_,_,h,h2=>by
  obtain ⟨v,r,rfl,h1,h3⟩:=h
  cases h2 with
  |cons g g2=>exact .cons ⟨⟨v,sv,g.1,h1,hs⟩,g.2⟩ (z8d hs h3 g2)
theorem z8t {F H H1 H':Hp}{tg l:Addr}{sv:V}{so:Option (List Part)}{row:List Part}{vs:List V}{ts:List Addr}(hs:StarV F sv so) (hr:Reps F (pDs row) vs) (e:H' l=some (.lst (ts.map V.ref))) (h:All2 (fun v t=>H' t=some (.tup [v,.ref tg,sv])∧H1 t=none) vs.reverse ts) (hn:∀ t,H1 t=none→H t=none):y6l F H H' l row tg so:=by
 refine ⟨ts,e,?_⟩
 rw [z3m] at hr
 have hr':=hr.rev
 rw [← List.map_reverse] at hr'
 exact z2r (z8d hs hr' h) fun p t g=>⟨g.1,hn t g.2⟩
theorem y0c {F H:Hp}{Q:VK}{tg t pl:Addr}{us pvs:List V}{n:Str}{ps:List Part}{sv:V}{so:Option (List Part)}(hsv:StarV F sv so) (sF:Same F H) (htg:H tg=some (.lst us)) (hul:us.length < sizeLine) (ht:H t=some (.tup [.str n,.ref pl])) (hpl:F pl=some (.lst pvs)) (ntg:F tg=none) (rpl:Reps F (pDs ps) pvs) (hl:ps.length≤1000000)
  (q:∀ (inner tp l:Addr) (H':Hp),H inner=none→H tp=none→H l=none→inner≠tp→l≠inner→(∀ b o,b≠tg→H b=some o→H' b=some o)→H' tg=some (.lst (us ++ [.ref tp]))→H' tp=some (.tup [.str n,.ref inner])→H' inner=some (.lst [])→y6l F H H' l ps inner so→Q (.ref l) H') :
  0≤sizeLine∧∀ (p:Addr),H p=none→(∃ xs,upd H p (HO.lst []) tg=some (HO.lst xs))∧∃ xs,upd H p (HO.lst []) t=some (HO.tup xs)∧∃ v,atI xs 0=some v∧2≤sizeLine∧∀ (p_1:Addr),¬p_1=p→H p_1=none→∃ x,upd (upd H p (HO.lst [])) p_1 (HO.tup [v,V.ref p]) tg=some (HO.lst x)∧x.length < sizeLine ∧
   ∃ xs,upd (upd (upd H p (HO.lst [])) p_1 (HO.tup [v,V.ref p])) tg (HO.lst (x ++ [V.ref p_1])) t=some (HO.tup xs)∧∃ v_1,atI xs 1=some v_1∧y0v [v_1,V.ref p,sv] (upd (upd (upd H p (HO.lst [])) p_1 (HO.tup [v,V.ref p])) tg (HO.lst (x ++ [V.ref p_1]))) Q E0:=by
 have sz:=z0u
 have ntt:t≠tg:=z6c ht htg (by intro z;cases z)
 refine ⟨by omega,fun p hp=>?_⟩
 have n1:tg≠p:=z0l htg hp
 have n2:t≠p:=z0l ht hp
 refine ⟨⟨us,by rw [z0f n1];exact htg⟩,_,by rw [z0f n2];exact ht,_,atI0,by omega,fun p1 np hp1=>?_⟩
 have n3:tg≠p1:=z0l htg hp1
 have n4:t≠p1:=z0l ht hp1
 refine ⟨us,by rw [z0f n3,z0f n1];exact htg,hul,_,by rw [z0f ntt,z0f n4,z0f n2];exact ht,_,atI1,?_⟩
 have hpl':=sF _ _ hpl
 have n5:pl≠tg:=fun z=>by rw [z,ntg] at hpl;cases hpl
 have n6:pl≠p:=z0l hpl' hp
 have n7:pl≠p1:=z0l hpl' hp1
 have keep:∀ b o,b≠tg→H b=some o→upd (upd (upd H p (HO.lst [])) p1 (HO.tup [V.str n,V.ref p])) tg (HO.lst (us ++ [V.ref p1])) b=some o:=fun b o hb e=>by
  rw [z0f hb,z0f (z0l e hp1),z0f (z0l e hp)];exact e
 refine ⟨pl,p,sv,pvs,rfl,keep pl _ n5 hpl',by rw [← rpl.len,z5c];exact hl,fun l ts H' hln hs e h=>?_⟩
 have hln':H l=none:=by
  cases z:H l with
  |none=>rfl
  |some o =>
   by_cases hb:l=tg
   ·rw [hb,z0d] at hln;cases hln
   ·rw [keep l o hb z] at hln;cases hln
 have frs:∀ x,upd (upd (upd H p (HO.lst [])) p1 (HO.tup [V.str n,V.ref p])) tg (HO.lst (us ++ [V.ref p1])) x=none→H x=none:=fun x hx=>by
  cases z:H x with
  |none=>rfl
  |some o =>
   by_cases hb:x=tg
   ·rw [hb,z0d] at hx;cases hx
   ·rw [keep x o hb z] at hx;cases hx
 have e2:upd (upd (upd H p (HO.lst [])) p1 (HO.tup [V.str n,V.ref p])) tg (HO.lst (us ++ [V.ref p1])) p=some (.lst []):=by
  rw [z0f (Ne.symm n1),z0f (fun z=>np z.symm),z0d]
 have nlp:l≠p:=fun z=>by rw [z,e2] at hln;cases hln
 refine q p p1 l H' hp hp1 hln' (fun z=>np z.symm) nlp (fun b o hb e=>hs _ _ (keep b o hb e)) (hs _ _ z0d) (hs _ _ (by rw [z0f (Ne.symm n3),z0d])) (hs _ _ e2) (z8t hsv rpl e h frs)
theorem ok_carry {f1:Addr}{fd1:FuncData}(E_carry:Ent K mg "carry" s_carry ["rules","part","target","starred"] f fd) (T:Zs K mg) (E_jobs:Ent K mg "jobs" s_jobs ["parts","target","starred"] f1 fd1) (kts:PySem.W.kitOne K (.type "tuple") (.type "str")=some false):FnOk P w K mg base CX0 2 f fd ["rules","part","target","starred"] y1v:=by
 have G_jobs:FnOk P w K mg base CX0 1 f1 fd1 _ y0v:=ok_jobs E_jobs T
 obtain ⟨tS,h_STAR⟩:=T.g_STAR
 refine E_carry.F.ok sc_carry (fun vs H Q E h=>?_) (fun cdv A outer s H vs Q E hr h=>?_)
 ·obtain ⟨_,_,_,_,_,_,_,_,_,_,rfl,_⟩:=h;rfl
 ·obtain ⟨F,fs,rl,kvs,p,vp,tg,us,sv,so,rfl,sF,hrl,rk,rp,hsv,htg,hul,ntg,b1,b2,b3,q⟩:=h
  have hu:=z4f hr
  refine ⟨_,(z0h (z2d (z5b (z2z (z2s (K:=K) rfl) rfl T.z_isinstance PyProof.Rows.boot_isinstance (z0b (pv 1) (z0b (y0s (v:=.ty "str") rfl T.z_str PyProof.Rows.boot_str rfl) z0j)))) (z0h (z1n (y2a PySem.F.slot_list_append PySem.F.type_list_append z1v (pv 2) (z0b (pv 1) z0j)))
   (z0m (z1q (z1y z0j)))) z0t)
   (z0h (z2d (PW.pt (y5z (z1f op_isN (pv 3) z8u (z0p _)) (y1q (z9o (y6m (hu1 hu) (z4d z1m (pv 1) z1e (fun _ _=>rfl)) (pv 0)) rfl)))) (z0m (z1q (z0r G_jobs (hr.mono (by decide)) rfl E_jobs.g E_jobs.F.kp E_jobs.b .nil z0w (z0b (y4j (hu1 hu) (pv 0) (z4d z1m (pv 1) z1e (fun _ _=>rfl)) (fun _ _=>rfl)) (z0b (pv 2) (z0b (z4d z1m (pv 1) z1e (fun _ _=>rfl)) z0j)))))) z0t)
   (z0h (z2d (PW.pt (y5z (z1f y4s (pv 3) z8u (z0p _)) (y1q (z1f z1w (z4d z1m (pv 1) z1e (fun _ _=>rfl)) (pe_glob (v:=.str "*") rfl h_STAR ⟨_,rfl⟩) (z0p _))))) (z0m (z1q (z0r G_jobs (hr.mono (by decide)) rfl E_jobs.g E_jobs.F.kp E_jobs.b .nil z0w (z0b (pv 3) (z0b (pv 2) (z0b z8u z0j)))))) z0t)
   (z0h (z2f (i:=4) sc_carry.nd rfl (Or.inl rfl) (z1y z0j))
   (z0h (z1n (y2a PySem.F.slot_list_append PySem.F.type_list_append z1v (pv 2) (z0b (z3i (z0b (z4d z1m (pv 1) z1e (fun _ _=>rfl)) (z0b (pv 4) z0j))) z0j)))
   (z0m (z1q (z0r G_jobs (hr.mono (by decide)) rfl E_jobs.g E_jobs.F.kp E_jobs.b .nil z0w (z0b (z4d z1m (pv 1) z1e (fun _ _=>rfl)) (z0b (pv 4) (z0b (pv 3) z0j))))))))))),?_⟩
  have sz:=z0u
  cases p with
  |txt z =>
   cases (show vp = .str z from rp)
   simp only [z3s] at q
   walk_at "rd"
   refine ⟨_,.str z,true,rfl,iteT ⟨⟨us,htg⟩,us,htg,hul,by omega,fun p np hp=>q p _ hp (fun b o hb e=>?_) ?_ z0d⟩⟩
   ·rw [z0f (z0l e hp),z0f hb];exact e
   ·rw [z0f (fun z=>np z.symm),z0d]
  |tup n ps =>
   obtain ⟨t,vs',rfl,ht,v1,r1,rfl,e1,v2,r2,rfl,⟨pl,pvs,rfl,hpl,rpl⟩,e3⟩:=rp
   cases (show v1 = .str n from e1)
   cases (show r2=[] from e3)
   have ht':=sF _ _ ht
   have hrl':Rd H rl (.dK kvs):=hrl.elim (fun e=>.inl (sF _ _ e)) fun ⟨o,e⟩=>.inr ⟨o,sF _ _ e⟩
   have hps:ps.length≤1000000:=by
    have:=z2y ps
    simp only [z1j] at b2
    omega
   walk_at "rd"
   refine ⟨_,.tup ht',false,kts,iteF ?_⟩
   have hval:=rk.val n
   rw [z6x] at hval
   cases so with
   |none =>
    cases (show sv = .non from hsv)
    rw [if_pos rfl]
    refine ⟨_,ht',_,atI0,_,DGet.rO hrl',?_⟩
    simp only [z3s] at q
    cases er:z4c fs n with
    |some row =>
     rw [er] at q hval
     obtain ⟨v,ev,ra,rvs,rfl,hra,rra⟩:=hval.1 _ rfl
     obtain ⟨r0,hr0,e0,_⟩:=z6o er
     have hb:=b1 r0 hr0
     rw [e0] at hb
     have hlr:=z2y row
     rw [ev]
     refine iteT ⟨_,ht',_,atI0,_,DGet.rS hrl' ev,_,ht',_,atI1,ra,tg,.ref pl,rvs,rfl,sF _ _ hra,by rw [← rra.len,z5c];omega,fun l ts H' hl hs e h=>q l H' hl hs (z8t (so:=some ps) ⟨pl,pvs,rfl,hpl,rpl⟩ rra e h fun t h=>h)⟩
    |none =>
     rw [er] at q hval
     rw [hval.2 rfl]
     refine iteF ⟨false,by simp,iteF ?_⟩
     exact y0c hsv sF htg hul ht' hpl ntg rpl hps q
   |some qs =>
    have hsv':=hsv
    obtain ⟨sa,svs,rfl,hsa,rsa⟩:=hsv
    rw [if_neg (by intro z;cases z)]
    refine ⟨true,by simp,iteT ⟨_,ht',_,atI0,rfl,?_⟩⟩
    simp only [z3s] at q
    by_cases hn:n = "*"
    ·rw [if_pos hn] at q
     have hb:=b3 qs rfl
     have hlr:=z2y qs
     rw [if_pos (by rw [hn])]
     exact ⟨sa,tg,.non,svs,rfl,sF _ _ hsa,by rw [← rsa.len,z5c];omega,fun l ts H' hl hs e h=>q l H' hl hs (z8t (so:=none) rfl rsa e h fun t h=>h)⟩
    ·rw [if_neg hn] at q
     rw [if_neg (by intro z;cases z;exact hn rfl)]
     exact y0c hsv' sF htg hul ht' hpl ntg rpl hps q
end
open PySem L2 VL Pap
local macro_rules|`(tactic| walk_at "rs")=>do
 let v←("L2.start tSeq y1a tAsg z7n tVar tC tOp rI0 y2n tRet z9k z7m tCB z6e tNil tNot tAnd tB tTup tLst y4e y4f tRev tYes rEq scal z4e z4q rCat gTup y5b gNil tLM tDIn z4w y4w y5o z8g tB z3t z0d and_imp ne_eq HO.lst.injEq HO.tup.injEq z9y y0h Int.toNat_natCast z9z List.map_cons List.map_nil List.length_cons List.length_nil Nat.reduceAdd Nat.reduceSub List.replicate_succ List.replicate_zero List.cons_append List.nil_append List.append_nil List.getElem?_cons_zero List.getElem?_cons_succ List.set_cons_zero List.set_cons_succ Option.some.injEq V.int.injEq V.str.injEq V.ref.injEq V.bl.injEq V.ty.injEq List.cons.injEq exists_eq_left' exists_eq_left exists_eq' and_true true_and and_assoc exists_and_left reduceCtorEq false_and exists_false false_or or_false decide_eq_true_eq if_true if_false Bool.true_eq_false Bool.false_eq_true Bool.not_true Bool.not_false Bool.not_eq_eq_eq_not".splitOn " ").mapM fun n=>`(Lean.Parser.Tactic.simpLemma| $(Lean.mkIdent n.toName):term)
 `(tactic| simp only [$(v.toArray),*])
mutual
def cer1 (fs:List (Str × List Part)):Part→List Part
 |.txt s=>[.txt s]
 |.tup n ps=>match z4c fs n with|some row=>z8e (cerL fs ps) row|none=>[.tup n (cerL fs ps)]
def cerL (fs:List (Str × List Part)):List Part→List Part
 | []=>[]
 |p::ps=>cer1 fs p ++ cerL fs ps
end
mutual
def wf1 (k:Nat):Part→Nat
 |.txt _=>1
 |.tup n ps=>if n = "*" then 1+k else 1+wfL k ps
def wfL (k:Nat):List Part→Nat
 | []=>0
 |p::ps=>wf1 k p+wfL k ps
end
mutual
def w1 (fs:List (Str × List Part)):Part→Nat
 |.txt _=>1
 |.tup n ps=>match z4c fs n with|some row=>1+wfL (wL fs ps) row|none=>1+wL fs ps
def wL (fs:List (Str × List Part)):List Part→Nat
 | []=>0
 |p::ps=>w1 fs p+wL fs ps
end
def G1 (fs:List (Str × List Part)) (p:Part):Option (List Part)→List Part
 |none=>cer1 fs p
 |some qs=>z7o (cerL fs qs) p
def GL (fs:List (Str × List Part)) (ps:List Part):Option (List Part)→List Part
 |none=>cerL fs ps
 |some qs=>z8e (cerL fs qs) ps
def jw (fs:List (Str × List Part)) (p:Part):Option (List Part)→Nat
 |none=>w1 fs p
 |some qs=>wf1 (wL fs qs) p
def jwL (fs:List (Str × List Part)) (ps:List Part):Option (List Part)→Nat
 |none=>wL fs ps
 |some qs=>wfL (wL fs qs) ps
theorem GL_cons {fs:List (Str × List Part)}{p:Part}{ps:List Part}{so:Option (List Part)}:GL fs (p::ps) so=G1 fs p so ++ GL fs ps so:=by cases so <;> rfl
theorem y0t {fs:List (Str × List Part)}{p:Part}{ps:List Part}{so:Option (List Part)}:jwL fs (p::ps) so=jw fs p so+jwL fs ps so:=by cases so <;> rfl
theorem z6b {fs:List (Str × List Part)}{p:Part}{so:Option (List Part)}{z:Str}(h:z3s fs p so = .text z):G1 fs p so=[.txt z]∧jw fs p so=1:=by
 cases p with
 |txt y=>cases h;cases so <;> exact ⟨rfl,rfl⟩
 |tup n ps =>
  cases so with
  |none=>simp only [z3s] at h;split at h <;> cases h
  |some qs=>simp only [z3s] at h;split at h <;> cases h
theorem z6m {fs:List (Str × List Part)}{p:Part}{so so':Option (List Part)}{row:List Part}(h:z3s fs p so = .jobs row so'):G1 fs p so=GL fs row so'∧jw fs p so=1+jwL fs row so':=by
 cases p with
 |txt y=>cases h
 |tup n ps =>
  cases so with
  |none =>
   simp only [z3s] at h
   split at h
   ·rename_i r er;cases h;simp only [G1,GL,jw,jwL,cer1,w1,er];exact ⟨by first|trivial|rfl,by first|trivial|rfl⟩
   ·cases h
  |some qs =>
   simp only [z3s] at h
   split at h
   ·rename_i hn;cases h;simp only [G1,GL,jw,jwL,z7o,wf1,hn,if_true];exact ⟨by first|trivial|rfl,by first|trivial|rfl⟩
   ·cases h
theorem z5p {fs:List (Str × List Part)}{p:Part}{so:Option (List Part)}{n:Str}{ps:List Part}(h:z3s fs p so = .opens n ps):G1 fs p so=[.tup n (GL fs ps so)]∧jw fs p so=1+jwL fs ps so:=by
 cases p with
 |txt y=>cases h
 |tup n' ps' =>
  cases so with
  |none =>
   simp only [z3s] at h
   split at h
   ·cases h
   ·rename_i er;cases h;simp only [G1,GL,jw,jwL,cer1,w1,er];exact ⟨by first|trivial|rfl,by first|trivial|rfl⟩
  |some qs =>
   simp only [z3s] at h
   split at h
   ·cases h
   ·rename_i hn;cases h;simp only [G1,GL,jw,jwL,z7o,wf1,hn,if_false];exact ⟨by first|trivial|rfl,by first|trivial|rfl⟩
abbrev Job:=Part × Addr × Option (List Part)
def mkJ (ps:List Part) (tg:Addr) (so:Option (List Part)):List Job:=ps.map fun p=>(p,tg,so)
def Keep (wa tg:Addr) (H H1:Hp):Prop:=∀ b o,b≠tg→b≠wa→H b=some o→H1 b=some o
theorem Keep.trans {wa tg:Addr}{H H1 H2:Hp}(h:Keep wa tg H H1) (h':Keep wa tg H1 H2):Keep wa tg H H2:=fun b o a c e=>h' b o a c (h b o a c e)
inductive Ev (fs:List (Str × List Part)) (wa:Addr):List Job→Hp→Hp→Prop
 |nil {H:Hp}:Ev fs wa [] H H
 |text {p:Part}{tg:Addr}{so:Option (List Part)}{js:List Job}{z:Str}{us:List V}{H H1 H':Hp}(e:z3s fs p so = .text z) (h:H tg=some (.lst us)) (h1:H1 tg=some (.lst (us ++ [.str z]))) (k:Keep wa tg H H1) (hw:∃ xs,H1 wa=some (.lst xs)) (r:Ev fs wa js H1 H'):Ev fs wa ((p,tg,so)::js) H H'
 |jobs {p:Part}{tg:Addr}{so so':Option (List Part)}{js:List Job}{row:List Part}{H H1 H':Hp}(e:z3s fs p so = .jobs row so') (k:∀ b o,b≠wa→H b=some o→H1 b=some o) (hw:∃ xs,H1 wa=some (.lst xs)) (r:Ev fs wa (mkJ row tg so' ++ js) H1 H'):Ev fs wa ((p,tg,so)::js) H H'
 |opens {p:Part}{tg inner tp:Addr}{so:Option (List Part)}{js:List Job}{n:Str}{ps:List Part}{us:List V}{H H1 H':Hp}(e:z3s fs p so = .opens n ps) (h:H tg=some (.lst us)) (hi:H inner=none) (ht:H tp=none) (h1:H1 tg=some (.lst (us ++ [.ref tp]))) (h2:H1 tp=some (.tup [.str n,.ref inner])) (h3:H1 inner=some (.lst [])) (k:Keep wa tg H H1) (hw:∃ xs,H1 wa=some (.lst xs)) (r:Ev fs wa (mkJ ps inner so ++ js) H1 H'):Ev fs wa ((p,tg,so)::js) H H'
theorem ev_big {fs:List (Str × List Part)}{wa:Addr}:∀ (n:Nat) (ps:List Part) (so:Option (List Part)) (tg:Addr) (js:List Job) (H H':Hp) (us:List V),jwL fs ps so≤n→Ev fs wa (mkJ ps tg so ++ js) H H'→H tg=some (.lst us)→tg≠wa→(∃ xs,H wa=some (.lst xs)) →
  ∃ H1 vs o Fp,H1 tg=some (.lst (us ++ vs))∧RepL H1 vs (GL fs ps so) o Fp∧(∀ b∈Fp,H b=none)∧Fp.Nodup∧Keep wa tg H H1∧(∃ xs,H1 wa=some (.lst xs))∧Ev fs wa js H1 H':=by
 intro n
 induction n with
 |zero =>
  intro ps so tg js H H' us hn ev htg ntw hw
  cases ps with
  |nil=>exact ⟨H,[],[],[],by simpa using htg,by cases so <;> exact .nil,fun b hb=>by simp at hb,List.nodup_nil,fun b o _ _ e=>e,hw,ev⟩
  |cons p ps =>
   rw [y0t] at hn
   have:1≤jw fs p so:=by
    cases e:z3s fs p so with
    |text z=>rw [(z6b e).2];omega
    |jobs row so'=>rw [(z6m e).2];omega
    |opens n qs=>rw [(z5p e).2];omega
   omega
 |succ n ih =>
  intro ps so tg js H H' us hn ev htg ntw hw
  cases ps with
  |nil=>exact ⟨H,[],[],[],by simpa using htg,by cases so <;> exact .nil,fun b hb=>by simp at hb,List.nodup_nil,fun b o _ _ e=>e,hw,ev⟩
  |cons p ps =>
   rw [y0t] at hn
   rw [GL_cons]
   have ev':Ev fs wa ((p,tg,so)::(mkJ ps tg so ++ js)) H H':=ev
   have rest:∀ (H2:Hp) (vs2 o2:List V) (F2:List Addr) (ps2:List Part),1≤jw fs p so→H2 tg=some (.lst (us ++ vs2))→RepL H2 vs2 ps2 o2 F2→(∀ b∈F2,H b=none)→F2.Nodup→Keep wa tg H H2→(∃ xs,H2 wa=some (.lst xs))→G1 fs p so=ps2→Ev fs wa (mkJ ps tg so ++ js) H2 H' →
     ∃ H1 vs o Fp,H1 tg=some (.lst (us ++ vs))∧RepL H1 vs (G1 fs p so ++ GL fs ps so) o Fp∧(∀ b∈Fp,H b=none)∧Fp.Nodup∧Keep wa tg H H1∧(∃ xs,H1 wa=some (.lst xs))∧Ev fs wa js H1 H':=by
    intro H2 vs2 o2 F2 ps2 hj t2 r2 f2 nd2 k2 w2 eg ev2
    obtain ⟨H3,vs3,o3,F3,t3,r3,f3,nd3,k3,w3,ev3⟩:=ih ps so tg js H2 H' (us ++ vs2) (by omega) ev2 t2 ntw w2
    obtain ⟨xw,hxw⟩:=w2
    have hfr:RepL H3 vs2 ps2 o2 F2:=by
     refine r2.frame (fun b hb=>?_) fun b xs e=>?_
     ·obtain ⟨xs,hx⟩:=r2.lsts b hb
      have nb:b≠tg:=fun z=>by have:=f2 b hb;rw [z,htg] at this;cases this
      have nw:b≠wa:=fun z=>by obtain ⟨xs,hx⟩:=hw;have:=f2 b hb;rw [z,hx] at this;cases this
      rw [hx];exact k3 b _ nb nw hx
     ·exact k3 b _ (z6c e t2 (by intro z;cases z)) (z6c e hxw (by intro z;cases z)) e
    refine ⟨H3,vs2 ++ vs3,o2 ++ o3,F2 ++ F3,by rw [t3,List.append_assoc],by rw [eg];exact hfr.append r3,fun b hb=>?_,List.nodup_append.mpr ⟨nd2,nd3,fun a ha b hb e=>by obtain ⟨xs,hx⟩:=r2.lsts a ha;rw [e,f3 b hb] at hx;cases hx⟩,k2.trans k3,w3,ev3⟩
    rcases List.mem_append.mp hb with h|h
    ·exact f2 b h
    ·cases z:H b with
     |none=>rfl
     |some o =>
      have hb2:=f3 b h
      by_cases nb:b=tg
      ·rw [nb,t2] at hb2;cases hb2
      ·by_cases nw:b=wa
       ·rw [nw,hxw] at hb2;cases hb2
       ·rw [k2 b o nb nw z] at hb2;cases hb2
   cases ev' with
   | @text _ _ _ _ z us' _ H1 _ e h h1 k w1 r =>
    rw [htg] at h;cases h
    obtain ⟨g1,g2⟩:=z6b e
    exact rest H1 [.str z] [.str z] [] [.txt z] (by omega) h1 (.txt .nil) (fun b hb=>by simp at hb) List.nodup_nil k w1 g1 r
   | @jobs _ _ _ so' _ row _ H1 _ e k w1 r =>
    obtain ⟨g1,g2⟩:=z6m e
    obtain ⟨H2,vs2,o2,F2,t2,r2,f2,nd2,k2,w2,ev2⟩:=ih row so' tg _ H1 H' us (by omega) r (k _ _ ntw htg) ntw w1
    refine rest H2 vs2 o2 F2 _ (by omega) t2 r2 (fun b hb=>?_) nd2 (fun b o a c e=>k2 b o a c (k b o c e)) w2 g1 ev2
    cases z:H b with
    |none=>rfl
    |some o =>
     have hb2:=f2 b hb
     by_cases nw:b=wa
     ·obtain ⟨xs,hx⟩:=w1;rw [nw,hx] at hb2;cases hb2
     ·rw [k b o nw z] at hb2;cases hb2
   | @opens _ _ inner tp _ _ nm qs us' _ H1 _ e h hi ht h1 h2 h3 k w1 r =>
    rw [htg] at h;cases h
    obtain ⟨g1,g2⟩:=z5p e
    have niw:inner≠wa:=fun z=>by obtain ⟨xs,hx⟩:=hw;rw [z,hx] at hi;cases hi
    have nit:tg≠inner:=z0l htg hi
    obtain ⟨H2,vs2,o2,F2,t2,r2,f2,nd2,k2,w2,ev2⟩:=ih qs so inner _ H1 H' [] (by omega) r h3 niw w1
    obtain ⟨xw,hxw⟩:=w1
    have tp2:H2 tp=some (.tup [.str nm,.ref inner]):=k2 tp _ (z6c h2 h3 (by intro z;cases z)) (z6c h2 hxw (by intro z;cases z)) h2
    have t2':H2 inner=some (.lst vs2):=by simpa using t2
    refine rest H2 [.ref tp] (.ref tp::(o2 ++ [])) (inner::(F2 ++ [])) _ (by omega) (k2 tg _ nit ntw h1) (.tup tp2 t2' r2 .nil) (fun b hb=>?_) (by rw [List.append_nil];exact List.nodup_cons.mpr ⟨fun hm=>(by have:=f2 _ hm;rw [h3] at this;cases this),nd2⟩) (fun b o a c eb=>k2 b o (z0l eb hi) c (k b o a c eb)) w2 g1 ev2
    rcases List.mem_cons.mp hb with rfl|hb
    ·exact hi
    ·rw [List.append_nil] at hb
     cases z:H b with
     |none=>rfl
     |some o =>
      have hb2:=f2 b hb
      by_cases nb:b=tg
      ·rw [nb,h1] at hb2;cases hb2
      ·by_cases nw:b=wa
       ·rw [nw,hxw] at hb2;cases hb2
       ·rw [k b o nb nw z] at hb2;cases hb2
section
variable {P:Program}{w:World}{K:PySem.W.Frag}{mg:Str→Option Value}{base:Heap}{f:Addr}{fd:FuncData}
def jwT (fs:List (Str × List Part)):List Job→Nat
 | []=>0
 |(p,_,so)::js=>jw fs p so+jwT fs js
theorem y1d (fs:List (Str × List Part)) (a b:List Job):jwT fs (a ++ b)=jwT fs a+jwT fs b:=by
 induction a with
 |nil=>simp [jwT]
 |cons x a ih=>obtain ⟨p,tg,so⟩:=x;simp only [jwT,List.cons_append,ih];omega
theorem jwT_mk (fs:List (Str × List Part)) (ps:List Part) (tg:Addr) (so:Option (List Part)):jwT fs (mkJ ps tg so)=jwL fs ps so:=by
 induction ps with
 |nil=>cases so <;> rfl
 |cons p ps ih=>rw [y0t,← ih];rfl
theorem jw_pos (fs:List (Str × List Part)) (p:Part) (so:Option (List Part)):1≤jw fs p so:=by
 cases e:z3s fs p so with
 |text z=>rw [(z6b e).2];omega
 |jobs row so'=>rw [(z6m e).2];omega
 |opens n qs=>rw [(z5p e).2];omega
theorem jwT_len (fs:List (Str × List Part)) (js:List Job):js.length≤jwT fs js:=by
 induction js with
 |nil=>exact Nat.le_refl _
 |cons x a ih=>obtain ⟨p,tg,so⟩:=x;have:=jw_pos fs p so;simp only [jwT,List.length_cons];omega
def y7b (p:Part) (so:Option (List Part)):Prop:=z1j p≤1000000∧∀ qs,so=some qs→z0q qs≤1000000
theorem jobs_ok {fs:List (Str × List Part)}(hfs:∀ r∈fs,z0q r.2≤1000000) {p:Part}{so so':Option (List Part)}{row:List Part}(ok:y7b p so) (e:z3s fs p so = .jobs row so'):∀ q∈row,y7b q so':=by
 obtain ⟨o1,o2⟩:=ok
 cases p with
 |txt y=>cases e
 |tup n ps =>
  simp only [z1j] at o1
  cases so with
  |none =>
   simp only [z3s] at e
   split at e
   ·rename_i r er
    cases e
    obtain ⟨r0,hr0,e0,_⟩:=z6o er
    have hb:=hfs r0 hr0
    rw [e0] at hb
    exact fun q hq=>⟨Nat.le_trans (sz_mem hq) hb,fun qs eq=>by cases eq;omega⟩
   ·cases e
  |some qs =>
   simp only [z3s] at e
   split at e
   ·cases e
    exact fun q hq=>⟨Nat.le_trans (sz_mem hq) (o2 _ rfl),fun qs eq=>by cases eq⟩
   ·cases e
theorem opens_ok {fs:List (Str × List Part)}{p:Part}{so:Option (List Part)}{n:Str}{ps:List Part}(ok:y7b p so) (e:z3s fs p so = .opens n ps):∀ q∈ps,y7b q so:=by
 obtain ⟨o1,o2⟩:=ok
 have:z0q ps≤1000000:=by
  cases p with
  |txt y=>cases e
  |tup n' ps' =>
   simp only [z1j] at o1
   cases so with
   |none =>
    simp only [z3s] at e
    split at e
    ·cases e
    ·cases e;omega
   |some qs =>
    simp only [z3s] at e
    split at e
    ·cases e
    ·cases e;omega
 exact fun q hq=>⟨Nat.le_trans (sz_mem hq) this,o2⟩
def z4l:Sp:=fun vs H Q _=>∃ (F:Hp) (fs:List (Str × List Part)) (rl ra:Addr) (kvs:List (Key × V)) (rvs:List V) (ps:List Part),vs=[.ref rl,.ref ra]∧Same F H∧Rd F rl (.dK kvs)∧RepK F (z5e fs) kvs∧F ra=some (.lst rvs)∧Reps F (pDs ps) rvs∧(∀ r∈fs,z0q r.2≤1000000)∧z0q ps≤1000000∧wL fs ps≤1000000 ∧
 ∀ (l:Addr) (us o:List V) (Fp:List Addr) (H':Hp),H l=none→Same H H'→H' l=some (.lst us)→RepL H' us (cerL fs ps) o Fp→(∀ b∈Fp,H b=none)→(l::Fp).Nodup→Q (.ref l) H'
structure CInv (F H:Hp) (fs:List (Str × List Part)) (rl ra told wa:Addr) (W0:Nat) (Post:Hp→Prop) (js:List Job) (ts:List Addr) (m:Nat) (σ:St) (H2:Hp):Prop where
 st:∃ x4,σ=[some (.ref rl),some (.ref ra),some (.ref told),some (.ref wa),x4]
 hm:m=jwT fs js
 wl:H2 wa=some (.lst (ts.map V.ref))
 at':All2 (fun (j:Job) t=>JobAt F H2 j.1 j.2.1 j.2.2 t) js.reverse ts
 same:Same H H2
 ok:∀ j∈js,y7b j.1 j.2.2∧H j.2.1=none∧j.2.1≠wa∧∃ us,H2 j.2.1=some (.lst us)∧us.length+m≤W0
 post:∀ H',Ev fs wa js H2 H'→Post H'
theorem z3u {α β:Type}{G:α→β→Prop}:∀ {as:List α}{a:α}{bs:List β},All2 G (as ++ [a]) bs→∃ bs' b,bs=bs' ++ [b]∧All2 G as bs'∧G a b
 | [],a,_,.cons g .nil=>⟨[],_,rfl,.nil,g⟩
 |x::as,a,_,.cons g h=>by
  obtain ⟨bs',b,rfl,h1,h2⟩:=z3u h
  exact ⟨_::bs',b,rfl,.cons g h1,h2⟩
theorem z5l {α β:Type}{G:α→β→Prop}{as as':List α}{bs bs':List β}(h:All2 G as bs) (h':All2 G as' bs'):All2 G (as ++ as') (bs ++ bs'):=by
 induction h with
 |nil=>exact h'
 |cons g _ ih=>exact .cons g ih
theorem y0k {α α' β:Type}{G:α'→β→Prop}{f:α→α'}{as:List α}{bs:List β}(h:All2 (fun a b=>G (f a) b) as bs):All2 G (as.map f) bs:=by
 induction h with
 |nil=>exact .nil
 |cons g _ ih=>exact .cons g ih
theorem JobAt.keep {F H H':Hp}{p:Part}{tg:Addr}{so:Option (List Part)}{t:Addr}(h:JobAt F H p tg so t) (k:∀ xs,H t=some (.tup xs)→H' t=some (.tup xs)):JobAt F H' p tg so t:=by
 obtain ⟨v,sv,e,r⟩:=h
 exact ⟨v,sv,k _ e,r⟩
theorem z6u {f1 f2:Addr}{fd1 fd2:FuncData}(E_carried:Ent K mg "carried" s_carried ["rules","row"] f fd) (T:Zs K mg) (E_jobs:Ent K mg "jobs" s_jobs ["parts","target","starred"] f1 fd1) (E_carry:Ent K mg "carry" s_carry ["rules","part","target","starred"] f2 fd2) (kts:PySem.W.kitOne K (.type "tuple") (.type "str")=some false):FnOk P w K mg base CX0 3 f fd ["rules","row"] z4l:=by
 have G_jobs:FnOk P w K mg base CX0 1 f1 fd1 _ y0v:=ok_jobs E_jobs T
 have G_carry:FnOk P w K mg base CX0 2 f2 fd2 _ y1v:=ok_carry E_carry T E_jobs kts
 refine E_carried.F.ok sc_carried (fun vs H Q E h=>?_) (fun cdv A outer s H vs Q E hr h=>?_)
 ·obtain ⟨_,_,_,_,_,_,_,rfl,_⟩:=h;rfl
 ·obtain ⟨F,fs,rl,ra,kvs,rvs,ps,rfl,sF,hrl,rk,hra,rra,b1,b2,b3,q⟩:=h
  refine ⟨_,(z0h (z2f (i:=2) sc_carried.nd rfl (Or.inl rfl) (z1y z0j))
   (z0h (z2f (i:=3) sc_carried.nd rfl (Or.inl rfl) (z0r G_jobs (hr.mono (by decide)) rfl E_jobs.g E_jobs.F.kp E_jobs.b .nil z0w (z0b (pv 1) (z0b (pv 2) (z0b z8u z0j)))))
   (z0h (y1x PassesOwn.never (y1r (pv 3) (fun _=>rfl)) (z0h (z2f (i:=4) sc_carried.nd rfl (Or.inl rfl) (pe_lm0 PySem.F.slot_list_pop PySem.F.type_list_pop y6h (pv 3)))
   (z0m (z1n (y2a PySem.F.slot_list_extend PySem.F.type_list_extend z6q (pv 3) (z0b (z0r G_carry (hr.mono (by decide)) rfl E_carry.g E_carry.F.kp E_carry.b .nil z0w (z0b (pv 0) (z0b (z4d z1m (pv 4) z1e (fun _ _=>rfl)) (z0b (z4d z1m (pv 4) z1e (fun _ _=>rfl)) (z0b (z4d z1m (pv 4) z1e (fun _ _=>rfl)) z0j))))) z0j))))))
   (z0m (z1q (pv 2)))))),?_⟩
  have sz:=z0u
  walk_at "rs"
  refine ⟨by omega,fun told hto=>?_⟩
  have hra1:(upd H told (HO.lst [])) ra=some (.lst rvs):=by rw [z0f (z0l (sF _ _ hra) hto)];exact sF _ _ hra
  have hpsl:=z2y ps
  refine ⟨ra,told,.non,rvs,rfl,hra1,by rw [← rra.len,z5c];omega,fun wa ts H1 hwa s1 e1 h1=>?_⟩
  have sH1:Same H H1:=(Same.of_new hto).trans s1
  have hwaH:H wa=none:=by rw [z3t] at hwa;exact hwa.2
  have nwt:told≠wa:=fun z=>by rw [z,z0d] at hwa;cases hwa
  have hFwa:F wa=none:=sF.free hwaH
  have w0:CInv F H fs rl ra told wa (wL fs ps) (fun H'=>Q (.ref told) H') (mkJ ps told none) ts (wL fs ps) [some (.ref rl),some (.ref ra),some (.ref told),some (.ref wa),none] H1:=by
   refine ⟨⟨none,rfl⟩,by rw [jwT_mk];rfl,e1,?_,sH1,fun j hj=>?_,fun H' ev=>?_⟩
   ·rw [mkJ,← List.map_reverse]
    rw [z3m] at rra
    have hr':=rra.rev
    rw [← List.map_reverse] at hr'
    exact y0k (z2r (z8d (H:=upd H told (HO.lst [])) (so:=none) rfl hr' h1) fun p t g=>g.1)
   ·obtain ⟨p,hp,rfl⟩:=List.mem_map.mp hj
    exact ⟨⟨Nat.le_trans (sz_mem hp) b2,fun qs e=>by cases e⟩,hto,nwt,[],s1 _ _ z0d,by simp⟩
   ·have ev':Ev fs wa (mkJ ps told none ++ []) H1 H':=by rw [List.append_nil];exact ev
    obtain ⟨H3,vs,o,Fp,t3,r3,f3,nd3,k3,w3,ev3⟩:=ev_big (wL fs ps) ps none told [] H1 H' [] (Nat.le_refl _) ev' (s1 _ _ z0d) nwt ⟨_,e1⟩
    cases ev3
    refine q told vs o Fp H' hto (fun b o' eb=>k3 b o' (fun z=>by rw [z,hto] at eb;cases eb) (fun z=>by rw [z,hwaH] at eb;cases eb) (sH1 _ _ eb)) (by simpa using t3) r3 (fun b hb=>sH1.free (f3 b hb)) (List.nodup_cons.mpr ⟨fun hm=>(by have:=f3 _ hm;rw [s1 _ _ z0d] at this;cases this),nd3⟩)
  refine ⟨fun m σ H2=>∃ js ts,CInv F H fs rl ra told wa (wL fs ps) (fun H'=>Q (.ref told) H') js ts m σ H2,⟨_,_,_,w0⟩,?_⟩
  rintro m σ H2 ⟨js,ts,⟨x4,rfl⟩,rfl,hwl,hat,hsm,hok,hpost⟩
  refine ⟨_,rfl,!(ts.map V.ref).isEmpty,.inl ⟨_,SqL.of hwl,rfl⟩,?_⟩
  cases js with
  |nil =>
   cases hat
   exact iteF ⟨_,rfl,hpost H2 .nil⟩
  |cons j js =>
   obtain ⟨p,tg,so⟩:=j
   rw [List.reverse_cons] at hat
   obtain ⟨ts',t,rfl,hat',hj⟩:=z3u hat
   obtain ⟨v,sv,ht,rv,hsv⟩:=hj
   have e0:(!(List.map V.ref (ts' ++ [t])).isEmpty)=true:=by simp
   rw [if_pos e0]
   refine ⟨fun σ' H'=>∃ m',m' < jwT fs ((p,tg,so)::js)∧∃ js ts,CInv F H fs rl ra told wa (wL fs ps) (fun H'=>Q (.ref told) H') js ts m' σ' H',fun σ' H' h=>h,?_⟩
   obtain ⟨okj,hHt,ntw,us,htg,hul⟩:=hok (p,tg,so) List.mem_cons_self
   simp only at okj hHt ntw htg hul ht rv hsv
   have hFt:F tg=none:=sF.free hHt
   have hlast:(List.map V.ref (ts' ++ [t]))[(List.map V.ref (ts' ++ [t])).length - 1]? = some (.ref t):=by simp
   have hdl:(List.map V.ref (ts' ++ [t])).dropLast=ts'.map V.ref:=by simp
   have ntwa:t≠wa:=z6c ht hwl (by intro z;cases z)
   refine ⟨_,rfl,wa,rfl,⟨_,hwl⟩,wa,_,.ref t,rfl,rfl,hwl,hlast,?_⟩
   rw [hdl]
   have s2:Same H (upd H2 wa (.lst (ts'.map V.ref))):=hsm.upd hwaH
   have k2:∀ b o,b≠wa→H2 b=some o→upd H2 wa (.lst (ts'.map V.ref)) b=some o:=fun b o hb e=>by rw [z0f hb];exact e
   have ht2:=k2 t _ ntwa ht
   have htg2:=k2 tg _ ntw htg
   have hwa2:upd H2 wa (.lst (ts'.map V.ref)) wa=some (.lst (ts'.map V.ref)):=z0d
   generalize upd H2 wa (.lst (ts'.map V.ref))=H3 at s2 k2 ht2 htg2 hwa2
   have hlen:=hat'.len
   have hjl:=jwT_len fs js
   have hjp:=jw_pos fs p so
   simp only [jwT] at hul hjl ⊢
   refine ⟨_,rfl,wa,rfl,⟨_,hwa2⟩,?_⟩
   show z7m y1v [] E0 _ _ H3 _
   refine ⟨_,rfl,_,rfl,t,rfl,0,rfl,_,ht2,_,atI0,_,rfl,t,rfl,1,rfl,_,ht2,_,atI1,_,rfl,t,rfl,2,rfl,_,ht2,_,atI2,?_⟩
   refine ⟨F,fs,rl,kvs,p,v,tg,us,sv,so,rfl,sF.trans s2,hrl,rk,rv,hsv,htg2,by omega,hFt,b1,okj.1,okj.2,?_⟩
   have fin:∀ (l:Addr) (zs:List Addr) (H4:Hp) (js2:List Job),H3 l=none→(∀ b o,b≠tg→H3 b=some o→H4 b=some o)→H4 l=some (.lst (zs.map V.ref))→jwT fs js2+1=jw fs p so→All2 (fun (j:Job) t=>JobAt F H4 j.1 j.2.1 j.2.2 t∧t≠wa) js2.reverse zs→(∃ us',H4 tg=some (.lst us')∧us'.length≤us.length+1) →
     (∀ j∈js2,y7b j.1 j.2.2∧H j.2.1=none∧j.2.1≠wa∧∃ us',H4 j.2.1=some (.lst us')∧us'.length≤us.length+1) →
     (∀ H5,(∀ b o,b≠wa→H4 b=some o→H5 b=some o)→(∃ xs,H5 wa=some (.lst xs))→∀ H',Ev fs wa (js2 ++ js) H5 H'→Q (.ref told) H') →
     z4q (.ref wa) [.ref l] H4 fun _ H5=>∃ m',m' < jw fs p so+jwT fs js∧∃ js ts,CInv F H fs rl ra told wa (wL fs ps) (fun H'=>Q (.ref told) H') js ts m' [some (.ref rl),some (.ref ra),some (.ref told),some (.ref wa),some (.ref t)] H5:=by
    intro l zs H4 js2 hl kp4 hl4 hw hz htg4 hok2 hp2
    have hwa4:=kp4 wa _ (Ne.symm ntw) hwa2
    have hzl:=hz.len
    have hj2:=jwT_len fs js2
    simp only [List.length_reverse] at hzl hlen
    refine ⟨wa,l,_,_,rfl,rfl,hwa4,hl4,by simp only [List.length_map];omega,jwT fs (js2 ++ js),by rw [y1d];omega,js2 ++ js,ts' ++ zs,⟨_,rfl⟩,rfl,by rw [z0d];simp,?_,?_,?_,?_⟩
    ·rw [List.reverse_append]
     refine z5l (z2r hat' fun j t' h=>?_) (z2r hz fun j t' h=>?_)
     ·refine h.keep fun xs e=>?_
      have n1:t' ≠ wa:=z6c e hwl (by intro z;cases z)
      have n2:t' ≠ tg:=z6c e htg (by intro z;cases z)
      rw [z0f n1]
      exact kp4 t' _ n2 (k2 t' _ n1 e)
     ·exact h.1.keep fun xs e=>by rw [z0f h.2];exact e
    ·intro b o e
     have n1:b≠wa:=fun z=>by rw [z,hwaH] at e;cases e
     have n2:b≠tg:=fun z=>by rw [z,hHt] at e;cases e
     rw [z0f n1]
     exact kp4 b o n2 (s2 b o e)
    ·intro j hj
     rcases List.mem_append.mp hj with hj|hj
     ·obtain ⟨o1,o2,o3,us',o4,o5⟩:=hok2 j hj
      exact ⟨o1,o2,o3,us',by rw [z0f o3];exact o4,by rw [y1d];omega⟩
     ·obtain ⟨o1,o2,o3,us',o4,o5⟩:=hok j (List.mem_cons_of_mem _ hj)
      simp only [jwT] at o5
      refine ⟨o1,o2,o3,?_⟩
      by_cases e:j.2.1=tg
      ·obtain ⟨us4,h4,h5⟩:=htg4
       exact ⟨us4,by rw [z0f o3,e];exact h4,by rw [y1d];omega⟩
      ·exact ⟨us',by rw [z0f o3];exact kp4 _ _ e (k2 _ _ o3 o4),by rw [y1d];omega⟩
    ·exact fun H' ev=>hp2 _ (fun b o hb e=>by rw [z0f hb];exact e) ⟨_,z0d⟩ H' ev
   cases es:z3s fs p so with
   |text z =>
    intro l H4 hl kp4 htg4 hl4
    refine fin l [] H4 [] hl kp4 hl4 (by rw [(z6b es).2];rfl) .nil ⟨_,htg4,by simp⟩ (fun j hj=>by cases hj) fun H5 kp5 hw5 H' ev=>?_
    exact hpost H' (.text es htg (kp5 tg _ ntw htg4) (fun b o a c e=>kp5 b o c (kp4 b o a (k2 b o c e))) hw5 ev)
   |jobs row so' =>
    intro l H4 hl hs4 hjA
    obtain ⟨ts2,hl4,h4⟩:=hjA
    have hok2:=jobs_ok b1 okj es
    refine fin l ts2 H4 (mkJ row tg so') hl (fun b o _ e=>hs4 b o e) hl4 (by rw [jwT_mk,(z6m es).2];omega) ?_ ⟨us,hs4 _ _ htg2,by omega⟩ (fun j hj=>?_) fun H5 kp5 hw5 H' ev=>?_
    ·rw [mkJ,← List.map_reverse]
     exact y0k (z2r h4 fun p' t' g=>⟨g.1,fun z=>by rw [z,hwa2] at g;cases g.2⟩)
    ·obtain ⟨p',hp',rfl⟩:=List.mem_map.mp hj
     exact ⟨hok2 p' hp',hHt,ntw,us,hs4 _ _ htg2,by omega⟩
    ·exact hpost H' (.jobs es (fun b o c e=>kp5 b o c (hs4 b o (k2 b o c e))) hw5 ev)
   |opens nm qs =>
    intro inner tp l H4 hin htp hl nit nli kp4 htg4 htp4 hin4 hjA
    obtain ⟨ts2,hl4,h4⟩:=hjA
    have hok2:=opens_ok okj es
    have niw:inner≠wa:=fun z=>by rw [z,hwa2] at hin;cases hin
    have ntp:tp≠wa:=fun z=>by rw [z,hwa2] at htp;cases htp
    have f2:∀ b,b≠wa→H3 b=none→H2 b=none:=fun b hb e=>by
     cases z:H2 b with
     |none=>rfl
     |some o=>rw [k2 b o hb z] at e;cases e
    refine fin l ts2 H4 (mkJ qs inner so) hl kp4 hl4 (by rw [jwT_mk,(z5p es).2];omega) ?_ ⟨_,htg4,by simp⟩ (fun j hj=>?_) fun H5 kp5 hw5 H' ev=>?_
    ·rw [mkJ,← List.map_reverse]
     exact y0k (z2r h4 fun p' t' g=>⟨g.1,fun z=>by rw [z,hwa2] at g;cases g.2⟩)
    ·obtain ⟨p',hp',rfl⟩:=List.mem_map.mp hj
     exact ⟨hok2 p' hp',s2.free hin,niw,[],hin4,by simp⟩
    ·exact hpost H' (.opens es htg (f2 _ niw hin) (f2 _ ntp htp) (kp5 tg _ ntw htg4) (kp5 tp _ ntp htp4) (kp5 inner _ niw hin4) (fun b o a c e=>kp5 b o c (kp4 b o a (k2 b o c e))) hw5 ev)
end
open PySem L2 VL Pap
theorem z2p {R:RD}{vs:List V}{ds:List D}{H:Hp}{Q:VK}{E:XK}{Qd:Bool→D→List Slot→Prop}(r:Reps H ds vs) (h:R (ds.map .fz) Qd) (k:∀ b d δ' v H',Same H H'→Qd b d δ'→Rep H' d v→Q v H'):spD R vs H Q E:=by
 refine ⟨_,[],H,_,Qd,fun p a e=>by simp at e,y2t (Same.refl _) r,h,fun b d v δ' F' H' I q=>?_⟩
 obtain ⟨F2,s,I2,rv⟩:=I.fr
 exact k b d δ' v H' I.base q (Rep.mono I2.sub _ _ rv)
theorem RepL.reps {H:Hp}{vs:List V}{ps:List Part}{o:List V}{F:List Addr}(h:RepL H vs ps o F):Reps H (pDs ps) vs:=by
 induction h with
 |nil=>rfl
 |txt _ ih=>exact ⟨_,_,rfl,rfl,ih⟩
 |tup ht hl h1 h2 ih1 ih2=>exact ⟨_,_,rfl,⟨_,_,rfl,ht,_,_,rfl,rfl,_,_,rfl,⟨_,_,rfl,hl,ih1⟩,rfl⟩,ih2⟩
theorem z6r:∀ (fs pre:List (Str × List Part)),((pre ++ fs).map (·.1)).Nodup→(fs.map fun r=>(r.1,D.lst (pDs r.2))).foldl (fun acc p=>putS acc p.1 p.2) (z5e pre)=z5e (pre ++ fs)
 | [],pre,_=>by simp
 |r::fs,pre,h=>by
  have hn:r.1∉pre.map (·.1):=fun hm=>by
   rw [List.map_append,List.map_cons] at h
   exact (List.nodup_append.mp h).2.2 r.1 hm r.1 List.mem_cons_self rfl
  have e1:(z5e pre).any (fun kv=>decide (kv.1=Sum.inr r.1))=false:=by
   rw [List.any_eq_false]
   intro x hx hd
   obtain ⟨r',hr,rfl⟩:=List.mem_map.mp hx
   exact hn (List.mem_map.mpr ⟨r',hr,by simpa using hd⟩)
  rw [List.map_cons,List.foldl_cons]
  have e2:putS (z5e pre) r.1 (D.lst (pDs r.2))=z5e (pre ++ [r]):=by
   unfold putS
   rw [e1]
   simp [z5e]
  show List.foldl _ (putS (z5e pre) r.1 (D.lst (pDs r.2))) _=_
  rw [e2,z6r fs (pre ++ [r]) (by simpa using h)]
  simp
section
variable {P:Program}{w:World}{K:PySem.W.Frag}{mg:Str→Option Value}{base:Heap}{f:Addr}{fd:FuncData}
def z7c:Sp:=fun vs H Q _=>∃ (fs:List (Str × List Part)) (ps:List Part) (vf vr:V),vs=[vf,vr]∧Rep H (.lst (fs.map z0x)) vf∧Rep H (.lst (pDs ps)) vr∧fs.length≤1000∧(fs.map (·.1)).Nodup∧(∀ r∈fs,z0q r.2≤1000000∧stL r.2≤1)∧z0q ps≤1000000∧wL fs ps≤1000000 ∧
 ∀ (l:Addr) (us o:List V) (Fp:List Addr) (H':Hp),H l=none→Same H H'→H' l=some (.lst us)→RepL H' us (cerL fs ps) o Fp→(∀ b∈Fp,H b=none)→(l::Fp).Nodup→Q (.ref l) H'
theorem y6y {f1 f2 f3 f4 f5 f6 f7:Addr}{fd1 fd2 fd3 fd4 fd5 fd6 fd7:FuncData}(E_ferried:Ent K mg "ferried" s_ferried ["ferry","row"] f fd) (T:Zs K mg) (E_jobs:Ent K mg "jobs" s_jobs ["parts","target","starred"] f1 fd1) (E_carry:Ent K mg "carry" s_carry ["rules","part","target","starred"] f2 fd2) (E_carried:Ent K mg "carried" s_carried ["rules","row"] f3 fd3) (E_look_ferry:Ent K mg "look_ferry" s_look_ferry ["ferry"] f4 fd4) (E_stars:Ent K mg "stars" s_stars ["row"] f5 fd5) (E_all_parts:Ent K mg "all_parts" s_all_parts ["row"] f6 fd6) (E_sign_of:Ent K mg "sign_of" s_sign_of ["part"] f7 fd7) (kts:PySem.W.kitOne K (.type "tuple") (.type "str")=some false):FnOk P w K mg base CX0 4 f fd ["ferry","row"] z7c:=by
 have G_look_ferry:FnOk P w K mg base CX0 3 f4 fd4 _ (spD z3w):=z5x E_look_ferry T E_stars E_all_parts E_sign_of
 have G_carried:FnOk P w K mg base CX0 3 f3 fd3 _ z4l:=z6u E_carried T E_jobs E_carry kts
 refine E_ferried.F.ok y0b (fun vs H Q E h=>?_) (fun cdv A outer s H vs Q E hr h=>?_)
 ·obtain ⟨_,_,_,_,rfl,_⟩:=h;rfl
 ·obtain ⟨fs,ps,vf,vr,rfl,rf,rr,hl,nd,hok,b2,b3,q⟩:=h
  refine ⟨_,(z0h (z1n (z0r G_look_ferry (hr.mono (by decide)) rfl E_look_ferry.g E_look_ferry.F.kp E_look_ferry.b .nil z0w (z0b (pv 0) z0j)))
   (z0m (z1q (z0r G_carried (hr.mono (by decide)) rfl E_carried.g E_carried.F.kp E_carried.b .nil z0w (z0b (z4m (z2a rfl) rfl T.z_dict PyProof.Rows.boot_dict (z0b (pv 0) z0j)) (z0b (pv 1) z0j)))))),?_⟩
  have sz:=z0u
  walk_at "rs"
  refine z2p (ds:=[.lst (fs.map z0x)]) (Qd:=fun b d _=>True) ⟨_,_,rfl,rf,rfl⟩ ⟨fs,rfl,hl,nd,hok,trivial⟩ fun b d δ' v H1 s1 _ _=>?_
  obtain ⟨fa,fv,rfl,hfa,rfa⟩:=Rep.mono s1 _ _ rf
  obtain ⟨ra,rvs,rfl,hra,rra⟩:=Rep.mono s1 _ _ rr
  have rfa':Reps H1 ((fs.map fun r=>(r.1,D.lst (pDs r.2))).map fun p=>D.tup [.str p.1,p.2]) fv:=by
   rw [List.map_map];exact rfa
  obtain ⟨qs,q1,q2,q3⟩:=z5k rfa'
  have q4:=q3 [] [] rfl
  rw [show ([]:List (Key × D))=z5e [] from rfl,z6r fs [] nd] at q4
  refine ⟨fa,rfl,fv,hfa,qs,q1,q2,fun l hl'=>?_⟩
  have s2:Same H1 (upd H1 l (.dK (z2n [] qs))):=Same.of_new hl'
  refine ⟨_,fs,l,ra,_,rvs,ps,rfl,Same.refl _,.inl z0d,RepK.mono s2 _ _ q4,s2 _ _ hra,Reps.mono s2 _ _ rra,fun r hr=>(hok r hr).1,b2,b3,fun l2 us o Fp H' h1 h2 h3 h4 h5 h6=>q l2 us o Fp H' ((s1.trans s2).free h1) ((s1.trans s2).trans h2) h3 h4 (fun b hb=>(s1.trans s2).free (h5 b hb)) h6⟩
end
open PySem L2 VL Pap
mutual
theorem cer1_fer {fs:List (Str × List Part)}:∀ p:Part,st1 p=0→cer1 fs p=fer1 fs p
 |.txt s,_=>rfl
 |.tup n ps,h=>by
  simp only [st1] at h
  have hn:n ≠ "*":=fun e=>by rw [if_pos e] at h;omega
  have ih:=y1n (fs:=fs) ps (by omega)
  simp only [cer1,fer1,hn,if_false,ih]
  all_goals (cases z4c fs n <;> rfl)
theorem y1n {fs:List (Str × List Part)}:∀ ps:List Part,stL ps=0→cerL fs ps=ferL fs ps
 | [],_=>rfl
 |p::ps,h=>by
  simp only [stL] at h
  simp only [cerL,ferL,cer1_fer p (by omega),y1n ps (by omega)]
end
mutual
theorem wf1_le (k:Nat):∀ p:Part,wf1 k p≤z1j p+st1 p * k
 |.txt s=>by simp [wf1,z1j]
 |.tup n ps=>by
  have ih:=wfL_le k ps
  simp only [wf1,z1j,st1,Nat.add_mul]
  by_cases h:n = "*"
  ·rw [if_pos h,if_pos h];omega
  ·rw [if_neg h,if_neg h];omega
theorem wfL_le (k:Nat):∀ ps:List Part,wfL k ps≤z0q ps+stL ps * k
 | []=>by simp [wfL]
 |p::ps=>by
  have h1:=wf1_le k p
  have h2:=wfL_le k ps
  simp only [wfL,z0q,stL,Nat.add_mul];omega
end
mutual
theorem w1_le {fs:List (Str × List Part)}(ok:∀ r∈fs,z0q r.2≤48∧stL r.2≤1):∀ p:Part,w1 fs p≤49 * z1j p
 |.txt s=>by simp [w1,z1j]
 |.tup n ps=>by
  have ih:=y7d ok ps
  simp only [w1,z1j]
  cases e:z4c fs n with
  |none=>simp only;omega
  |some row =>
   obtain ⟨r,hr,rfl,_⟩:=z6o e
   obtain ⟨s1,s2⟩:=ok r hr
   have f1:=wfL_le (wL fs ps) r.2
   have f3:stL r.2 * wL fs ps≤1 * wL fs ps:=Nat.mul_le_mul_right _ s2
   simp only;omega
theorem y7d {fs:List (Str × List Part)}(ok:∀ r∈fs,z0q r.2≤48∧stL r.2≤1):∀ ps:List Part,wL fs ps≤49 * z0q ps
 | []=>by simp [wL]
 |p::ps=>by
  have h1:=w1_le ok p
  have h2:=y7d ok ps
  simp only [wL,z0q];omega
end
mutual
theorem dep_pD:∀ p:Part,dep (pD p)≤2 * dp1 p
 |.txt s=>by simp [pD,dep]
 |.tup n ps=>by
  have:=y2e ps
  simp only [pD,dep,depL,dp1];omega
theorem y2e:∀ ps:List Part,depL (pDs ps)≤2 * dpL ps
 | []=>by simp [pDs,depL]
 |p::ps=>by
  have h1:=dep_pD p
  have h2:=y2e ps
  simp only [pDs,depL,dpL];omega
end
mutual
theorem eqb_pD:∀ p:Part,eqb (pD p)=true
 |.txt s=>rfl
 |.tup n ps=>by have:=y1j ps;simp [pD,eqb,eqbL,this]
theorem y1j:∀ ps:List Part,eqbL (pDs ps)=true
 | []=>rfl
 |p::ps=>by simp [pDs,eqbL,eqb_pD p,y1j ps]
end
theorem z9w:∀ fs:List (Str × List Part),(∀ r∈fs,dpL r.2≤8)→depL (fs.map z0x)≤18
 | [],_=>by simp [depL]
 |r::fs,h=>by
  have h1:=h r List.mem_cons_self
  have h2:=z9w fs fun q hq=>h q (List.mem_cons_of_mem _ hq)
  have h3:=y2e r.2
  simp only [List.map_cons,z0x,depL,dep];omega
theorem y0f:∀ fs:List (Str × List Part),eqbL (fs.map z0x)=true
 | []=>rfl
 |r::fs=>by
  have h2:=y0f fs
  simp [List.map_cons,z0x,eqbL,eqb,y1j,h2]
section
variable {X:Cx}
end
section
variable {X:Cx}{CX:CXT}{k:Nat}{f:Addr}{fd:FuncData}{ps:List Str}{R:RD}{E:XK}{x y:Str}{p p' pos:Pos}{es:List Expr}{u:TLd}{i:Nat}
end
theorem comp2m {ds:List D}{te:TEd}{Q:Bool→D→List VL.Slot→Prop}{δ:List VL.Slot}(f:D→D) (hl:ds.length≤sizeLine) (hd:∀ d∈ds,∃ a b,d = .tup [a,b])
  (h:∀ a b,D.tup [a,b]∈ds→∀ P:D→List VL.Slot→Prop,P (f (.tup [a,b])) (.fz a :: .fz b::δ)→te (.fz a :: .fz b::δ) fun _ y δ'=>P y δ') (q:Q true (.lst (ds.map f)) δ):CompD 2 ds (dgTup 2 (z8i (dgN 0) (z8i (dgN 1) dgNil))) dYes te Q δ:=by
 refine ⟨fun r acc δ1=>δ1=δ∧∃ pre,ds=pre ++ r∧acc=pre.map f,⟨rfl,[],rfl,rfl⟩,?_,?_⟩
 ·rintro d r acc δ1 ⟨rfl,pre,e,rfl⟩
  have hm:d∈ds:=by rw [e];simp
  obtain ⟨a,b,rfl⟩:=hd d hm
  have hlen:pre.length < sizeLine:=by rw [e] at hl;simp at hl;omega
  refine ⟨_,rfl,rfl,_,_,rfl,trivial,_,_,rfl,trivial,rfl,?_⟩
  unfold dYes
  dsimp only
  rw [if_pos rfl]
  refine h a b hm (fun y δ'=>(pre.map f).length < sizeLine∧δ'.drop 2=δ1∧∃ pre',ds=pre' ++ r∧pre.map f ++ [y]=pre'.map f) ⟨by simpa using hlen,rfl,pre ++ [.tup [a,b]],by simp [e],by simp⟩
 ·rintro acc δ1 ⟨rfl,pre,e,rfl⟩
  rw [List.append_nil] at e
  subst e
  exact q
open PySem L2 VL Pap
def z9i:Part:=.tup "*" []
def joinL (one other:List (Str × List Part)):List (Str × List Part):=one.map (fun r=>(r.1,cerL other r.2)) ++ (other.filter fun r=>(z4c one r.1).isNone).map fun r=>(r.1,cerL other [.tup r.1 [z9i]])
open PySem L2 VL Pap
section
variable {P:Program}{w:World}{K:PySem.W.Frag}{mg:Str→Option Value}{base:Heap}{f:Addr}{fd:FuncData}
def R_stay:RD:=fun δ Q=>∃ n:Str,δ=[.fz (.str n)]∧Q true (.lst (pDs [.tup n [z9i]])) [.no]
theorem ok_stay (E_staying_row:Ent K mg "staying_row" s_staying_row ["name"] f fd) (T:Zs K mg):FnOk P w K mg base CX0 1 f fd ["name"] (spD R_stay):=by
 refine VL.Fun.dok E_staying_row.F z9g (fun δ Qd h=>?_) (by decide) (fun cdv A outer s H E δ Qd hr h=>?_)
 ·obtain ⟨_,rfl,_⟩:=h;rfl
 ·obtain ⟨n,rfl,q⟩:=h
  refine ⟨_,(z0i (z0z (z1c (z0a (z3a (z0a (dv 0) (z0a (z1c (z0a (z3a (z0a (de_gS rfl T.g_STAR) (z0a (z1c z0g) z0g))) z0g)) z0g))) z0g)))),?_⟩
  have sz:=z0u
  walk_at "vd"
  exact ⟨by omega,by omega,by omega,by omega,by omega,q⟩
def y5w:RD:=fun δ Q=>∃ fs:List (Str × List Part),δ=[.fz (.lst (fs.map z0x))]∧fs.length≤1000∧(∀ r∈fs,dpL r.2 < 20∧z0q r.2≤1000000)∧Q true (.lst (fs.map z0x)) [.no]
theorem ok_cferry {f1:Addr}{fd1:FuncData}(E__law_copy_ferry:Ent K mg "_law_copy_ferry" s__law_copy_ferry ["_law_ferry_here"] f fd) (T:Zs K mg) (E__law_copy_row:Ent K mg "_law_copy_row" s__law_copy_row ["_law_row"] f1 fd1):FnOk P w K mg base CX0 22 f fd ["_law_ferry_here"] (spD y5w):=by
 have G__law_copy_row:FnOk P w K mg base CX0 21 f1 fd1 _ (spD (R_copy 20)):=ok_copy E__law_copy_row T 20
 refine VL.Fun.dok E__law_copy_ferry.F z6n (fun δ Qd h=>?_) (by decide) (fun cdv A outer s H E δ Qd hr h=>?_)
 ·obtain ⟨_,rfl,_⟩:=h;rfl
 ·obtain ⟨fs,rfl,hl,hok,q⟩:=h
  refine ⟨_,(z0i (z0z (z5v ["_law_name_here","_law_row"] ["_law_ferry_here"] rfl (show CScopeG (z0c s__law_copy_ferry) ["_law_ferry_here"] ["_law_name_here","_law_row"] _ _ from ⟨rfl,by decide +kernel,by decide +kernel,by decide +kernel,by decide +kernel⟩) (z2i (dv 0)) (fun _ _ _ _ _=>(y5p (m:=2) rfl (z4k (z2j (i:=0) (by decide) (show List.Nodup (["_law_name_here","_law_row","_law_ferry_here"]:List Str) from by decide +kernel) rfl (Or.inl rfl)) (z4k (z2j (i:=1) (by decide) (show List.Nodup (["_law_name_here","_law_row","_law_ferry_here"]:List Str) from by decide +kernel) rfl (Or.inl rfl)) y1g)))) (fun _ _ _ _ _=>z7i) (fun _ _ _ _ _=>(z3a (z0a (dv 0) (z0a (z0v G__law_copy_row (hr.mono (by decide)) rfl E__law_copy_row.g E__law_copy_row.F.kp E__law_copy_row.b z0w (z0a (dv 1) z0g)) z0g))))))),?_⟩
  have sz:=z0u
  walk_at "vd"
  refine comp2m id (by simp;omega) (fun d hd=>?_) (fun a b hm P hP=>?_) ?_
  ·obtain ⟨r,hr,rfl⟩:=List.mem_map.mp hd
   exact ⟨_,_,rfl⟩
  ·obtain ⟨r,hr,e⟩:=List.mem_map.mp hm
   cases e
   obtain ⟨o1,o2⟩:=hok r hr
   walk_at "vd"
   refine ⟨r.2,rfl,by omega,by omega,?_⟩
   walk_at "vd"
   exact ⟨by omega,hP⟩
  ·rw [List.map_id]
   walk_at "vd"
   exact q
end
open PySem L2 VL Pap
theorem pg_tupK {X:Cx}{K:PySem.W.Frag}{es:List Expr}{k:Nat}{t:TGs}{n:Nat}{pos:Pos}(hK:X.K=K) (hc:X.calm=true) (h:PGs X es t)
  (hn:(assignEach es X.env).length=n:=by rfl) (hst:(assignEach es X.env).findIdx? (·.1)=none:=by rfl):PG X (.Tuple es k pos) (gTup K n t):=by
 subst hK
 exact y2q hc h hn hst
def toP (r:Str × List Part):Part:=.tup r.1 r.2
def Made (H0 H':Hp) (D:Addr) (ys:List V) (rs:List (Str × List Part)):Prop:=H' D=some (.lst ys)∧Same H0 H'∧ys.length=rs.length∧∃ o Fp,RepL H' ys (rs.map toP) o Fp∧(∀ b∈Fp,H0 b=none)∧(D::Fp).Nodup
theorem Made.start {H0:Hp}{D:Addr}(h:H0 D=none):Made H0 (upd H0 D (.lst [])) D [] [] :=
 ⟨z0d,Same.of_new h,rfl,[],[],.nil,fun b hb=>(by cases hb),by simp⟩
theorem Made.step {H0 H' H'':Hp}{D l p:Addr}{ys us o1:List V}{F1:List Addr}{rs:List (Str × List Part)}{n:Str}{row:List Part}(M:Made H0 H' D ys rs) (hD:H0 D=none) (hl:H' l=none) (s1:Same H' H'') (hus:H'' l=some (.lst us)) (r1:RepL H'' us row o1 F1) (f1:∀ b∈F1,H' b=none) (nd1:(l::F1).Nodup) (hp:H'' p=none) :
  upd H'' p (.tup [.str n,.ref l]) D=some (.lst ys)∧Made H0 (upd (upd H'' p (.tup [.str n,.ref l])) D (.lst (ys ++ [.ref p]))) D (ys ++ [.ref p]) (rs ++ [(n,row)]):=by
 obtain ⟨m1,m2,m3,o,Fp,m4,m5,m6⟩:=M
 have hD'':=s1 _ _ m1
 have nDp:D≠p:=z0l hD'' hp
 have e1:upd H'' p (.tup [.str n,.ref l]) D=some (.lst ys):=by rw [z0f nDp];exact hD''
 refine ⟨e1,z0d,?_,by simp [m3],?_⟩
 ·exact ((m2.trans s1).upd ((m2.trans s1).free hp)).upd hD
 have kp:∀ b o,b≠D→H'' b=some o→upd (upd H'' p (.tup [.str n,.ref l])) D (.lst (ys ++ [.ref p])) b=some o:=fun b o hb e=>by
  rw [z0f hb,z0f (z0l e hp)];exact e
 obtain ⟨nDF,nF⟩:=List.nodup_cons.mp m6
 have lD:l≠D:=fun z=>by rw [z,m1] at hl;cases hl
 have D1:D∉F1:=fun h=>by have:=f1 D h;rw [m1] at this;cases this
 have rA:RepL (upd (upd H'' p (.tup [.str n,.ref l])) D (.lst (ys ++ [.ref p]))) ys (rs.map toP) o Fp:=by
  refine (m4.same s1).frame (fun b hb=>?_) fun b xs e=>kp b _ (z6c e hD'' (by intro z;cases z)) e
  obtain ⟨xs,e⟩:=(m4.same s1).lsts b hb
  rw [e];exact kp b _ (fun z=>nDF (z ▸ hb)) e
 have rB:RepL (upd (upd H'' p (.tup [.str n,.ref l])) D (.lst (ys ++ [.ref p]))) us row o1 F1:=by
  refine r1.frame (fun b hb=>?_) fun b xs e=>kp b _ (z6c e hD'' (by intro z;cases z)) e
  obtain ⟨xs,e⟩:=r1.lsts b hb
  rw [e];exact kp b _ (fun z=>D1 (z ▸ hb)) e
 have hpp:upd (upd H'' p (.tup [.str n,.ref l])) D (.lst (ys ++ [.ref p])) p=some (.tup [.str n,.ref l]):=by rw [z0f (Ne.symm nDp),z0d]
 refine ⟨_,_,by rw [List.map_append];exact rA.append (.tup hpp (kp l _ lD hus) rB .nil),fun b hb=>?_,?_⟩
 ·rcases List.mem_append.mp hb with h|h
  ·exact m5 b h
  ·rcases List.mem_cons.mp h with rfl|h
   ·exact m2.free hl
   ·rw [List.append_nil] at h;exact m2.free (f1 b h)
 ·rw [List.append_nil]
  refine List.nodup_cons.mpr ⟨fun h=>?_,List.nodup_append.mpr ⟨nF,nd1,fun a ha b hb e=>?_⟩⟩
  ·rcases List.mem_append.mp h with h|h
   ·exact nDF h
   ·rcases List.mem_cons.mp h with h|h
    ·exact lD h.symm
    ·exact D1 h
  ·obtain ⟨xs,ea⟩:=m4.lsts a ha
   rw [e] at ea
   rcases List.mem_cons.mp hb with rfl|hb
   ·rw [hl] at ea;cases ea
   ·rw [f1 b hb] at ea;cases ea
theorem repk_at {F:Hp}:∀ {ds:List (Key × D)}{vs:List (Key × V)}{i:Nat}{k:Key}{d:D},RepK F ds vs→ds[i]? = some (k,d)→∃ v,vs[i]? = some (k,v)
 | [],vs,i,k,d,h,e=>by simp at e
 |(k0,d0)::ds,vs,0,k,d,h,e=>by
  obtain ⟨⟨k1,v1⟩,r,rfl,⟨e1,_⟩,h2⟩:=h
  simp at e
  obtain ⟨rfl,rfl⟩:=e
  cases (show k1=k0 from e1)
  exact ⟨v1,rfl⟩
 |(k0,d0)::ds,vs,i+1,k,d,h,e=>by
  obtain ⟨v1,r,rfl,_,h2⟩:=h
  obtain ⟨v,ev⟩:=repk_at h2 (i:=i) (by simpa using e)
  exact ⟨v,by simpa using ev⟩
section
variable {P:Program}{w:World}{K:PySem.W.Frag}{mg:Str→Option Value}{base:Heap}{f:Addr}{fd:FuncData}
def z8s:Sp:=fun vs H Q _=>∃ (one other:List (Str × List Part)) (vo vr:V),vs=[vo,vr]∧Rep H (.lst (one.map z0x)) vo∧Rep H (.lst (other.map z0x)) vr∧FerW one∧FerW other ∧
 ∀ (l:Addr) (us o:List V) (Fp:List Addr) (H':Hp),H l=none→Same H H'→H' l=some (.lst us)→RepL H' us ((joinL one other).map toP) o Fp→(∀ b∈Fp,H b=none)→(l::Fp).Nodup→Q (.ref l) H'
theorem ok_joined {f1 f2 f3 f4 f5 f6 f7 f8:Addr}{fd1 fd2 fd3 fd4 fd5 fd6 fd7 fd8:FuncData}(E_joined:Ent K mg "joined" s_joined ["one","other"] f fd) (T:Zs K mg) (E_jobs:Ent K mg "jobs" s_jobs ["parts","target","starred"] f1 fd1) (E_carry:Ent K mg "carry" s_carry ["rules","part","target","starred"] f2 fd2) (E_carried:Ent K mg "carried" s_carried ["rules","row"] f3 fd3) (E_look_ferry:Ent K mg "look_ferry" s_look_ferry ["ferry"] f4 fd4) (E_stars:Ent K mg "stars" s_stars ["row"] f5 fd5) (E_all_parts:Ent K mg "all_parts" s_all_parts ["row"] f6 fd6) (E_sign_of:Ent K mg "sign_of" s_sign_of ["part"] f7 fd7) (E_staying_row:Ent K mg "staying_row" s_staying_row ["name"] f8 fd8) (kts:PySem.W.kitOne K (.type "tuple") (.type "str")=some false):FnOk P w K mg base CX0 4 f fd ["one","other"] z8s:=by
 have G_look_ferry:FnOk P w K mg base CX0 3 f4 fd4 _ (spD z3w):=z5x E_look_ferry T E_stars E_all_parts E_sign_of
 have G_carried:FnOk P w K mg base CX0 3 f3 fd3 _ z4l:=z6u E_carried T E_jobs E_carry kts
 have G_staying_row:FnOk P w K mg base CX0 1 f8 fd8 _ (spD R_stay):=ok_stay E_staying_row T
 refine E_joined.F.ok sc_joined (fun vs H Q E h=>?_) (fun cdv A outer s H vs Q E hr h=>?_)
 ·obtain ⟨_,_,_,_,rfl,_⟩:=h;rfl
 ·obtain ⟨one,other,vo,vr,rfl,ro,rr,o1,o2,q⟩:=h
  have hu:=z4f hr
  refine ⟨_,(z0h (z1n (z0r G_look_ferry (hr.mono (by decide)) rfl E_look_ferry.g E_look_ferry.F.kp E_look_ferry.b .nil z0w (z0b (pv 0) z0j)))
   (z0h (z1n (z0r G_look_ferry (hr.mono (by decide)) rfl E_look_ferry.g E_look_ferry.F.kp E_look_ferry.b .nil z0w (z0b (pv 1) z0j)))
   (z0h (z2f (i:=2) sc_joined.nd rfl (Or.inr rfl) (z4m (z2a rfl) rfl T.z_dict PyProof.Rows.boot_dict (z0b (pv 0) z0j)))
   (z0h (z2f (i:=3) sc_joined.nd rfl (Or.inr rfl) (z4m (z2a rfl) rfl T.z_dict PyProof.Rows.boot_dict (z0b (pv 1) z0j)))
   (z0h (y6p (j:=4) ["name","row"] ["one","other","firsts","seconds","told"] sc_joined.nd rfl rfl rfl (fun _ _ _ _ _=>(by exact pg_tupK (K:=K) (n:=2) (by exact rfl) (by exact rfl) (z3x (by exact (z4b (i:=0) (show List.Nodup (["name","row","one","other","firsts","seconds","told"]:List Str) from by decide +kernel) rfl (Or.inl rfl))) (z3x (by exact (z4b (i:=1) (show List.Nodup (["name","row","one","other","firsts","seconds","told"]:List Str) from by decide +kernel) rfl (Or.inl rfl))) z7v)))) (show CScopeG (z0c s_joined) ["one","other","firsts","seconds","told"] ["name","row"] _ _ from ⟨rfl,by decide +kernel,by decide +kernel,by decide +kernel,by decide +kernel⟩) (z8f (pv 0)) (fun _ _ _ _ _=>pf_nil) (fun _ _ _ _ _=>(z3i (z0b (pv 0) (z0b (z0r G_carried (hr.mono (by decide)) rfl E_carried.g E_carried.F.kp E_carried.b .nil z0w (z0b (pv 5) (z0b (pv 1) z0j))) z0j)))))
   (z0h (z1n (y2a PySem.F.slot_list_extend PySem.F.type_list_extend z6q (pv 4) (z0b (z7s ["name"] ["one","other","firsts","seconds","told"] rfl (fun _ _ _ _ _=>(z4b (i:=0) (show List.Nodup (["name","one","other","firsts","seconds","told"]:List Str) from by decide +kernel) rfl (Or.inl rfl))) (show CScopeG (z0c s_joined) ["one","other","firsts","seconds","told"] ["name"] _ _ from ⟨rfl,by decide +kernel,by decide +kernel,by decide +kernel,by decide +kernel⟩) (pi_dict (pv 3)) (fun _ _ _ _ _=>(pf_one (z9o (z8a (hu1 hu) (pv 0) (pv 3)) rfl))) (fun _ _ _ _ _=>(z3i (z0b (pv 0) (z0b (z0r G_carried (hr.mono (by decide)) rfl E_carried.g E_carried.F.kp E_carried.b .nil z0w (z0b (pv 4) (z0b (z0r G_staying_row (hr.mono (by decide)) rfl E_staying_row.g E_staying_row.F.kp E_staying_row.b .nil z0w (z0b (pv 0) z0j)) z0j))) z0j))))) z0j)))
   (z0m (z1q (pv 4))))))))),?_⟩
  have sz:=z0u
  walk_at "rs"
  have lk:∀ {fs:List (Str × List Part)},FerW fs→∀ r∈fs,z0q r.2≤1000000∧stL r.2≤1:=fun ok r hr=>⟨by have:=(ok.ok r hr).sz;omega,(ok.ok r hr).st⟩
  have l1:=o1.len
  have l2:=o2.len
  refine z2p (ds:=[.lst (one.map z0x)]) (Qd:=fun b d _=>True) ⟨_,_,rfl,ro,rfl⟩ ⟨one,rfl,by omega,o1.nd,lk o1,trivial⟩ fun b d δ' v Ha sa _ _=>?_
  have rr:=Rep.mono sa _ _ rr
  have ro:=Rep.mono sa _ _ ro
  refine z2p (ds:=[.lst (other.map z0x)]) (Qd:=fun b d _=>True) ⟨_,_,rfl,rr,rfl⟩ ⟨other,rfl,by omega,o2.nd,lk o2,trivial⟩ fun b d δ' v Hb sb _ _=>?_
  have rr:=Rep.mono sb _ _ rr
  have ro:=Rep.mono sb _ _ ro
  obtain ⟨oa,ov,rfl,hoa,roa⟩:=ro
  obtain ⟨ra,rv,rfl,hra,rra⟩:=rr
  have conv:∀ {fs:List (Str × List Part)}{F:Hp}{us:List V},Reps F (fs.map z0x) us→Reps F ((fs.map fun r=>(r.1,D.lst (pDs r.2))).map fun p=>D.tup [.str p.1,p.2]) us:=fun h=>by
   rw [List.map_map];exact h
  obtain ⟨qs,q1,q2,q3⟩:=z5k (conv roa)
  have q4:=q3 [] [] rfl
  rw [show ([]:List (Key × D))=z5e [] from rfl,z6r one [] o1.nd] at q4
  refine ⟨oa,rfl,ov,hoa,qs,q1,q2,fun d1 hd1=>?_⟩
  have s1:Same Hb (upd Hb d1 (.dK (z2n [] qs))):=Same.of_new hd1
  have e1:upd Hb d1 (.dK (z2n [] qs)) d1=some (.dK (z2n [] qs)):=z0d
  have q4:=RepK.mono s1 _ _ q4
  have hra:=s1 _ _ hra
  have rra:=Reps.mono s1 _ _ rra
  have hoa:=s1 _ _ hoa
  have roa:=Reps.mono s1 _ _ roa
  have fre:∀ b,¬ b=d1→Hb b=none→upd Hb d1 (.dK (z2n [] qs)) b=none:=fun b hb e=>by rw [z0f hb];exact e
  generalize upd Hb d1 (.dK (z2n [] qs))=Hc at s1 e1 q4 hra rra hoa roa fre ⊢
  simp only [List.nil_append] at q4
  generalize z2n [] qs=kv1 at q4 e1
  obtain ⟨qs2,p1,p2,p3⟩:=z5k (conv rra)
  have p4:=p3 [] [] rfl
  rw [show ([]:List (Key × D))=z5e [] from rfl,z6r other [] o2.nd] at p4
  simp only [List.nil_append] at p4
  refine ⟨ra,rfl,rv,hra,qs2,p1,p2,fun d2 nd2 hd2=>?_⟩
  have hd2:=fre d2 nd2 hd2
  have s2:Same Hc (upd Hc d2 (.dK (z2n [] qs2))):=Same.of_new hd2
  have e2:upd Hc d2 (.dK (z2n [] qs2)) d2=some (.dK (z2n [] qs2)):=z0d
  have e1:=s2 _ _ e1
  have q4:=RepK.mono s2 _ _ q4
  have p4c:=p4
  have p4:=RepK.mono s2 _ _ p4
  have hoa:=s2 _ _ hoa
  have roa:=Reps.mono s2 _ _ roa
  have s02:Same H (upd Hc d2 (.dK (z2n [] qs2))):=((sa.trans sb).trans s1).trans s2
  generalize upd Hc d2 (.dK (z2n [] qs2))=H2 at s2 e2 e1 q4 p4 hoa roa s02 ⊢
  generalize z2n [] qs2=kv2 at p4 p4c e2
  refine ⟨_,rfl,oa,rfl,⟨ov,SqL.of hoa⟩,fun D1 hD1=>?_⟩
  have ol:one.length=ov.length:=by have:=roa.len;simpa using this
  refine ⟨fun i m ys H'=>m=one.length - i∧i≤one.length∧Made H2 H' D1 ys ((one.take i).map fun r=>(r.1,cerL other r.2)),⟨one.length,by simp,Nat.zero_le _,by simpa using Made.start hD1⟩,?_⟩
  rintro i m ys H3 ⟨rfl,hi,M⟩
  refine ⟨M.1,?_⟩
  have s23:=M.2.1
  by_cases hlt:i < one.length
  ·refine .inr ⟨⟨ov,ov[i]'(by omega),SqL.of (s23 _ _ hoa),List.getElem?_eq_getElem _⟩,fun ys' H'=>i+1≤one.length∧Made H2 H' D1 ys' ((one.take (i+1)).map fun r=>(r.1,cerL other r.2)),fun ys' H' hN=>⟨one.length - (i+1),by omega,rfl,hN⟩,fun v H4 y τ hτ=>?_⟩
   obtain ⟨rfl,y⟩:=y
   have ev:=y ov (SqL.of (s23 _ _ hoa))
   have er:(one.map z0x)[i]? = some (z0x one[i]):=by rw [List.getElem?_map,List.getElem?_eq_getElem hlt];rfl
   obtain ⟨v',ev',rv'⟩:=roa.get er
   rw [ev] at ev';cases ev'
   obtain ⟨t,tv,rfl,ht,u1,r1,rfl,z1,u2,r2,rfl,z2,z3⟩:=rv'
   cases (show r2=[] from z3)
   cases (show u1 = .str one[i].1 from z1)
   match τ,hτ with
   | [t1,t2],_ =>
   refine ⟨t,_,rfl,SqT.of (s23 _ _ ht),rfl,_,_,rfl,_,_,rfl,rfl,⟨[some _,some _],rfl,rfl⟩,?_⟩
   walk_at "rd"
   obtain ⟨xa,xv,rfl,hxa,rxa⟩:=z2
   have ok:=o1.ok _ (List.getElem_mem hlt)
   have c1:=ok.sz
   have wl:=y7d (fs:=other) (fun r hr=>⟨(o2.ok r hr).sz,(o2.ok r hr).st⟩) one[i].2
   refine ⟨H2,other,d2,xa,kv2,xv,one[i].2,rfl,s23,.inl e2,p4,hxa,rxa,fun r hr=>(lk o2 r hr).1,by omega,by omega,fun l us o Fp H5 hl s5 hus rep hF nd=>⟨by omega,fun p hp=>?_⟩⟩
   obtain ⟨a1,a2⟩:=M.step (n:=one[i].1) hD1 hl s5 hus rep hF nd hp
   have yl:=M.2.2.1
   rw [List.length_map,List.length_take] at yl
   refine ⟨a1,by omega,hlt,?_⟩
   rw [List.take_add_one,List.getElem?_eq_getElem hlt,List.map_append]
   exact a2
  ·have ei:i=one.length:=by omega
   subst ei
   rw [List.take_length] at M
   refine .inl ⟨⟨ov,SqL.of (s23 _ _ hoa),by omega⟩,D1,rfl,⟨_,M.1⟩,?_⟩
   have e2':=s23 _ _ e2
   refine ⟨_,rfl,d2,rfl,kv2,e2',fun ob D2 hD2=>?_⟩
   have kB:∀ b u,b≠d2→H3 b=some u→upd H3 d2 (.frz ob (.dK kv2)) b=some u:=fun b u hb e=>by rw [z0f hb];exact e
   have sc:Same Hc H3:=s2.trans s23
   have hB2:upd H3 d2 (.frz ob (.dK kv2)) d2=some (.frz ob (.dK kv2)):=z0d
   generalize upd H3 d2 (.frz ob (.dK kv2))=HB at kB hB2 hD2 ⊢
   have scB:Same Hc HB:=fun b u e=>kB b u (fun z=>by rw [z,hd2] at e;cases e) (sc _ _ e)
   have e1B:HB d1=some (.dK kv1):=kB d1 _ (fun z=>nd2 z.symm) (s23 _ _ e1)
   have kl:other.length=kv2.length:=by have:=p4c.len;simpa [z5e] using this
   refine ⟨fun i m ys H'=>m=other.length - i∧i≤other.length∧Made HB H' D2 ys (((other.take i).filter fun r=>(z4c one r.1).isNone).map fun r=>(r.1,cerL other [.tup r.1 [z9i]])),⟨other.length,by simp,Nat.zero_le _,by simpa using Made.start hD2⟩,?_⟩
   rintro j m zs H4 ⟨rfl,hj,M2⟩
   refine ⟨M2.1,?_⟩
   have sB4:=M2.2.1
   by_cases hlt2:j < other.length
   ·refine .inr ⟨⟨sB4 _ _ hB2,by omega⟩,fun ys' H'=>j+1≤other.length∧Made HB H' D2 ys' (((other.take (j+1)).filter fun r=>(z4c one r.1).isNone).map fun r=>(r.1,cerL other [.tup r.1 [z9i]])),fun ys' H' hN=>⟨other.length - (j+1),by omega,rfl,hN⟩,fun v H5 y τ hτ=>?_⟩
    obtain ⟨rfl,kv,ek,rfl⟩:=y
    obtain ⟨v0,ek0⟩:=repk_at p4c (i:=j) (k:=Sum.inr other[j].1) (d:=.lst (pDs other[j].2)) (by simp [z5e,List.getElem?_eq_getElem hlt2])
    rw [ek0] at ek;cases ek
    match τ,hτ with
    | [t1],_ =>
    refine ⟨⟨[some _],rfl,rfl⟩,?_⟩
    have hval:=q4.val other[j].1
    rw [z6x] at hval
    have ok2:=o2.ok _ (List.getElem_mem hlt2)
    have etk:List.take (j+1) other=List.take j other ++ [other[j]]:=by rw [List.take_add_one,List.getElem?_eq_getElem hlt2];rfl
    walk_at "rd"
    refine ⟨_,DGet.rO (.inl (sB4 _ _ e1B)),?_⟩
    cases er:z4c one other[j].1 with
    |some row =>
     rw [er] at hval
     obtain ⟨v,ev,_⟩:=hval.1 _ rfl
     rw [ev]
     refine ⟨false,rfl,?_⟩
     rw [if_neg Bool.false_ne_true]
     refine ⟨hlt2,?_⟩
     rw [etk,List.filter_append]
     have:List.filter (fun r:Str × List Part=>(z4c one r.1).isNone) [other[j]]=[]:=by simp [er]
     rw [this,List.append_nil]
     exact M2
    |none =>
     rw [er] at hval
     rw [hval.2 rfl]
     refine ⟨true,rfl,?_⟩
     rw [if_pos rfl]
     refine z2p (ds:=[.str other[j].1]) (Qd:=fun b d _=>d = .lst (pDs [.tup other[j].1 [z9i]])) ⟨_,_,rfl,rfl,rfl⟩ ⟨_,rfl,rfl⟩ fun b d δ' v H6 s6 ed rd=>?_
     cases ed
     obtain ⟨xa,xv,rfl,hxa,rxa⟩:=rd
     have sc6:Same Hc H6:=(scB.trans sB4).trans s6
     have sB6:Same HB H6:=sB4.trans s6
     have wl:=y7d (fs:=other) (fun r hr=>⟨(o2.ok r hr).sz,(o2.ok r hr).st⟩) [.tup other[j].1 [z9i]]
     have wz:z0q [Part.tup other[j].1 [z9i]]=2:=by simp [z0q,z1j,z9i]
     refine ⟨H6,other,d2,xa,kv2,xv,[.tup other[j].1 [z9i]],rfl,Same.refl _,.inr ⟨ob,sB6 _ _ hB2⟩,RepK.mono sc6 _ _ p4c,hxa,rxa,fun r hr=>(lk o2 r hr).1,by omega,by omega,fun l us o Fp H7 hl s7 hus rep hF nd=>⟨by omega,fun p hp=>?_⟩⟩
     obtain ⟨a1,a2⟩:=M2.step (n:=other[j].1) hD2 (s6.free hl) (s6.trans s7) hus rep (fun b hb=>s6.free (hF b hb)) nd hp
     have yl:=M2.2.2.1
     have fl:=List.length_filter_le (fun r:Str × List Part=>(z4c one r.1).isNone) (List.take j other)
     rw [List.length_map] at yl
     rw [List.length_take] at fl
     refine ⟨a1,by omega,hlt2,?_⟩
     rw [etk,List.filter_append]
     have:List.filter (fun r:Str × List Part=>(z4c one r.1).isNone) [other[j]]=[other[j]]:=by simp [er]
     rw [this,List.map_append]
     exact a2
   ·have ej:j=other.length:=by omega
    subst ej
    rw [List.take_length] at M2
    refine .inl ⟨⟨sB4 _ _ hB2,kl⟩,?_⟩
    obtain ⟨m1,m2,m3,o,Fp,m4,m5,m6⟩:=M
    obtain ⟨w1,w2,w3,o',Fp',w4,w5,w6⟩:=M2
    have D1B:HB D1=some (.lst ys):=kB D1 _ (fun z=>by rw [z,e2'] at m1;cases m1) m1
    have D14:=w2 _ _ D1B
    have fl:=List.length_filter_le (fun r:Str × List Part=>(z4c one r.1).isNone) other
    rw [List.length_map] at m3 w3
    refine ⟨D2,rfl,ys,D14,zs,w1,by omega,?_⟩
    have kE:∀ b u,b≠D1→H4 b=some u→upd H4 D1 (.lst (ys ++ zs)) b=some u:=fun b u hb e=>by rw [z0f hb];exact e
    have hHd2:H d2=none:=((sa.trans sb).trans s1).free hd2
    have sHB:Same H HB:=fun b u e=>kB b u (fun z=>by rw [z,hHd2] at e;cases e) (s23 _ _ (s02 _ _ e))
    obtain ⟨nD,nF⟩:=List.nodup_cons.mp m6
    obtain ⟨nD',nF'⟩:=List.nodup_cons.mp w6
    have nD1':D1∉Fp':=fun h=>by have:=w5 D1 h;rw [D1B] at this;cases this
    have lB:∀ b∈Fp,∃ xs,HB b=some (.lst xs):=fun b hb=>by
     obtain ⟨xs,e⟩:=m4.lsts b hb
     exact ⟨xs,kB b _ (fun z=>by rw [z,e2'] at e;cases e) e⟩
    have rA:RepL (upd H4 D1 (.lst (ys ++ zs))) ys (one.map (fun r=>(r.1,cerL other r.2)) |>.map toP) o Fp:=by
     refine m4.frame (fun b hb=>?_) fun b xs e=>?_
     ·obtain ⟨xs,e⟩:=m4.lsts b hb
      rw [e]
      exact kE b _ (fun z=>nD (z ▸ hb)) (w2 _ _ (kB b _ (fun z=>by rw [z,e2'] at e;cases e) e))
     ·exact kE b _ (z6c e m1 (by intro z;cases z)) (w2 _ _ (kB b _ (fun z=>by rw [z,e2'] at e;cases e) e))
    have rB:RepL (upd H4 D1 (.lst (ys ++ zs))) zs ((other.filter fun r=>(z4c one r.1).isNone).map (fun r=>(r.1,cerL other [.tup r.1 [z9i]])) |>.map toP) o' Fp':=by
     refine w4.frame (fun b hb=>?_) fun b xs e=>kE b _ (z6c e D14 (by intro z;cases z)) e
     obtain ⟨xs,e⟩:=w4.lsts b hb
     rw [e];exact kE b _ (fun z=>nD1' (z ▸ hb)) e
    refine q D1 (ys ++ zs) (o ++ o') (Fp ++ Fp') _ (s02.free hD1) ?_ z0d (by rw [joinL,List.map_append];exact rA.append rB) (fun b hb=>?_) ?_
    ·exact fun b u e=>kE b u (fun z=>by rw [z,s02.free hD1] at e;cases e) (w2 _ _ (sHB _ _ e))
    ·rcases List.mem_append.mp hb with h|h
     ·exact s02.free (m5 b h)
     ·exact sHB.free (w5 b h)
    ·refine List.nodup_cons.mpr ⟨fun h=>?_,List.nodup_append.mpr ⟨nF,nF',fun a ha b hb e=>?_⟩⟩
     ·rcases List.mem_append.mp h with h|h
      ·exact nD h
      ·exact nD1' h
     ·obtain ⟨xs,ea⟩:=lB a ha
      rw [e,w5 b hb] at ea;cases ea
end
open PySem L2 VL Pap
section
variable {P:Program}{w:World}{K:PySem.W.Frag}{mg:Str→Option Value}{base:Heap}{f:Addr}{fd:FuncData}
def y6u (n:Nat):RD:=fun δ Q=>∃ ps:List Part,δ=[.fz (.lst (pDs ps))]∧dpL ps < n∧Q false (.int (stL ps)) [.no]
theorem ok_lstars (E__law_stars:Ent K mg "_law_stars" s__law_stars ["_law_row"] f fd) (T:Zs K mg):∀ n,FnOk P w K mg base CX0 (n+1) f fd ["_law_row"] (spD (y6u n)):=by
 intro n
 induction n with
 |zero=>exact y1e fun δ Q h=>by obtain ⟨_,_,h,_⟩:=h;exact Nat.not_lt_zero _ h
 |succ n G__law_stars =>
 refine VL.Fun.dok E__law_stars.F sc__law_stars (fun δ Qd h=>?_) (by decide) (fun cdv A outer s H E δ Qd hr h=>?_)
 ·obtain ⟨_,rfl,_⟩:=h;rfl
 ·obtain ⟨ps,rfl,hdp,q⟩:=h
  refine ⟨_,(z0e (z1d (i:=1) sc__law_stars.nd rfl (Or.inl rfl) z0k)
   (z0e (z2t PassesOwn.never rfl (z2i (dv 0)) (z1i (i:=2) sc__law_stars.nd rfl (Or.inl rfl)) (z0i (z2e (y2j (z9n (z4r (z9q T.kit) (z2s (K:=K) rfl) rfl T.z_isinstance PyProof.Rows.boot_isinstance (z0a (dv 2) (z0a (de_ty rfl T.z_str PyProof.Rows.boot_str) z0g))))) (z0i (z1d (i:=1) sc__law_stars.nd rfl (Or.inl rfl) (z0s z3l z3k (z0s z3l z3k (dv 1) (z4y cs_int z8m rfl T.z_int PyProof.Rows.boot_int (z0a (de_cmp z4v z1w (z0y z1l z1m (pv 2) z0k (fun _ _=>rfl)) z1g (z0p _)) z0g))) (z0v G__law_stars (hr.mono (by omega)) rfl E__law_stars.g E__law_stars.F.kp E__law_stars.b z0w (z0a (z0y z1l z1m (pv 2) z0k (fun _ _=>rfl)) z0g))))) z1a)))
   (z0i (z0z (dm 1))))),?_⟩
  walk_at "vd"
  refine z5w [2] (fun r δ=>∃ pre suf,ps=pre ++ suf∧r=pDs suf∧δ=[.fz (.lst (pDs ps)),.fz (.int (stL pre)),.no]) ⟨[],ps,rfl,rfl,rfl⟩ ?_ ?_
  ·rintro d r δ ⟨pre,suf,e1,e2,rfl⟩
   cases suf with
   |nil=>cases e2
   |cons p suf =>
    cases e2
    have e5:=congrArg dpL e1
    rw [z3n] at e5
    simp only [dpL] at e5
    cases p with
    |txt z =>
     simp only [pD]
     walk_at "vd"
     refine ⟨pre ++ [.txt z],suf,by simp [e1],rfl,?_⟩
     simp [z3v,stL,st1]
    |tup nm qs =>
     simp only [pD]
     simp only [dp1] at e5
     walk_at "vd"
     refine ⟨qs,rfl,by omega,?_⟩
     walk_at "vd"
     refine ⟨pre ++ [.tup nm qs],suf,by simp [e1],rfl,?_⟩
     have z:((stL pre:Int)+(if nm = "*" then 1 else 0)+(stL qs:Int))=((stL (pre ++ [.tup nm qs]):Nat):Int):=by
      rw [z3v]
      simp only [stL,st1]
      split <;> omega
     rw [z]
  ·rintro δ ⟨pre,suf,e1,e2,rfl⟩
   cases suf with
   |cons p suf=>cases e2
   |nil =>
    walk_at "vd"
    rw [List.append_nil] at e1
    subst e1
    exact q
def z6s:List Str→List (Str × List Part)→Option (Bool × Str)
 |_,[]=>none
 |met,r::fs=>if r.1∈met then some (true,r.1) else if 1 < stL r.2 then some (false,r.1) else z6s (met ++ [r.1]) fs
abbrev dueF (fs:List (Str × List Part)):Option (Bool × Str):=z6s [] fs
def dueS:Option (Bool × Str)→List Str
 |none=>[]
 |some (true,n)=>["twice",n]
 |some (false,n)=>["stars",n]
def R_due:RD:=fun δ Q=>∃ fs:List (Str × List Part),δ=[.fz (.lst (fs.map z0x))]∧fs.length≤1000∧(∀ r∈fs,dpL r.2 < 20)∧Q true (.lst ((dueS (dueF fs)).map .str)) [.no]
theorem ok_due {f1:Addr}{fd1:FuncData}(E__law_due_ferry:Ent K mg "_law_due_ferry" s__law_due_ferry ["_law_ferry_here"] f fd) (T:Zs K mg) (E__law_stars:Ent K mg "_law_stars" s__law_stars ["_law_row"] f1 fd1):FnOk P w K mg base CX0 22 f fd ["_law_ferry_here"] (spD R_due):=by
 have G__law_stars:FnOk P w K mg base CX0 21 f1 fd1 _ (spD (y6u 20)):=ok_lstars E__law_stars T 20
 refine VL.Fun.dok E__law_due_ferry.F sc__law_due_ferry (fun δ Qd h=>?_) (by decide) (fun cdv A outer s H E δ Qd hr h=>?_)
 ·obtain ⟨_,rfl,_⟩:=h;rfl
 ·obtain ⟨fs,rfl,hl,hdp,q⟩:=h
  have hu:=z4f hr
  refine ⟨_,(z0e (z1d (i:=1) sc__law_due_ferry.nd rfl (Or.inl rfl) (z1c z0g))
   (z0e (z2t PassesOwn.never rfl (z2i (dv 0)) (z8 (n:=2) rfl (z2k (z1i (i:=2) sc__law_due_ferry.nd rfl (Or.inl rfl)) (z2k (z1i (i:=3) sc__law_due_ferry.nd rfl (Or.inl rfl)) z5z))) (z0e (z2e (dt_cmpW os_inL op_in_lst (dv 2) (pv 1) rfl) (z0i (z0z (z1c (z0a z1g (z0a (dv 2) z0g))))) z1a)
   (z0e (z2e (z1k os_gt op_gt (z0v G__law_stars (hr.mono (by decide)) rfl E__law_stars.g E__law_stars.F.kp E__law_stars.b z0w (z0a (dv 3) z0g)) z0k (z0p _)) (z0i (z0z (z1c (z0a z1g (z0a (dv 2) z0g))))) z1a)
   (z0i (z3q (y1z z3o PySem.F.slot_list_append PySem.F.type_list_append z1v (pv 1) (z0a (dv 2) z0g)))))))
   (z0i (z0z (z1c z0g))))),?_⟩
  have sz:=z0u
  walk_at "vd"
  refine ⟨by omega,z5w [2,3] (fun r δ=>∃ pre suf,fs=pre ++ suf∧r=suf.map z0x∧z6s (pre.map (·.1)) suf=dueF fs∧δ=[.fz (.lst (fs.map z0x)),.ob false (.lst ((pre.map (·.1)).map .str)),.no,.no]) ⟨[],fs,rfl,rfl,rfl,rfl⟩ ?_ ?_⟩
  ·rintro d r δ ⟨pre,suf,e1,e2,e3,rfl⟩
   cases suf with
   |nil=>cases e2
   |cons r0 suf =>
    obtain ⟨nm,row⟩:=r0
    cases e2
    simp only [z0x]
    have o1:=hdp (nm,row) (by rw [e1];simp)
    have hpre:pre.length≤fs.length:=by rw [e1];simp
    rw [show z6s (pre.map (·.1)) ((nm,row)::suf)=(if nm∈pre.map (·.1) then some (true,nm) else if 1 < stL row then some (false,nm) else z6s (pre.map (·.1) ++ [nm]) suf) from rfl] at e3
    walk_at "vd"
    refine ite2 (fun hn=>⟨by omega,?_⟩) fun hn=>⟨row,rfl,o1,?_⟩
    ·rw [if_pos hn] at e3
     rw [← e3] at q
     exact q
    ·rw [if_neg hn] at e3
     walk_at "vd"
     refine ite2 (fun h=>⟨by omega,?_⟩) fun h=>⟨by simp;omega,pre ++ [(nm,row)],suf,by simp [e1],rfl,?_,?_⟩
     ·rw [if_pos (show 1 < stL row by omega)] at e3
      rw [← e3] at q
      exact q
     ·rw [if_neg (show ¬ 1 < stL row by omega)] at e3
      rw [List.map_append];exact e3
     ·simp
  ·rintro δ ⟨pre,suf,e1,e2,e3,rfl⟩
   cases suf with
   |cons p suf=>cases e2
   |nil =>
    walk_at "vd"
    have z:dueF fs=none:=by rw [← e3];rfl
    rw [z] at q
    exact ⟨by omega,q⟩
def R_bent (k:Nat):RD:=fun δ Q=>∃ (fs:List (Str × List Part)) (x:Int),δ=[.fz (.lst (fs.map z0x)),.fz (.int x)]∧FerB k fs∧k≤4∧∀ (b:Bool) (gs:List (Str × List Part)),FerB (k+1) gs→Q b (.lst (gs.map z0x)) [.no,.no]
theorem FerB.up {k:Nat}{fs:List (Str × List Part)}(o:FerB k fs):FerB (k+1) fs:=⟨Nat.le_trans o.len (by omega),fun r h=>by obtain ⟨a,b,c,d⟩:=o.ok r h;exact ⟨a,by omega,by omega,d⟩⟩
theorem ok_bent (k:Nat) {f1:Addr}{fd1:FuncData}(E__law_bent_ferry:Ent K mg "_law_bent_ferry" s__law_bent_ferry ["_law_ferry_here","_law_number"] f fd) (T:Zs K mg) (E__law_starred:Ent K mg "_law_starred" s__law_starred ["_law_row","_law_number"] f1 fd1):FnOk P w K mg base CX0 22 f fd ["_law_ferry_here","_law_number"] (spD (R_bent k)):=by
 have G__law_starred:FnOk P w K mg base CX0 21 f1 fd1 _ (spD (z6l 20)):=z9s E__law_starred T 20
 refine VL.Fun.dok E__law_bent_ferry.F sc__law_bent_ferry (fun δ Qd h=>?_) (by decide) (fun cdv A outer s H E δ Qd hr h=>?_)
 ·obtain ⟨_,_,rfl,_⟩:=h;rfl
 ·obtain ⟨fs,x,rfl,ok,hk,q⟩:=h
  have hu:=z4f hr
  refine ⟨_,(z0e (z2e (y0y (z9m hu) z3p (pv 0) (z1c z0g) (z0p _)) (z0i (z0z (dm 0))) z1a)
   (z0e (z1d (i:=2) sc__law_bent_ferry.nd rfl (Or.inl rfl) (z0s z1p z1r (z0s z2h z1s (dv 1) z0k) (z2g z3r z1h rfl T.z_len PySem.boot_len (pv 0))))
   (z0e (z1d (i:=3) sc__law_bent_ferry.nd rfl (Or.inl rfl) (z0s z1p z1r (z0s z2h z1s (dv 1) z0k) (z0s z3l z3k (z2g z3r z1h rfl T.z_len PySem.boot_len (pv 0)) z0k)))
   (z0e (ds_asg (z0y z2u z2l (pv 0) (dv 2) (fun _ _=>rfl)) (z8 (n:=2) rfl (z2k (z1i (i:=4) sc__law_bent_ferry.nd rfl (Or.inl rfl)) (z2k (z1i (i:=5) sc__law_bent_ferry.nd rfl (Or.inl rfl)) z5z))))
   (z0e (z2e (z1k z4v z1w (z0s z1p z1r (dv 1) z0k) z0k (z0p _)) (z0i (z0z (z0s z4s z3j (z0s z4s z3j (z2c (pv 0) z3h (z3f (dv 3))) (z1c (z0a (z3a (z0a (dv 4) (z0a (de_ix z2u z2l (z1c (z0a (dv 5) (z0a (z1c z0g) (z0a (z1c (z0a z1g z0g)) z0g)))) (z0s z1p z1r (z0s z2h z1s (dv 1) z0k) z0k) (fun _ _=>rfl)) z0g))) z0g))) (z2c (pv 0) (z3f (dv 3)) z3h)))) z1a)
   (z0e (z2e (z1k z4v z1w (z0s z1p z1r (dv 1) z0k) z0k (z0p _)) (z0i (z0z (z0s z4s z3j (z0s z4s z3j (z2c (pv 0) z3h (z3f (dv 2))) (z1c (z0a (z3a (z0a (dv 4) (z0a (z0v G__law_starred (hr.mono (by decide)) rfl E__law_starred.g E__law_starred.F.kp E__law_starred.b z0w (z0a (dv 5) (z0a (z0s z2h z1s (dv 1) z0k) z0g))) z0g))) z0g))) (z2c (pv 0) (z3f (z0s z3l z3k (dv 2) z0k)) z3h)))) z1a)
   (z0e (z2e (z1k z4v z1w (z0s z1p z1r (dv 1) z0k) z0k (z0p _)) (z0i (z0z (z0s z4s z3j (z0s z4s z3j (z2c (pv 0) z3h (z3f (dv 2))) (z1c (z0a (z3a (z0a (dv 4) (z0a (z0v G__law_starred (hr.mono (by decide)) rfl E__law_starred.g E__law_starred.F.kp E__law_starred.b z0w (z0a (z0v G__law_starred (hr.mono (by decide)) rfl E__law_starred.g E__law_starred.F.kp E__law_starred.b z0w (z0a (dv 5) (z0a (z0s z2h z1s (dv 1) z0k) z0g))) (z0a (z0s z2h z1s (dv 1) z0k) z0g))) z0g))) z0g))) (z2c (pv 0) (z3f (z0s z3l z3k (dv 2) z0k)) z3h)))) z1a)
   (z0i (z0z (dm 0)))))))))),?_⟩
  have sz:=z0u
  have hl:=ok.len
  walk_at "vd"
  refine ⟨by omega,ite2 (fun _=>q false fs ok.up) fun hne=>?_⟩
  have hpos:0 < (fs.map z0x).length:=by
   cases fs with
   |nil=>exact absurd rfl hne
   |cons a b=>simp
  have hlm:(fs.map z0x).length=fs.length:=by simp
  obtain ⟨d,hd1,e⟩:=z5s (xs:=fs.map z0x) (i:=x / 4 % ((fs.map z0x).length:Int)) (z3d (by omega)) (z3c (by omega))
  obtain ⟨r,hr1,rfl⟩:=List.mem_map.mp hd1
  obtain ⟨nm,row⟩:=r
  obtain ⟨o1,o2,o3,o4⟩:=ok.ok _ hr1
  have o1:NameOk nm:=o1
  have o2:z0q row≤40+2 * k:=o2
  have o3:dpL row≤3+2 * k:=o3
  have o4:seL row=true:=o4
  refine ⟨⟨by decide,by decide⟩,by omega,⟨by decide,by decide⟩,by omega,_,e,?_⟩
  simp only [z0x]
  have a0:=z3d (a:=x / 4) (b:=((fs.map z0x).length:Int)) (by omega)
  have a1:=z3c (a:=x / 4) (b:=((fs.map z0x).length:Int)) (by omega)
  have b0:=z3d (a:=x / 160) (b:=((fs.map z0x).length:Int)+1) (by omega)
  have b1:=z3c (a:=x / 160) (b:=((fs.map z0x).length:Int)+1) (by omega)
  generalize x / 4 % ((fs.map z0x).length:Int)=a at *
  generalize x / 160 % (((fs.map z0x).length:Int)+1)=b at *
  obtain ⟨an,rfl⟩:=Int.eq_ofNat_of_zero_le a0
  obtain ⟨bn,rfl⟩:=Int.eq_ofNat_of_zero_le b0
  have put:∀ (i j:Nat) (row2:List Part),i≤j→i≤fs.length→z0q row2≤40+2 * (k+1)→dpL row2≤3+2 * (k+1)→seL row2=true→FerB (k+1) (fs.take i ++ [(nm,row2)] ++ fs.drop j) ∧
    (fs.map z0x).take i ++ [D.tup [D.str nm,D.lst (pDs row2)]] ++ (fs.map z0x).drop j=(fs.take i ++ [(nm,row2)] ++ fs.drop j).map z0x∧((fs.map z0x).take i).length+1≤sizeLine∧((fs.map z0x).take i ++ [D.tup [D.str nm,D.lst (pDs row2)]]).length+((fs.map z0x).drop j).length≤sizeLine:=fun i j row2 h1 h2 h3 h4 h5=>by
   refine ⟨⟨by simp;omega,fun r h=>?_⟩,by simp [z0x],by simp;omega,by simp;omega⟩
   rcases List.mem_append.mp h with h|h
   ·rcases List.mem_append.mp h with h|h
    ·exact ok.up.ok r (List.mem_of_mem_take h)
    ·have e:r=(nm,row2):=by simpa using h
     subst e
     exact ⟨o1,h3,h4,h5⟩
   ·exact ok.up.ok r (List.mem_of_mem_drop h)
  walk_at "vd"
  refine ⟨by decide,ite2 (fun _=>?_) fun _=>⟨by decide,ite2 (fun _=>?_) fun _=>⟨by decide,ite2 (fun _=>?_) fun _=>q false fs ok.up⟩⟩⟩
  ·obtain ⟨d,hd,e3⟩:=z5s (xs:=[D.lst (pDs row),D.lst [],D.lst [D.str "x"]]) (i:=x / 1600 % 3) (z3d (by omega)) (z3c (by decide))
   have:∃ row2,d=D.lst (pDs row2)∧z0q row2≤40+2 * (k+1)∧dpL row2≤3+2 * (k+1)∧seL row2=true:=by
    simp only [List.mem_cons,List.not_mem_nil,or_false] at hd
    rcases hd with rfl|rfl|rfl
    ·exact ⟨row,rfl,by omega,by omega,o4⟩
    ·exact ⟨[],rfl,by simp [z0q],by simp [dpL],rfl⟩
    ·exact ⟨[.txt "x"],rfl,by simp [z0q,z1j];omega,by simp [dpL,dp1],rfl⟩
   obtain ⟨row2,rfl,h3,h4,h5⟩:=this
   obtain ⟨g1,g2,g3,g4⟩:=put bn bn row2 (Nat.le_refl _) (by omega) h3 h4 h5
   rw [z4j,z5f]
   refine ⟨by omega,by omega,by omega,⟨by decide,by decide⟩,by decide,_,e3,by omega,by omega,g3,g4,?_⟩
   rw [g2]
   exact q true _ g1
  ·refine ⟨⟨by decide,by decide⟩,z4x (by omega) (by omega) fun row2 z1 z2 z3 z4=>?_⟩
   obtain ⟨g1,g2,g3,g4⟩:=put an (an+1) row2 (Nat.le_succ _) (by omega) (by omega) (by omega) (z4 o4)
   walk_at "vd"
   rw [z4j,show ((an:Int)+1)=((an+1:Nat):Int) by simp,z5f]
   refine ⟨by omega,by omega,g3,g4,?_⟩
   rw [g2]
   exact q true _ g1
  ·refine ⟨⟨by decide,by decide⟩,z4x (by omega) (by omega) fun row1 y1 y2 y3 y4=>?_⟩
   walk_at "vd"
   refine ⟨⟨by decide,by decide⟩,z4x (by omega) (by omega) fun row2 z1 z2 z3 z4=>?_⟩
   obtain ⟨g1,g2,g3,g4⟩:=put an (an+1) row2 (Nat.le_succ _) (by omega) (by omega) (by omega) (z4 (y4 o4))
   walk_at "vd"
   rw [z4j,show ((an:Int)+1)=((an+1:Nat):Int) by simp,z5f]
   refine ⟨by omega,by omega,g3,g4,?_⟩
   rw [g2]
   exact q true _ g1
end
open PySem L2 VL Pap
local macro_rules|`(tactic| walk_at "rd")=>do
 let v←("L2.start y5y y5v rIsX tTry z9t tSeq y1a tAsg z7n tVar tC tOp rI0 y2n tIfS tRet z9k z7m tCB z6e tNil tNot tAnd tB tTup tLst y4e y4f tRev tYes rEq scal z4e z4q rCat gTup y5b gNil tLM tDIn z4w y4w y5o z8g tB z3t z0d and_imp ne_eq HO.lst.injEq HO.tup.injEq z9y y0h Int.toNat_natCast z9z List.map_cons List.map_nil List.length_cons List.length_nil Nat.reduceAdd Nat.reduceSub List.replicate_succ List.replicate_zero List.cons_append List.nil_append List.append_nil List.getElem?_cons_zero List.getElem?_cons_succ List.set_cons_zero List.set_cons_succ Option.some.injEq V.int.injEq V.str.injEq V.ref.injEq V.bl.injEq V.ty.injEq List.cons.injEq exists_eq_left' exists_eq_left exists_eq' and_true true_and and_assoc exists_and_left reduceCtorEq false_and exists_false false_or or_false decide_eq_true_eq if_true if_false Bool.true_eq_false Bool.false_eq_true Bool.not_true Bool.not_false Bool.not_eq_eq_eq_not".splitOn " ").mapM fun n=>`(Lean.Parser.Tactic.simpLemma| $(Lean.mkIdent n.toName):term)
 `(tactic| simp only [$(v.toArray),*])
local macro_rules|`(tactic| walk_at "rs")=>do
 let v←("L2.start y5y y5v rIsX tTry z9t tSeq y1a tAsg z7n tVar tC tOp rI0 y2n tRet z9k z7m tCB z6e tNil tNot tAnd tB tTup tLst y4e y4f tRev tYes rEq scal z4e z4q rCat gTup y5b gNil tLM tDIn z4w y4w y5o z8g tB z3t z0d and_imp ne_eq HO.lst.injEq HO.tup.injEq z9y y0h Int.toNat_natCast z9z List.map_cons List.map_nil List.length_cons List.length_nil Nat.reduceAdd Nat.reduceSub List.replicate_succ List.replicate_zero List.cons_append List.nil_append List.append_nil List.getElem?_cons_zero List.getElem?_cons_succ List.set_cons_zero List.set_cons_succ Option.some.injEq V.int.injEq V.str.injEq V.ref.injEq V.bl.injEq V.ty.injEq List.cons.injEq exists_eq_left' exists_eq_left exists_eq' and_true true_and and_assoc exists_and_left reduceCtorEq false_and exists_false false_or or_false decide_eq_true_eq if_true if_false Bool.true_eq_false Bool.false_eq_true Bool.not_true Bool.not_false Bool.not_eq_eq_eq_not".splitOn " ").mapM fun n=>`(Lean.Parser.Tactic.simpLemma| $(Lean.mkIdent n.toName):term)
 `(tactic| simp only [$(v.toArray),*])
theorem boot_VE:bootBuiltins "ValueError" = some (.type "ValueError"):=by decide +kernel
inductive Kd where
 |tw|nn|st
def Kd.str:Kd→Str
 |.tw=>"twice"
 |.nn=>"none"
 |.st=>"stars"
def Kd.cls (CT CN CS:Addr):Kd→Addr
 |.tw=>CT
 |.nn=>CN
 |.st=>CS
def isK:Option Kd→Kd→Bool
 |some .tw,.tw=>true
 |some .nn,.nn=>true
 |some .st,.st=>true
 |_,_=>false
def tyK (CT CN CS:Addr):Option Kd→Value
 |none=>.type "NoneType"
 |some c=>.ref (c.cls CT CN CS)
structure XR (K:PySem.W.Frag) (mg:Str→Option Value) (CF CT CN CS Ct Cp Ck:Addr):Prop where
 z_ValueError:mg "ValueError" = none
 g_FerryError:mg "FerryError" = some (.ref CF)
 q_FerryError:fxIn K CF=true
 g_Twice:mg "Twice" = some (.ref CT)
 g_NoName:mg "NoName" = some (.ref CN)
 g_Stars:mg "Stars" = some (.ref CS)
 g_NoText:mg "NoText" = some (.ref Ct)
 g_NoPort:mg "NoPort" = some (.ref Cp)
 g_Taken:mg "Taken" = some (.ref Ck)
 i_Twice:∃ fI fd od osl,xcIn K CT (.ref CF::mroV) fI=true∧Fun K "__init__" "Twice.__init__" i_Twice fI fd∧Binds K fd ["self","name"] []∧K.lookup fI=some ⟨.type "function",od,.func fd,osl⟩
 i_NoName:∃ fI fd od osl,xcIn K CN (.ref CF::mroV) fI=true∧Fun K "__init__" "NoName.__init__" i_NoName fI fd∧Binds K fd ["self","name"] []∧K.lookup fI=some ⟨.type "function",od,.func fd,osl⟩
 i_Stars:∃ fI fd od osl,xcIn K CS (.ref CF::mroV) fI=true∧Fun K "__init__" "Stars.__init__" i_Stars fI fd∧Binds K fd ["self","name"] []∧K.lookup fI=some ⟨.type "function",od,.func fd,osl⟩
 k_Twice:PySem.W.keepIn K (.ref CT)=true
 k_NoName:PySem.W.keepIn K (.ref CN)=true
 k_Stars:PySem.W.keepIn K (.ref CS)=true
 n_Twice:∀ t:Option Kd,PySem.W.kitOne K (tyK CT CN CS t) (.ref CT)=some (isK t .tw)
 n_NoName:∀ t:Option Kd,PySem.W.kitOne K (tyK CT CN CS t) (.ref CN)=some (isK t .nn)
 n_Stars:∀ t:Option Kd,PySem.W.kitOne K (tyK CT CN CS t) (.ref CS)=some (isK t .st)
 n_NoText:∀ t:Option Kd,PySem.W.kitOne K (tyK CT CN CS t) (.ref Ct)=some (false)
 n_NoPort:∀ t:Option Kd,PySem.W.kitOne K (tyK CT CN CS t) (.ref Cp)=some (false)
 n_Taken:∀ t:Option Kd,PySem.W.kitOne K (tyK CT CN CS t) (.ref Ck)=some (false)
 n_ValueError:∀ t:Option Kd,PySem.W.kitOne K (tyK CT CN CS t) (.type "ValueError")=some (t.isSome)
section
variable {P:Program}{w:World}{K:PySem.W.Frag}{mg:Str→Option Value}{base:Heap}{f:Addr}{fd:FuncData}{CF CT CN CS Ct Cp Ck:Addr}
theorem XR.x_Twice (Y:XR K mg CF CT CN CS Ct Cp Ck):XK1 P w K mg base "Twice" "name" CT:=by
 obtain ⟨fI,fd,od,osl,q,F,b,lk⟩:=Y.i_Twice
 exact ⟨⟨_,fI,fd,q,y5n F si_Twice rfl q (by simp),b,_,lk,rfl⟩,Y.g_Twice,Y.k_Twice⟩
theorem XR.x_NoName (Y:XR K mg CF CT CN CS Ct Cp Ck):XK1 P w K mg base "NoName" "name" CN:=by
 obtain ⟨fI,fd,od,osl,q,F,b,lk⟩:=Y.i_NoName
 exact ⟨⟨_,fI,fd,q,y5n F si_NoName rfl q (by simp),b,_,lk,rfl⟩,Y.g_NoName,Y.k_NoName⟩
theorem XR.x_Stars (Y:XR K mg CF CT CN CS Ct Cp Ck):XK1 P w K mg base "Stars" "name" CS:=by
 obtain ⟨fI,fd,od,osl,q,F,b,lk⟩:=Y.i_Stars
 exact ⟨⟨_,fI,fd,q,y5n F si_Stars rfl q (by simp),b,_,lk,rfl⟩,Y.g_Stars,Y.k_Stars⟩
theorem _root_.L2.Fun.okX {x qual:Str}{st:Stmt}{f:Addr}{fd:FuncData}{N ps:List Str}{k:Nat}{sp:Sp}(F:Fun K x qual st f fd) (S:FnScope N ps (z0c st)) (len:∀ vs H Q E,sp vs H Q E→vs.length=ps.length)
  (hbody:∀ (cdv:Value) (A:Around) (outer:List Env) (s:Shared) (H:Hp) (vs:List V) (Q:VK) (E:XK),Room k (A.deeper (PyProof.Rows.envOfC qual (z0c st) s.heap.objs.size f cdv))→sp vs H Q E →
   ∃ t,PSs (cxOf (CX1 P w) P w K mg base N qual (z0c st) f cdv A outer s H E) (z0n st) t∧t { nx:=fun _ H'=>Q .non H',rt:=Q } (start N vs) H):FnOk P w K mg base (CX1 P w) (k+1) f fd ps sp:=by
 obtain ⟨oc,od,kV,doc,pm,an,cdv,ct,osl,rfl,lk,hcd⟩:=F.ex
 exact fn_of lk hcd S len fun A outer s H vs Q E hr hsp=>hbody cdv A outer s H vs Q E hr hsp
def XWish (C:Addr) (nm:Str) (H:Hp) (E:XK):Prop:=∀ x dx H',Same H H'→H' x=some (XO C dx x)→H' dx=some (.xd [("name",.str nm)])→E (.ref x) (some dx) H'
def XDue (CT CS:Addr) (o:Bool × Str) (H:Hp) (E:XK):Prop:=XWish (if o.1 then CT else CS) o.2 H E
def y4x (fs:List (Str × List Part)):List (Key × V):=fs.map fun r=>(Sum.inr r.1,.bl true)
theorem seenV_get (pre:List (Str × List Part)) (nm:Str):(valV (y4x pre) (Sum.inr nm)).isSome=decide (nm∈pre.map (·.1)):=by
 unfold valV y4x
 rw [Option.isSome_map]
 by_cases h:nm∈pre.map (·.1)
 ·rw [decide_eq_true h,List.find?_isSome]
  obtain ⟨r,hr,e⟩:=List.mem_map.mp h
  exact ⟨_,List.mem_map.mpr ⟨r,hr,rfl⟩,by simp [e]⟩
 ·rw [decide_eq_false h,Bool.eq_false_iff]
  intro z
  rw [List.find?_isSome] at z
  obtain ⟨x,hx,hd⟩:=z
  obtain ⟨r,hr,rfl⟩:=List.mem_map.mp hx
  exact h (List.mem_map.mpr ⟨r,hr,by simpa using hd⟩)
theorem seenV_put {pre:List (Str × List Part)}{nm:Str}{row:List Part}(h:nm∉pre.map (·.1)):putK (y4x pre) (Sum.inr nm) (.bl true)=y4x (pre ++ [(nm,row)]):=by
 unfold putK
 rw [if_neg]
 ·simp [y4x]
 ·intro z
  obtain ⟨x,hx,hd⟩:=List.any_eq_true.mp z
  obtain ⟨r,hr,rfl⟩:=List.mem_map.mp hx
  exact h (List.mem_map.mpr ⟨r,hr,by simpa using hd⟩)
theorem y6x {H H1:Hp}{x dx:Addr}{o1 o2:HO}(s:Same H H1) (n1:H1 x=none) (n2:H1 dx=none):Same H (upd (upd H1 dx o1) x o2):=fun b o e=>by
 have e1:=s b o e
 rw [z0f (z0l e1 n1),z0f (z0l e1 n2)];exact e1
def z5m (CT CS:Addr):Sp:=fun vs H _ E=>∃ (fs:List (Str × List Part)) (vf:V) (o:Bool × Str),vs=[vf]∧Rep H (.lst (fs.map z0x)) vf∧fs.length≤1000∧(∀ r∈fs,z0q r.2≤1000000)∧dueF fs=some o∧XDue CT CS o H E
theorem z6p {f1 f2 f3:Addr}{fd1 fd2 fd3:FuncData}(Y:XR K mg CF CT CN CS Ct Cp Ck) (E_look_ferry:Ent K mg "look_ferry" s_look_ferry ["ferry"] f fd) (T:Zs K mg) (E_stars:Ent K mg "stars" s_stars ["row"] f1 fd1) (E_all_parts:Ent K mg "all_parts" s_all_parts ["row"] f2 fd2) (E_sign_of:Ent K mg "sign_of" s_sign_of ["part"] f3 fd3):FnOk P w K mg base (CX1 P w) 4 f fd ["ferry"] (z5m CT CS):=by
 have G_stars:FnOk P w K mg base CX0 2 f1 fd1 _ (spD y5e):=y6f E_stars T E_all_parts E_sign_of
 refine E_look_ferry.F.okX sc_look_ferry (fun vs H Q E h=>?_) (fun cdv A outer s H vs Q E hr h=>?_)
 ·obtain ⟨_,_,_,rfl,_⟩:=h;rfl
 ·obtain ⟨fs,vf,o,rfl,rep,hl,hsz,hdue,wish⟩:=h
  have hu:=z4f hr
  refine ⟨_,(z0h (z2f (i:=1) sc_look_ferry.nd rfl (Or.inl rfl) y6w)
   (z0m (ps_for PassesOwn.leaving rfl (z8f (pv 0)) (y2q rfl (z3x (z4b (i:=2) sc_look_ferry.nd rfl (Or.inl rfl)) (z3x (z4b (i:=3) sc_look_ferry.nd rfl (Or.inl rfl)) z7v))) (z0h (z2d (z9o (y6m (hu1 hu) (pv 2) (pv 1)) rfl) (z0m (y0l Y.x_Twice (hr.mono (by omega)) rfl (z0b (pv 2) z0j))) z0t)
   (z0h (z2d (z1f op_gt (z0r G_stars (hr.mono (by omega)) rfl E_stars.g E_stars.F.kp E_stars.b .nil z0w (z0b (pv 3) z0j)) z1e (z0p _)) (z0m (y0l Y.x_Stars (hr.mono (by omega)) rfl (z0b (pv 2) z0j))) z0t)
   (z0m (ps_dput (hu1 hu) (pv 1) (pv 2) pe_bl rfl))))))),?_⟩
  have sz:=z0u
  obtain ⟨a,us,rfl,ha,rs⟩:=rep
  walk_at "rs"
  have hlen:us.length=fs.length:=by have:=rs.len;simpa using this.symm
  refine fun p hp=>⟨⟨us,SqL.of (by rw [z0f (z0l ha hp)];exact ha)⟩,loopL (xs:=us) (fun i σ H'=>∃ pre suf x2 x3,fs=pre ++ suf∧pre.length=i∧z6s (pre.map (·.1)) suf=some o∧σ=[some (.ref a),some (.ref p),x2,x3]∧Same H H'∧H' p=some (.dK (y4x pre))) ⟨[],fs,none,none,rfl,rfl,hdue,rfl,fun b ob e=>by rw [z0f (z0l e hp)];exact e,z0d⟩ (fun i σ H' _ h=>?_) (fun i x σ H' hx h=>?_) fun σ H' h=>?_⟩
  ·obtain ⟨_,_,_,_,_,_,_,_,sm,_⟩:=h
   exact SqL.of (sm _ _ ha)
  ·obtain ⟨pre,suf,x2,x3,e1,e2,e3,rfl,sm,hd⟩:=h
   have hi:=(List.getElem?_eq_some_iff.mp hx).1
   cases suf with
   |nil=>rw [List.append_nil] at e1;rw [e1,e2] at hlen;omega
   |cons r0 suf =>
    obtain ⟨nm,row⟩:=r0
    obtain ⟨v,hv,rv⟩:=rs.get (i:=i) (d:=z0x (nm,row)) (by rw [e1];simp [← e2])
    rw [hx] at hv
    cases hv
    obtain ⟨t,vs2,rfl,ht,v1,r1,rfl,rv1,v2,r2,rfl,rv2,r3⟩:=rv
    cases (show r2=[] from r3)
    cases (show v1 = .str nm from rv1)
    have ht2:=sm _ _ ht
    walk_at "rs"
    refine ⟨_,.inl (.inl ht2),rfl,_,_,rfl,_,_,rfl,rfl,?_⟩
    rw [show z6s (pre.map (·.1)) ((nm,row)::suf)=(if nm∈pre.map (·.1) then some (true,nm) else if 1 < stL row then some (false,nm) else z6s (pre.map (·.1) ++ [nm]) suf) from rfl] at e3
    walk_at "rd"
    refine ⟨_,DGet.o hd,?_⟩
    rw [seenV_get]
    simp only [decide_eq_true_eq]
    refine ite2 (fun hn=>?_) fun hn=>?_
    ·rw [if_pos hn] at e3
     cases e3
     exact fun x dx n1 n2 n3=>wish x dx _ (y6x sm n1 n2) z0d (by rw [z0f n3,z0d])
    ·rw [if_neg hn] at e3
     refine z2p (ds:=[.lst (pDs row)]) (Reps.one (Rep.mono sm _ _ rv2)) (Qd:=fun _ d _=>d = .int (stL row)) ⟨row,rfl,hsz (nm,row) (by rw [e1];simp),rfl⟩ fun b d δ' v H2 s2 qd r2=>?_
     cases qd
     cases (show v = .int (stL row) from r2)
     refine ⟨_,rfl,ite2 (fun h=>?_) fun h=>?_⟩
     ·rw [if_pos (show 1 < stL row by omega)] at e3
      cases e3
      exact fun x dx n1 n2 n3=>wish x dx _ (y6x (sm.trans s2) n1 n2) z0d (by rw [z0f n3,z0d])
     ·rw [if_neg (show ¬ 1 < stL row by omega)] at e3
      have hpl:pre.length≤fs.length:=by rw [e1];simp
      refine ⟨_,DPut.s (s2 _ _ hd) (by simp [y4x];omega),pre ++ [(nm,row)],suf,by simp [e1],by simp [e2],by rw [List.map_append];exact e3,fun b o e=>?_,by rw [z0d,seenV_put hn]⟩
      have e4:=(sm.trans s2) b o e
      rw [z0f]
      ·exact e4
      ·intro z;subst z
       rw [hp] at e;cases e
  ·obtain ⟨pre,suf,x2,x3,e1,e2,e3,rfl,sm,hd⟩:=h
   rw [hlen] at e2
   have:suf=[]:=by
    have:=congrArg List.length e1
    rw [List.length_append] at this
    exact List.eq_nil_of_length_eq_zero (by omega)
   subst this
   cases e3
end
namespace K04
open PySem L2 VL Pap K11
abbrev Pat:=Unit
def z3g:D:=.tup [.str "none"]
def y3t (r:Str × Pat):D:=.tup [.str r.1,z3g]
def y1c (root:Str) (rules:List (Str × Pat)):D:=.tup [.str root,.lst (rules.map y3t)]
structure FormOk (root:Str) (rules:List (Str × Pat)):Prop where
 e1:root = "a"
 e2:rules=[(("a":Str),())]
def tabN:D:=.tup [.bl true,.lst [],.lst [],.dct []]
def tabsF (rules:List (Str × Pat)):List (Key × D):=rules.map fun r=>(.inr r.1,tabN)
def okN (rules:List (Str × Pat)) (n:Str) (ws:List Str):Bool:=decide (n = "a") && ws.isEmpty
section
variable {P:Program}{w:World}{K:PySem.W.Frag}{mg:Str→Option Value}{base:Heap}{f:Addr}{fd:FuncData}
def R_pw:RD:=fun δ Q=>δ=[.fz z3g]∧Q true (.lst []) [.no]
theorem ok_pw (E_patterns_within:Ent K mg "patterns_within" s_patterns_within ["pattern"] f fd) (T:Zs K mg):FnOk P w K mg base CX0 1 f fd ["pattern"] (spD R_pw):=by
 refine VL.Fun.dok E_patterns_within.F z6j (fun δ Qd h=>?_) (by decide) (fun cdv A outer s H E δ Qd hr h=>?_)
 ·obtain ⟨rfl,_⟩:=h;rfl
 ·obtain ⟨rfl,q⟩:=h
  refine ⟨_,(z0e (z2e (z1k os_inT y0j (z0y z1l z1m (pv 0) z0k (fun _ _=>rfl)) (z3a (z0a z1g (z0a z1g z0g))) rfl) (z0i (z0z (z4y cs_list y2c rfl T.z_list PyProof.Rows.boot_list (z0a (z0y z1l z1m (pv 0) z0k (fun _ _=>rfl)) z0g)))) z1a)
   (z0e (z2e (z1k os_inT y0j (z0y z1l z1m (pv 0) z0k (fun _ _=>rfl)) (z3a (z0a z1g (z0a z1g (z0a z1g z0g)))) rfl) (z0i (z0z (z1c (z0a (z0y z1l z1m (pv 0) z0k (fun _ _=>rfl)) z0g)))) z1a)
   (z0i (z0z (z1c z0g))))),?_⟩
  have sz:=z0u
  unfold z3g
  walk_at "vd"
  refine ⟨by omega,?_⟩
  rw [if_neg (by decide)]
  refine ⟨by omega,?_⟩
  rw [if_neg (by decide)]
  exact ⟨by omega,q⟩
theorem ok_sg {f1:Addr}{fd1:FuncData}(E_signs:Ent K mg "signs" s_signs ["pattern"] f fd) (T:Zs K mg) (E_patterns_within:Ent K mg "patterns_within" s_patterns_within ["pattern"] f1 fd1):FnOk P w K mg base CX0 2 f fd ["pattern"] (spD R_pw):=by
 have G_patterns_within:FnOk P w K mg base CX0 1 f1 fd1 _ (spD R_pw):=ok_pw E_patterns_within T
 refine VL.Fun.dok E_signs.F sc_signs (fun δ Qd h=>?_) (by decide) (fun cdv A outer s H E δ Qd hr h=>?_)
 ·obtain ⟨rfl,_⟩:=h;rfl
 ·obtain ⟨rfl,q⟩:=h
  refine ⟨_,(z0e (z2e (z1k z4v z1w (z0y z1l z1m (pv 0) z0k (fun _ _=>rfl)) z1g (z0p _)) (z0i (z0z (z1c (z0a (z0y z1l z1m (pv 0) z0k (fun _ _=>rfl)) z0g)))) z1a)
   (z0e (z1d (i:=1) sc_signs.nd rfl (Or.inl rfl) (z1c z0g))
   (z0e (z2t PassesOwn.never rfl (z2i (z0v G_patterns_within (hr.mono (by decide)) rfl E_patterns_within.g E_patterns_within.F.kp E_patterns_within.b z0w (z0a (dv 0) z0g))) (z1i (i:=2) sc_signs.nd rfl (Or.inl rfl)) (z0i z1u))
   (z0i (z0z (dm 1)))))),?_⟩
  have sz:=z0u
  unfold z3g
  walk_at "vd"
  rw [if_neg (by decide)]
  refine ⟨by omega,rfl,?_⟩
  walk_at "vd"
  refine z5w [2] (fun r δ=>r=[]∧δ=[.fz z3g,.ob false (.lst []),.no]) ⟨rfl,rfl⟩ (fun d r δ h=>by cases h.1) fun δ h=>?_
  obtain ⟨_,rfl⟩:=h
  walk_at "vd"
  exact q
theorem ok_ft {f1:Addr}{fd1:FuncData}(E_firsts:Ent K mg "firsts" s_firsts ["pattern"] f fd) (T:Zs K mg) (E_patterns_within:Ent K mg "patterns_within" s_patterns_within ["pattern"] f1 fd1):FnOk P w K mg base CX0 2 f fd ["pattern"] (spD R_pw):=by
 have G_patterns_within:FnOk P w K mg base CX0 1 f1 fd1 _ (spD R_pw):=ok_pw E_patterns_within T
 refine VL.Fun.dok E_firsts.F sc_firsts (fun δ Qd h=>?_) (by decide) (fun cdv A outer s H E δ Qd hr h=>?_)
 ·obtain ⟨rfl,_⟩:=h;rfl
 ·obtain ⟨rfl,q⟩:=h
  refine ⟨_,(z0e (z2e (z1k z4v z1w (z0y z1l z1m (pv 0) z0k (fun _ _=>rfl)) z1g (z0p _)) (z0i (z0z (z1c (z0a (z0y z1l z1m (pv 0) z0k (fun _ _=>rfl)) z0g)))) z1a)
   (z0e (z1d (i:=1) sc_firsts.nd rfl (Or.inl rfl) (z1c z0g))
   (z0e (z2t PassesOwn.never rfl (z2i (z0v G_patterns_within (hr.mono (by decide)) rfl E_patterns_within.g E_patterns_within.F.kp E_patterns_within.b z0w (z0a (dv 0) z0g))) (z1i (i:=2) sc_firsts.nd rfl (Or.inl rfl)) (z0e z1u
   (z0i z1u)))
   (z0i (z0z (dm 1)))))),?_⟩
  have sz:=z0u
  unfold z3g
  walk_at "vd"
  rw [if_neg (by decide)]
  refine ⟨by omega,rfl,?_⟩
  walk_at "vd"
  refine z5w [2] (fun r δ=>r=[]∧δ=[.fz z3g,.ob false (.lst []),.no]) ⟨rfl,rfl⟩ (fun d r δ h=>by cases h.1) fun δ h=>?_
  obtain ⟨_,rfl⟩:=h
  walk_at "vd"
  exact q
theorem ok_lt {f1:Addr}{fd1:FuncData}(E_lasts:Ent K mg "lasts" s_lasts ["pattern"] f fd) (T:Zs K mg) (E_patterns_within:Ent K mg "patterns_within" s_patterns_within ["pattern"] f1 fd1):FnOk P w K mg base CX0 2 f fd ["pattern"] (spD R_pw):=by
 have G_patterns_within:FnOk P w K mg base CX0 1 f1 fd1 _ (spD R_pw):=ok_pw E_patterns_within T
 refine VL.Fun.dok E_lasts.F sc_lasts (fun δ Qd h=>?_) (by decide) (fun cdv A outer s H E δ Qd hr h=>?_)
 ·obtain ⟨rfl,_⟩:=h;rfl
 ·obtain ⟨rfl,q⟩:=h
  refine ⟨_,(z0e (z2e (z1k z4v z1w (z0y z1l z1m (pv 0) z0k (fun _ _=>rfl)) z1g (z0p _)) (z0i (z0z (z1c (z0a (z0y z1l z1m (pv 0) z0k (fun _ _=>rfl)) z0g)))) z1a)
   (z0e (z1d (i:=1) sc_lasts.nd rfl (Or.inl rfl) (z1c z0g))
   (z0e (z2t PassesOwn.never rfl (di_rev rfl T.z_reversed (z0v G_patterns_within (hr.mono (by decide)) rfl E_patterns_within.g E_patterns_within.F.kp E_patterns_within.b z0w (z0a (dv 0) z0g))) (z1i (i:=2) sc_lasts.nd rfl (Or.inl rfl)) (z0e z1u
   (z0i z1u)))
   (z0i (z0z (dm 1)))))),?_⟩
  have sz:=z0u
  unfold z3g
  walk_at "vd"
  rw [if_neg (by decide)]
  refine ⟨by omega,rfl,?_⟩
  walk_at "vd"
  refine z5w [2] (fun r δ=>r=[]∧δ=[.fz z3g,.ob false (.lst []),.no]) ⟨rfl,rfl⟩ (fun d r δ h=>by cases h.1) fun δ h=>?_
  obtain ⟨_,rfl⟩:=h
  walk_at "vd"
  exact q
def R_br:RD:=fun δ Q=>δ=[.fz z3g]∧Q false (.bl true) [.no]
theorem ok_br (E_bare:Ent K mg "bare" s_bare ["pattern"] f fd) (T:Zs K mg):FnOk P w K mg base CX0 1 f fd ["pattern"] (spD R_br):=by
 refine VL.Fun.dok E_bare.F sc_bare (fun δ Qd h=>?_) (by decide) (fun cdv A outer s H E δ Qd hr h=>?_)
 ·obtain ⟨rfl,_⟩:=h;rfl
 ·obtain ⟨rfl,q⟩:=h
  refine ⟨_,(z0e (z1d (i:=1) sc_bare.nd rfl (Or.inl rfl) (z0y z1l z1m (pv 0) z0k (fun _ _=>rfl)))
   (z0e (z2e (z1k z4v z1w (dv 1) z1g (z0p _)) (z0i z1u) z1a)
   (z0e (z2e (z1k z4v z1w (dv 1) z1g (z0p _)) (z0i z1u) z1a)
   (z0e (z2e (z1k z4v z1w (dv 1) z1g (z0p _)) (z0i z1u) z1a)
   (z0i (z0z (de_cmp os_ne op_ne (dv 1) z1g (z0p _)))))))),?_⟩
  unfold z3g
  walk_at "vd"
  rw [if_neg (by decide),if_neg (by decide),if_neg (by decide)]
  exact q
def R_la:RD:=fun δ Q=>δ=[.fz z3g,.fz (.dct [])]∧Q false .non [.no,.no]
theorem ok_la {f1:Addr}{fd1:FuncData}(E_link_all:Ent K mg "link_all" s_link_all ["pattern","followers"] f fd) (T:Zs K mg) (E_patterns_within:Ent K mg "patterns_within" s_patterns_within ["pattern"] f1 fd1):FnOk P w K mg base CX0 2 f fd ["pattern","followers"] (spD R_la):=by
 have G_patterns_within:FnOk P w K mg base CX0 1 f1 fd1 _ (spD R_pw):=ok_pw E_patterns_within T
 refine VL.Fun.dok E_link_all.F sc_link_all (fun δ Qd h=>?_) (by decide) (fun cdv A outer s H E δ Qd hr h=>?_)
 ·obtain ⟨rfl,_⟩:=h;rfl
 ·obtain ⟨rfl,q⟩:=h
  refine ⟨_,(z0e (z2t PassesOwn.never rfl (z2i (z0v G_patterns_within (hr.mono (by decide)) rfl E_patterns_within.g E_patterns_within.F.kp E_patterns_within.b z0w (z0a (dv 0) z0g))) (z1i (i:=2) sc_link_all.nd rfl (Or.inl rfl)) (z0i z1u))
   (z0e (z2e (z1k z4v z1w (z0y z1l z1m (pv 0) z0k (fun _ _=>rfl)) z1g (z0p _)) (z0i z1u) z1a)
   (z0i (z2e (z1k os_inT y0j (z0y z1l z1m (pv 0) z0k (fun _ _=>rfl)) (z3a (z0a z1g (z0a z1g z0g))) rfl) (z0i z1u) z1a)))),?_⟩
  have sz:=z0u
  walk_at "vd"
  refine ⟨rfl,?_⟩
  walk_at "vd"
  refine z5w [2] (fun r δ=>r=[]∧δ=[.fz z3g,.fz (.dct []),.no]) ⟨rfl,rfl⟩ (fun d r δ h=>by cases h.1) fun δ h=>?_
  obtain ⟨_,rfl⟩:=h
  unfold z3g
  walk_at "vd"
  rw [if_neg (by decide)]
  refine ⟨by omega,?_⟩
  rw [if_neg (by decide)]
  exact q
def R_nx:RD:=fun δ Q=>δ=[.fz z3g]∧Q true (.dct []) [.no]
theorem ok_nx {f1 f2 f3:Addr}{fd1 fd2 fd3:FuncData}(E_nexts:Ent K mg "nexts" s_nexts ["pattern"] f fd) (T:Zs K mg) (E_patterns_within:Ent K mg "patterns_within" s_patterns_within ["pattern"] f1 fd1) (E_signs:Ent K mg "signs" s_signs ["pattern"] f2 fd2) (E_link_all:Ent K mg "link_all" s_link_all ["pattern","followers"] f3 fd3):FnOk P w K mg base CX0 3 f fd ["pattern"] (spD R_nx):=by
 have G_signs:FnOk P w K mg base CX0 2 f2 fd2 _ (spD R_pw):=ok_sg E_signs T E_patterns_within
 have G_link_all:FnOk P w K mg base CX0 2 f3 fd3 _ (spD R_la):=ok_la E_link_all T E_patterns_within
 refine VL.Fun.dok E_nexts.F sc_nexts (fun δ Qd h=>?_) (by decide) (fun cdv A outer s H E δ Qd hr h=>?_)
 ·obtain ⟨rfl,_⟩:=h;rfl
 ·obtain ⟨rfl,q⟩:=h
  have hu:=z4f hr
  refine ⟨_,(z0e (z1d (i:=1) sc_nexts.nd rfl (Or.inl rfl) (z0v G_signs (hr.mono (by decide)) rfl E_signs.g E_signs.F.kp E_signs.b z0w (z0a (dv 0) z0g)))
   (z0e (z1d (i:=2) sc_nexts.nd rfl (Or.inr rfl) z5i)
   (z0e (z2t PassesOwn.never rfl (z2i (dv 1)) (z1i (i:=3) sc_nexts.nd rfl (Or.inr rfl)) (z0i (y1p hu (pv 2) (dv 3) z5i)))
   (z0e (z3q (z0v G_link_all (hr.mono (by decide)) rfl E_link_all.g E_link_all.F.kp E_link_all.b z0w (z0a (dv 0) (z0a (dv 2) z0g))))
   (z0e (z1d (i:=4) sc_nexts.nd rfl (Or.inl rfl) z5i)
   (z0e (z2t PassesOwn.never rfl (z2i (dv 1)) (z1i (i:=3) sc_nexts.nd rfl (Or.inr rfl)) (z0i z1u))
   (z0i (z0z (dm 4))))))))),?_⟩
  have sz:=z0u
  walk_at "vd"
  refine ⟨rfl,?_⟩
  walk_at "vd"
  refine z5w [3] (fun r δ=>r=[]∧δ=[.fz z3g,.fz (.lst []),.ob false (.dct []),.no,.no]) ⟨rfl,rfl⟩ (fun d r δ h=>by cases h.1) fun δ h=>?_
  obtain ⟨_,rfl⟩:=h
  walk_at "vd"
  refine ⟨rfl,?_⟩
  walk_at "vd"
  refine z5w [3] (fun r δ=>r=[]∧δ=[.fz z3g,.fz (.lst []),.fz (.dct []),.no,.ob false (.dct [])]) ⟨rfl,rfl⟩ (fun d r δ h=>by cases h.1) fun δ h=>?_
  obtain ⟨_,rfl⟩:=h
  walk_at "vd"
  exact q
def R_tbl:RD:=fun δ Q=>δ=[.fz z3g]∧Q false tabN [.no]
theorem ok_tbl {f1 f2 f3 f4 f5 f6 f7:Addr}{fd1 fd2 fd3 fd4 fd5 fd6 fd7:FuncData}(E_table:Ent K mg "table" s_table ["pattern"] f fd) (T:Zs K mg) (E_patterns_within:Ent K mg "patterns_within" s_patterns_within ["pattern"] f1 fd1) (E_signs:Ent K mg "signs" s_signs ["pattern"] f2 fd2) (E_link_all:Ent K mg "link_all" s_link_all ["pattern","followers"] f3 fd3) (E_bare:Ent K mg "bare" s_bare ["pattern"] f4 fd4) (E_firsts:Ent K mg "firsts" s_firsts ["pattern"] f5 fd5) (E_lasts:Ent K mg "lasts" s_lasts ["pattern"] f6 fd6) (E_nexts:Ent K mg "nexts" s_nexts ["pattern"] f7 fd7):FnOk P w K mg base CX0 4 f fd ["pattern"] (spD R_tbl):=by
 have G_bare:FnOk P w K mg base CX0 1 f4 fd4 _ (spD R_br):=ok_br E_bare T
 have G_firsts:FnOk P w K mg base CX0 2 f5 fd5 _ (spD R_pw):=ok_ft E_firsts T E_patterns_within
 have G_lasts:FnOk P w K mg base CX0 2 f6 fd6 _ (spD R_pw):=ok_lt E_lasts T E_patterns_within
 have G_nexts:FnOk P w K mg base CX0 3 f7 fd7 _ (spD R_nx):=ok_nx E_nexts T E_patterns_within E_signs E_link_all
 refine VL.Fun.dok E_table.F sc_table (fun δ Qd h=>?_) (by decide) (fun cdv A outer s H E δ Qd hr h=>?_)
 ·obtain ⟨rfl,_⟩:=h;rfl
 ·obtain ⟨rfl,q⟩:=h
  refine ⟨_,(z0i (z0z (z3a (z0a (z0v G_bare (hr.mono (by decide)) rfl E_bare.g E_bare.F.kp E_bare.b z0w (z0a (dv 0) z0g)) (z0a (z0v G_firsts (hr.mono (by decide)) rfl E_firsts.g E_firsts.F.kp E_firsts.b z0w (z0a (dv 0) z0g)) (z0a (z0v G_lasts (hr.mono (by decide)) rfl E_lasts.g E_lasts.F.kp E_lasts.b z0w (z0a (dv 0) z0g)) (z0a (z0v G_nexts (hr.mono (by decide)) rfl E_nexts.g E_nexts.F.kp E_nexts.b z0w (z0a (dv 0) z0g)) z0g))))))),?_⟩
  have sz:=z0u
  walk_at "vd"
  refine ⟨rfl,?_⟩
  walk_at "vd"
  refine ⟨rfl,?_⟩
  walk_at "vd"
  refine ⟨rfl,?_⟩
  walk_at "vd"
  refine ⟨rfl,?_⟩
  walk_at "vd"
  exact ⟨by omega,q⟩
def y1b:RD:=fun δ Q=>∃ (root:Str) (rules:List (Str × Pat)),δ=[.fz (.lst (rules.map y3t))]∧FormOk root rules∧Q true (.dct (tabsF rules)) [.no]
theorem ok_tables {f1 f2 f3 f4 f5 f6 f7 f8:Addr}{fd1 fd2 fd3 fd4 fd5 fd6 fd7 fd8:FuncData}(E_tables:Ent K mg "tables" s_tables ["rules"] f fd) (T:Zs K mg) (E_patterns_within:Ent K mg "patterns_within" s_patterns_within ["pattern"] f1 fd1) (E_signs:Ent K mg "signs" s_signs ["pattern"] f2 fd2) (E_link_all:Ent K mg "link_all" s_link_all ["pattern","followers"] f3 fd3) (E_bare:Ent K mg "bare" s_bare ["pattern"] f4 fd4) (E_firsts:Ent K mg "firsts" s_firsts ["pattern"] f5 fd5) (E_lasts:Ent K mg "lasts" s_lasts ["pattern"] f6 fd6) (E_nexts:Ent K mg "nexts" s_nexts ["pattern"] f7 fd7) (E_table:Ent K mg "table" s_table ["pattern"] f8 fd8):FnOk P w K mg base CX0 5 f fd ["rules"] (spD y1b):=by
 have G_table:FnOk P w K mg base CX0 4 f8 fd8 _ (spD R_tbl):=ok_tbl E_table T E_patterns_within E_signs E_link_all E_bare E_firsts E_lasts E_nexts
 refine VL.Fun.dok E_tables.F sc_tables (fun δ Qd h=>?_) (by decide) (fun cdv A outer s H E δ Qd hr h=>?_)
 ·obtain ⟨_,_,rfl,_⟩:=h;rfl
 ·obtain ⟨root,rules,rfl,⟨rfl,rfl⟩,q⟩:=h
  have hu:=z4f hr
  refine ⟨_,(z0e (z1d (i:=1) sc_tables.nd rfl (Or.inl rfl) z5i)
   (z0e (z2t PassesOwn.never rfl (z2i (dv 0)) (z8 (n:=2) rfl (z2k (z1i (i:=2) sc_tables.nd rfl (Or.inl rfl)) (z2k (z1i (i:=3) sc_tables.nd rfl (Or.inl rfl)) z5z))) (z0i (y1p hu (pv 1) (dv 2) (z0v G_table (hr.mono (by decide)) rfl E_table.g E_table.F.kp E_table.b z0w (z0a (dv 3) z0g)))))
   (z0i (z0z (dm 1))))),?_⟩
  have sz:=z0u
  simp only [List.map_cons,List.map_nil,y3t]
  walk_at "vd"
  refine z5w [2,3] (fun r δ=>∃ b:Bool,r=(if b then [] else [.tup [.str "a",z3g]])∧δ=[.fz (.lst [.tup [.str "a",z3g]]),.ob false (.dct (if b then [(.inr "a",tabN)] else [])),.no,.no]) ⟨false,rfl,rfl⟩ ?_ ?_
  ·rintro d r δ ⟨b,e,rfl⟩
   cases b with
   |true=>cases e
   |false =>
    cases e
    walk_at "vd"
    refine ⟨rfl,?_⟩
    walk_at "vd"
    exact ⟨by first|omega|(simp;omega),true,rfl,rfl⟩
  ·rintro δ ⟨b,e,rfl⟩
   cases b with
   |false=>cases e
   |true =>
    walk_at "vd"
    exact q
def R_ag:RD:=fun δ Q=>∃ ws:List Str,δ=[.fz tabN,.fz (.lst (ws.map .str))]∧ws.length≤1000000∧Q false (.bl ws.isEmpty) [.no,.no]
theorem ok_ag (E_agrees:Ent K mg "agrees" s_agrees ["told","word"] f fd) (T:Zs K mg):FnOk P w K mg base CX0 1 f fd ["told","word"] (spD R_ag):=by
 refine VL.Fun.dok E_agrees.F sc_agrees (fun δ Qd h=>?_) (by decide) (fun cdv A outer s H E δ Qd hr h=>?_)
 ·obtain ⟨_,rfl,_⟩:=h;rfl
 ·obtain ⟨ws,rfl,hl,q⟩:=h
  have hu:=z4f hr
  refine ⟨_,(z0e (z2e (y2j (y3u (pv 1))) (z0i (z0z (z0y z1l z1m (pv 0) z0k (fun _ _=>rfl)))) z1a)
   (z0e (z2e (dt_w (dw_or (z1k z6f z3y (z0y z2u z2l (pv 1) z0k (fun _ _=>rfl)) (z0y z1l z1m (pv 0) z0k (fun _ _=>rfl)) rfl) (dw_or1 (z1k z6f z3y (z0y z2u z2l (pv 1) (de_neg z0k) (fun _ _=>rfl)) (z0y z1l z1m (pv 0) z0k (fun _ _=>rfl)) rfl)))) (z0i (z0z z9b)) z1a)
   (z0e (z2t PassesOwn.never rfl (di_zip rfl T.z_zip (z0a (dv 1) (z0a (z2c (pv 1) (z3f z0k) z3h) z0g))) (z8 (n:=2) rfl (z2k (z1i (i:=2) sc_agrees.nd rfl (Or.inl rfl)) (z2k (z1i (i:=3) sc_agrees.nd rfl (Or.inl rfl)) z5z))) (z0i (z2e (z1k z6f z3y (dv 3) (de_dget hu (z0y z1l z1m (pv 0) z0k (fun _ _=>rfl)) (dv 2)) rfl) (z0i (z0z z9b)) z1a)))
   (z0i (z0z z9b))))),?_⟩
  have sz:=z0u
  unfold tabN
  cases ws with
  |nil =>
   walk_at "vd"
   exact q
  |cons x ws =>
   walk_at "vd"
   refine ⟨_,atI0,x,[],rfl,rfl,?_⟩
   walk_at "vd"
   rw [if_pos (by simp)]
   exact q
def z6y:RD:=fun δ Q=>∃ (rules:List (Str × Pat)) (n:Str) (ps:List Part),δ=[.fz (pD (.tup n ps)),.fz (.dct (tabsF rules))]∧(∃ root,FormOk root rules)∧ps.length≤1000000∧Q false (.bl (okN rules n (z5t ps))) [.no,.no]
def y0n:RD:=fun δ Q=>∃ rules:List (Str × Pat),δ=[.fz (.lst (rules.map y3t))]∧(rules=[]∨rules=[(("a":Str),())])∧Q false .non [.no]
theorem y2r {f1 f2:Addr}{fd1 fd2:FuncData}(E_look_twice:Ent K mg "look_twice" s_look_twice ["rules"] f fd) (T:Zs K mg) (E_signs:Ent K mg "signs" s_signs ["pattern"] f1 fd1) (E_patterns_within:Ent K mg "patterns_within" s_patterns_within ["pattern"] f2 fd2):FnOk P w K mg base CX0 3 f fd ["rules"] (spD y0n):=by
 have G_signs:FnOk P w K mg base CX0 2 f1 fd1 _ (spD R_pw):=ok_sg E_signs T E_patterns_within
 refine VL.Fun.dok E_look_twice.F sc_look_twice (fun δ Qd h=>?_) (by decide) (fun cdv A outer s H E δ Qd hr h=>?_)
 ·obtain ⟨_,rfl,_⟩:=h;rfl
 ·obtain ⟨rules,rfl,hru,q⟩:=h
  have hu:=z4f hr
  refine ⟨_,(z0e (z1d (i:=1) sc_look_twice.nd rfl (Or.inl rfl) z5i)
   (z0i (z2t PassesOwn.never rfl (z2i (dv 0)) (z8 (n:=2) rfl (z2k (z1i (i:=2) sc_look_twice.nd rfl (Or.inl rfl)) (z2k (z1i (i:=3) sc_look_twice.nd rfl (Or.inl rfl)) z5z))) (z0e (z1d (i:=4) sc_look_twice.nd rfl (Or.inl rfl) (z0v G_signs (hr.mono (by decide)) rfl E_signs.g E_signs.F.kp E_signs.b z0w (z0a (dv 3) z0g)))
   (z0e (z2e (dt_w (dw_or (dt_dinV hu (dv 2) (pv 1)) (dw_or1 (z1k os_lt op_lt (de_lenSet rfl rfl T.z_len rfl T.z_set (dv 4)) (z2g z3r z1h rfl T.z_len PySem.boot_len (pv 4)) (z0p _))))) (z0i z1u) z1a)
   (z0i (y1p hu (pv 1) (dv 2) z9b))))))),?_⟩
  have sz:=z0u
  rcases hru with rfl|rfl
  ·simp only [List.map_nil]
   walk_at "vd"
   refine z5w [2,3,4] (fun r δ=>r=[]∧δ=[.fz (.lst []),.ob false (.dct []),.no,.no,.no]) ⟨rfl,rfl⟩ (fun d r δ h=>by cases h.1) fun δ h=>?_
   obtain ⟨_,rfl⟩:=h
   walk_at "vd"
   exact q
  ·simp only [List.map_cons,List.map_nil,y3t]
   walk_at "vd"
   refine z5w [2,3,4] (fun r δ=>∃ b:Bool,r=(if b then [] else [.tup [.str "a",z3g]])∧δ=[.fz (.lst [.tup [.str "a",z3g]]),.ob false (.dct (if b then [(.inr "a",.bl true)] else [])),.no,.no,.no]) ⟨false,rfl,rfl⟩ ?_ ?_
   ·rintro d r δ ⟨b,e,rfl⟩
    cases b with
    |true=>cases e
    |false =>
     cases e
     walk_at "vd"
     refine ⟨rfl,?_⟩
     walk_at "vd"
     rw [if_neg (by decide)]
     refine ⟨[],rfl,by simp,?_⟩
     rw [if_neg (by decide)]
     exact ⟨by first|omega|(simp;omega),true,rfl,rfl⟩
   ·rintro δ ⟨b,e,rfl⟩
    cases b with
    |false=>cases e
    |true =>
     walk_at "vd"
     exact q
def y5s:RD:=fun δ Q=>∃ (root:Str) (rules:List (Str × Pat)),δ=[.fz (.str root),.fz (.lst (rules.map y3t))]∧FormOk root rules∧Q false .non [.no,.no]
theorem ok_lnames {f1 f2:Addr}{fd1 fd2:FuncData}(E_look_names:Ent K mg "look_names" s_look_names ["root","rules"] f fd) (T:Zs K mg) (E_signs:Ent K mg "signs" s_signs ["pattern"] f1 fd1) (E_patterns_within:Ent K mg "patterns_within" s_patterns_within ["pattern"] f2 fd2):FnOk P w K mg base CX0 3 f fd ["root","rules"] (spD y5s):=by
 have G_signs:FnOk P w K mg base CX0 2 f1 fd1 _ (spD R_pw):=ok_sg E_signs T E_patterns_within
 refine VL.Fun.dok E_look_names.F sc_look_names (fun δ Qd h=>?_) (by decide) (fun cdv A outer s H E δ Qd hr h=>?_)
 ·obtain ⟨_,_,rfl,_⟩:=h;rfl
 ·obtain ⟨root,rules,rfl,⟨rfl,rfl⟩,q⟩:=h
  have hu:=z4f hr
  refine ⟨_,(z0e (z1d (i:=2) sc_look_names.nd rfl (Or.inl rfl) (z4y cs_dict (z2a rfl) rfl T.z_dict PyProof.Rows.boot_dict (z0a (dv 1) z0g)))
   (z0e (z2e (y0 hu (dv 0) (pv 2)) (z0i z1u) z1a)
   (z0i (z2t PassesOwn.never rfl (z2i (dv 1)) (z1i (i:=3) sc_look_names.nd rfl (Or.inl rfl)) (z0i (z2t PassesOwn.never rfl (z2i (z0v G_signs (hr.mono (by decide)) rfl E_signs.g E_signs.F.kp E_signs.b z0w (z0a (z0y z1l z1m (pv 3) z0k (fun _ _=>rfl)) z0g))) (z1i (i:=4) sc_look_names.nd rfl (Or.inl rfl)) (z0i (z2e (dt_w (y6j (z1k os_ne op_ne (dv 4) (de_gS rfl T.g_TEXT_SIGN) (z0p _)) (y1u (y0 hu (dv 4) (pv 2))))) (z0i z1u) z1a)))))))),?_⟩
  have sz:=z0u
  simp only [List.map_cons,List.map_nil,y3t]
  walk_at "vd"
  refine ⟨[("a",z3g)],rfl,?_⟩
  walk_at "vd"
  rw [if_neg (by decide)]
  refine z5w [3,4] (fun r δ=>∃ b:Bool,r=(if b then [] else [.tup [.str "a",z3g]])∧δ=[.fz (.str "a"),.fz (.lst [.tup [.str "a",z3g]]),.ob false (.dct [(.inr "a",z3g)]),.no,.no]) ⟨false,rfl,rfl⟩ ?_ ?_
  ·rintro d r δ ⟨b,e,rfl⟩
   cases b with
   |true=>cases e
   |false =>
    cases e
    walk_at "vd"
    refine ⟨rfl,?_⟩
    walk_at "vd"
    refine z5w [4] (fun r δ=>r=[]∧δ=[.fz (.str "a"),.fz (.lst [.tup [.str "a",z3g]]),.ob false (.dct [(.inr "a",z3g)]),.fz (.tup [.str "a",z3g]),.no]) ⟨rfl,rfl⟩ (fun d r δ h=>by cases h.1) fun δ h=>?_
    obtain ⟨_,rfl⟩:=h
    walk_at "vd"
    exact ⟨true,rfl⟩
  ·rintro δ ⟨b,e,rfl⟩
   cases b with
   |false=>cases e
   |true =>
    walk_at "vd"
    exact q
def z3w:RD:=fun δ Q=>∃ (root:Str) (rules:List (Str × Pat)),δ=[.fz (y1c root rules)]∧FormOk root rules∧Q false .non [.no]
theorem z5x {f1 f2 f3 f4:Addr}{fd1 fd2 fd3 fd4:FuncData}(E_look:Ent K mg "look" s_look ["form"] f fd) (T:Zs K mg) (E_look_twice:Ent K mg "look_twice" s_look_twice ["rules"] f1 fd1) (E_look_names:Ent K mg "look_names" s_look_names ["root","rules"] f2 fd2) (E_signs:Ent K mg "signs" s_signs ["pattern"] f3 fd3) (E_patterns_within:Ent K mg "patterns_within" s_patterns_within ["pattern"] f4 fd4):FnOk P w K mg base CX0 4 f fd ["form"] (spD z3w):=by
 have G_look_twice:FnOk P w K mg base CX0 3 f1 fd1 _ (spD y0n):=y2r E_look_twice T E_signs E_patterns_within
 have G_look_names:FnOk P w K mg base CX0 3 f2 fd2 _ (spD y5s):=ok_lnames E_look_names T E_signs E_patterns_within
 refine VL.Fun.dok E_look.F sc_look (fun δ Qd h=>?_) (by decide) (fun cdv A outer s H E δ Qd hr h=>?_)
 ·obtain ⟨_,_,rfl,_⟩:=h;rfl
 ·obtain ⟨root,rules,rfl,ok,q⟩:=h
  refine ⟨_,(z0e (z3q (z0v G_look_twice (hr.mono (by decide)) rfl E_look_twice.g E_look_twice.F.kp E_look_twice.b z0w (z0a (z0y z1l z1m (pv 0) z0k (fun _ _=>rfl)) z0g)))
   (z0i (z3q (z0v G_look_names (hr.mono (by decide)) rfl E_look_names.g E_look_names.F.kp E_look_names.b z0w (z0a (z0y z1l z1m (pv 0) z0k (fun _ _=>rfl)) (z0a (z0y z1l z1m (pv 0) z0k (fun _ _=>rfl)) z0g)))))),?_⟩
  unfold y1c
  walk_at "vd"
  refine ⟨rules,rfl,.inr ok.e2,?_⟩
  walk_at "vd"
  exact ⟨root,rules,rfl,ok,q⟩
end
open PySem L2 VL Pap K11
def natD (as:List Nat):List D:=as.map fun (a:Nat)=>D.int (a:Int)
def nl (as:List Nat):List Int:=as.map fun (a:Nat)=>(a:Int)
theorem natD_nl (as:List Nat):natD as=(nl as).map .int:=by simp [natD,nl]
theorem natD_len (as:List Nat):(natD as).length=as.length:=by simp [natD]
def pathD (q:List Nat):D:=.lst (natD q)
theorem compL {α:Type}(f g:α→D) (xs:List α) {te:TEd}{Q:Bool→D→List VL.Slot→Prop}{δ:List VL.Slot}(hl:xs.length≤sizeLine)
  (h:∀ x∈xs,∀ P:D→List VL.Slot→Prop,P (g x) (.fz (f x)::δ)→te (.fz (f x)::δ) fun _ y δ'=>P y δ') (q:Q true (.lst (xs.map g)) δ):CompD 1 (xs.map f) (dgN 0) dYes te Q δ:=by
 refine ⟨fun r acc δ1=>δ1=δ∧∃ pre suf,xs=pre ++ suf∧r=suf.map f∧acc=pre.map g,⟨rfl,[],xs,rfl,rfl,rfl⟩,?_,?_⟩
 ·rintro d r acc δ1 ⟨rfl,pre,suf,e,er,rfl⟩
  cases suf with
  |nil=>cases er
  |cons x suf =>
   cases er
   refine ⟨trivial,?_⟩
   unfold dYes
   dsimp only
   rw [if_pos rfl]
   have hlen:pre.length < sizeLine:=by rw [e] at hl;simp at hl;omega
   exact h x (by rw [e];simp) (fun y δ4=>(pre.map g).length < sizeLine∧List.drop 1 δ4=δ1∧∃ pre' suf',xs=pre' ++ suf'∧suf.map f=suf'.map f∧pre.map g ++ [y]=pre'.map g) ⟨by simpa using hlen,rfl,pre ++ [x],suf,by rw [e];simp,rfl,by simp⟩
 ·rintro acc δ1 ⟨rfl,pre,suf,e,er,rfl⟩
  have es:suf=[]:=by simpa using er.symm
  subst es
  simp at e
  subst e
  exact q
section
variable {P:Program}{w:World}{K:PySem.W.Frag}{mg:Str→Option Value}{base:Heap}{f:Addr}{fd:FuncData}
def R_word8:RD:=fun δ Q=>∃ ps:List Part,δ=[.fz (.lst (pDs ps))]∧ps.length≤1000000∧Q true (.lst ((z5t ps).map .str)) [.no]
theorem ok_wordP {f1:Addr}{fd1:FuncData}(E_word:Ent K mg "word" s_word ["row"] f fd) (T:Zs K mg) (E_sign_of:Ent K mg "sign_of" s_sign_of ["part"] f1 fd1):FnOk P w K mg base CX0 2 f fd ["row"] (spD R_word8):=by
 have G_sign_of:FnOk P w K mg base CX0 1 f1 fd1 _ (spD R_sign):=ok_sign E_sign_of T
 refine VL.Fun.dok E_word.F sc_word (fun δ Qd h=>?_) (by decide) (fun cdv A outer s H E δ Qd hr h=>?_)
 ·obtain ⟨_,rfl,_⟩:=h;rfl
 ·obtain ⟨ps,rfl,hl,q⟩:=h
  refine ⟨_,(z0i (z0z (z5v ["part"] ["row"] rfl (show CScopeG (z0c s_word) ["row"] ["part"] _ _ from ⟨rfl,by decide +kernel,by decide +kernel,by decide +kernel,by decide +kernel⟩) (z2i (dv 0)) (fun _ _ _ _ _=>(z2j (i:=0) (by decide) (show List.Nodup (["part","row"]:List Str) from by decide +kernel) rfl (Or.inl rfl))) (fun _ _ _ _ _=>z7i) (fun _ _ _ _ _=>(z0v G_sign_of (hr.mono (by decide)) rfl E_sign_of.g E_sign_of.F.kp E_sign_of.b z0w (z0a (dv 0) z0g)))))),?_⟩
  have sz:=z0u
  walk_at "vd"
  rw [z3m]
  refine compL pD (fun p=>.str (z9a p)) ps (by omega) (fun p hp P hP=>?_) (by rw [← show (z5t ps).map D.str=ps.map (fun p=>.str (z9a p)) by simp [z5t]];rw [← z3m];exact q)
  walk_at "vd"
  exact ⟨p,rfl,hP⟩
theorem ok_holds {f1 f2 f3:Addr}{fd1 fd2 fd3:FuncData}(E_holds:Ent K mg "holds" s_holds ["part","known"] f fd) (T:Zs K mg) (E_agrees:Ent K mg "agrees" s_agrees ["told","word"] f1 fd1) (E_word:Ent K mg "word" s_word ["row"] f2 fd2) (E_sign_of:Ent K mg "sign_of" s_sign_of ["part"] f3 fd3):FnOk P w K mg base CX0 3 f fd ["part","known"] (spD z6y):=by
 have G_agrees:FnOk P w K mg base CX0 1 f1 fd1 _ (spD R_ag):=ok_ag E_agrees T
 have G_word:FnOk P w K mg base CX0 2 f2 fd2 _ (spD R_word8):=ok_wordP E_word T E_sign_of
 refine VL.Fun.dok E_holds.F sc_holds (fun δ Qd h=>?_) (by decide) (fun cdv A outer s H E δ Qd hr h=>?_)
 ·obtain ⟨_,_,_,rfl,_⟩:=h;rfl
 ·obtain ⟨rules,n,ps,rfl,⟨root,rfl,rfl⟩,hl,q⟩:=h
  have hu:=z4f hr
  refine ⟨_,(z0i (z0z (de_and (de_dinV hu (z0y z1l z1m (pv 0) z0k (fun _ _=>rfl)) (pv 1)) (de_one (z0v G_agrees (hr.mono (by decide)) rfl E_agrees.g E_agrees.F.kp E_agrees.b z0w (z0a (de_dgetV hu (pv 1) (z0y z1l z1m (pv 0) z0k (fun _ _=>rfl))) (z0a (z0v G_word (hr.mono (by decide)) rfl E_word.g E_word.F.kp E_word.b z0w (z0a (z0y z1l z1m (pv 0) z0k (fun _ _=>rfl)) z0g)) z0g))))))),?_⟩
  have sz:=z0u
  simp only [pD,tabsF,List.map_cons,List.map_nil]
  walk_at "vd"
  unfold okN at q
  by_cases h:n = "a"
  ·subst h
   rw [if_pos (by rfl)]
   refine ⟨_,rfl,ps,rfl,hl,?_⟩
   walk_at "vd"
   exact ⟨z5t ps,rfl,by simp [z5t];omega,q⟩
  ·rw [decide_eq_false h] at q
   rw [if_neg (by simp [getS,Ne.symm h])]
   exact q
end
open PySem L2 VL Pap K11
abbrev Plc:=List Nat × Str × List Part
mutual
def twp1 (path:List Nat):Part→List Plc
 |.txt _=>[]
 |.tup n ps=>(path,n,ps)::twpL path 0 ps
def twpL (path:List Nat) (k:Nat):List Part→List Plc
 | []=>[]
 |p::ps=>twp1 (path ++ [k]) p ++ twpL path (k+1) ps
end
def kidQ (path:List Nat) (k:Nat):List Part→List Plc
 | []=>[]
 |.txt _::ps=>kidQ path (k+1) ps
 |.tup n is::ps=>(path ++ [k],n,is)::kidQ path (k+1) ps
def twpE (e:Plc):List Plc:=twp1 e.1 (.tup e.2.1 e.2.2)
theorem z8y:∀ (ps:List Part) (path:List Nat) (k:Nat),twpL path k ps=(kidQ path k ps).flatMap twpE
 | [],_,_=>rfl
 |.txt _::ps,path,k=>by simp only [twpL,twp1,kidQ,List.nil_append];exact z8y ps path (k+1)
 |.tup n is::ps,path,k=>by simp only [twpL,kidQ,List.flatMap_cons,z8y ps path (k+1)];rfl
theorem z8w (e:Plc):twpE e=e::(kidQ e.1 0 e.2.2).flatMap twpE:=by
 obtain ⟨path,n,ps⟩:=e
 simp only [twpE,twp1]
 rw [z8y]
mutual
theorem y1w:∀ (p:Part) (path:List Nat),(twp1 path p).length≤z1j p
 |.txt _,_=>by simp [twp1]
 |.tup n ps,path=>by have:=y6t ps path 0;simp only [twp1,z1j,List.length_cons];omega
theorem y6t:∀ (ps:List Part) (path:List Nat) (k:Nat),(twpL path k ps).length≤z0q ps
 | [],_,_=>by simp [twpL]
 |p::ps,path,k=>by
  have h1:=y1w p (path ++ [k])
  have h2:=y6t ps path (k+1)
  simp only [twpL,z0q,List.length_append]
  omega
end
def plcD (e:Plc):D:=.tup [pathD e.1,pD (.tup e.2.1 e.2.2)]
theorem z7y (path:List Nat):∀ (ps:List Part) (k:Nat) (p:Part),kidQ path k (ps ++ [p])=kidQ path k ps ++ kidQ path (k+ps.length) [p]
 | [],k,p=>by simp [kidQ]
 |.txt _::ps,k,p=>by
  simp only [List.cons_append,kidQ,z7y path ps (k+1) p,List.length_cons]
  rw [show k+1+ps.length=k+(ps.length+1) by omega]
 |.tup n is::ps,k,p=>by
  simp only [List.cons_append,kidQ,z7y path ps (k+1) p,List.length_cons]
  rw [show k+1+ps.length=k+(ps.length+1) by omega]
theorem z7u (path:List Nat):∀ (ps:List Part) (k:Nat),(kidQ path k ps).length≤ps.length
 | [],_=>Nat.le_refl _
 |.txt _::ps,k=>by have:=z7u path ps (k+1);simp only [kidQ,List.length_cons];omega
 |.tup n is::ps,k=>by have:=z7u path ps (k+1);simp only [kidQ,List.length_cons];omega
theorem z7t {path:List Nat}{e:Plc}:∀ {ps:List Part}{k:Nat},e∈kidQ path k ps→(∃ j,e.1=path ++ [j])∧Part.tup e.2.1 e.2.2∈ps
 |.txt _::ps,k,h=>by
  obtain ⟨h1,h2⟩:=z7t (ps:=ps) (k:=k+1) h
  exact ⟨h1,List.mem_cons_of_mem _ h2⟩
 |.tup n is::ps,k,h=>by
  rcases List.mem_cons.mp (show e∈(path ++ [k],n,is)::kidQ path (k+1) ps from h) with rfl|h
  ·exact ⟨⟨k,rfl⟩,List.mem_cons_self⟩
  ·obtain ⟨h1,h2⟩:=z7t (ps:=ps) (k:=k+1) h
   exact ⟨h1,List.mem_cons_of_mem _ h2⟩
section
variable {P:Program}{w:World}{K:PySem.W.Frag}{mg:Str→Option Value}{base:Heap}{f:Addr}{fd:FuncData}
def R_tb:RD:=fun δ Q=>∃ (q:List Nat) (n:Str) (ps:List Part),δ=[.fz (pathD q),.fz (pD (.tup n ps))]∧q.length≤1000∧ps.length≤1000000∧Q true (.lst ((kidQ q 0 ps).map plcD)) [.no,.no]
theorem ok_tb (E_tuples_beneath:Ent K mg "tuples_beneath" s_tuples_beneath ["path","part"] f fd) (T:Zs K mg):FnOk P w K mg base CX0 1 f fd ["path","part"] (spD R_tb):=by
 refine VL.Fun.dok E_tuples_beneath.F z7b (fun δ Qd h=>?_) (by decide) (fun cdv A outer s H E δ Qd hr h=>?_)
 ·obtain ⟨_,_,_,rfl,_⟩:=h;rfl
 ·obtain ⟨q,n,ps,rfl,hq,hl,post⟩:=h
  refine ⟨_,(z0i (z0z (z5v ["place","inner"] ["path","part"] rfl (show CScopeG (z0c s_tuples_beneath) ["path","part"] ["place","inner"] _ _ from ⟨rfl,by decide +kernel,by decide +kernel,by decide +kernel,by decide +kernel⟩) (di_enum rfl T.z_enumerate (z0a (z0y z1l z1m (pv 1) z0k (fun _ _=>rfl)) z0g)) (fun _ _ _ _ _=>(y5p (m:=2) rfl (z4k (z2j (i:=0) (by decide) (show List.Nodup (["place","inner","path","part"]:List Str) from by decide +kernel) rfl (Or.inl rfl)) (z4k (z2j (i:=1) (by decide) (show List.Nodup (["place","inner","path","part"]:List Str) from by decide +kernel) rfl (Or.inl rfl)) y1g)))) (fun _ _ _ _ _=>(df_one (y2j (z9n (z4r (z9q T.kit) (z2s (K:=K) rfl) rfl T.z_isinstance PyProof.Rows.boot_isinstance (z0a (dv 1) (z0a (de_ty rfl T.z_str PyProof.Rows.boot_str) z0g))))))) (fun _ _ _ _ _=>(z3a (z0a (z0s z4s z3j (dv 2) (z1c (z0a (dv 0) z0g))) (z0a (dv 1) z0g))))))),?_⟩
  have sz:=z0u
  simp only [pD,pathD]
  walk_at "vd"
  refine ⟨fun r acc δ1=>δ1=[.fz (.lst (natD q)),.fz (.tup [.str n,.lst (pDs ps)])]∧∃ pre suf,ps=pre ++ suf∧r=z7w pre.length (pDs suf)∧acc=(kidQ q 0 pre).map plcD,⟨rfl,[],ps,rfl,rfl,rfl⟩,?_,?_⟩
  ·rintro d r acc δ1 ⟨rfl,pre,suf,e1,e2,rfl⟩
   cases suf with
   |nil=>cases e2
   |cons p suf =>
    cases e2
    have e1':=congrArg List.length e1
    simp at e1'
    have kl:=z7u q pre 0
    have ks:=z7y q pre 0 p
    rw [Nat.zero_add] at ks
    cases p with
    |txt z =>
     simp only [pD]
     walk_at "vd"
     refine ⟨pre ++ [.txt z],suf,by simp [e1],by simp,?_⟩
     rw [ks];simp [kidQ]
    |tup m is =>
     simp only [pD]
     walk_at "vd"
     refine ⟨by omega,by rw [natD_len];omega,by omega,by simp;omega,pre ++ [.tup m is],suf,by simp [e1],by simp,?_⟩
     rw [ks];simp [kidQ,plcD,pathD,natD,pD]
  ·rintro acc δ1 ⟨rfl,pre,suf,e1,e2,rfl⟩
   cases suf with
   |cons p suf=>cases e2
   |nil =>
    rw [List.append_nil] at e1
    subst e1
    exact post
end
open PySem L2 VL Pap K11
local macro_rules|`(tactic| walk_at "rs")=>do
 let v←("L2.start tSeq y1a tAsg z7n tVar tC tOp rI0 y2n tRet z9k z7m tCB z6e tNil tNot tAnd tB tTup tLst y4e y4f tRev tYes rEq scal z4e z4q rCat gTup y5b gNil tLM tDIn z4w y4w y5o z8g tB z3t z0d and_imp ne_eq HO.lst.injEq HO.tup.injEq z9y y0h Int.toNat_natCast z9z List.map_cons List.map_nil List.length_cons List.length_nil Nat.reduceAdd Nat.reduceSub List.replicate_succ List.replicate_zero List.cons_append List.nil_append List.append_nil List.getElem?_cons_zero List.getElem?_cons_succ List.set_cons_zero List.set_cons_succ Option.some.injEq V.int.injEq V.str.injEq V.ref.injEq V.bl.injEq V.ty.injEq List.cons.injEq exists_eq_left' exists_eq_left exists_eq' and_true true_and and_assoc exists_and_left reduceCtorEq false_and exists_false false_or or_false decide_eq_true_eq if_true if_false Bool.true_eq_false Bool.false_eq_true Bool.not_true Bool.not_false Bool.not_eq_eq_eq_not".splitOn " ").mapM fun n=>`(Lean.Parser.Tactic.simpLemma| $(Lean.mkIdent n.toName):term)
 `(tactic| simp only [$(v.toArray),*])
def noI (H:Hp):Hp:=fun b=>match H b with|some (.lst (.int _::_))=>none|some (.lst xs)=>some (.lst xs)|some (.tup xs)=>some (.tup xs)|_=>none
theorem noI_sub {H:Hp}:Same (noI H) H:=fun b o e=>by
 unfold noI at e
 split at e
 ·cases e
 ·rename_i h;rw [h];exact e
 ·rename_i h;rw [h];exact e
 ·cases e
theorem noI_t {H:Hp}{b:Addr}{xs:List V}(e:H b=some (.tup xs)):noI H b=some (.tup xs):=by unfold noI;rw [e]
theorem noI_int {H:Hp}{b:Addr}{i:Int}{xs:List V}:noI H b≠some (.lst (.int i::xs)):=fun e=>by
 unfold noI at e
 split at e
 ·cases e
 ·rename_i xs' h1 h2
  cases e
  first|exact h1 _ _ rfl|exact h2 _ _ rfl
 ·cases e
 ·cases e
theorem noI_l {H:Hp}{b:Addr}{xs:List V}(e:H b=some (.lst xs)) (n:∀ i r,xs ≠ .int i::r):noI H b=some (.lst xs):=by
 unfold noI;rw [e]
 split
 ·rename_i h;cases h;exact absurd rfl (n _ _)
 ·rename_i h;cases h;rfl
 ·rename_i h;cases h
 ·rename_i h1 h2 h3;exact absurd rfl (h2 _)
mutual
theorem rep_noI {H:Hp}:∀ (p:Part) (v:V),Rep H (pD p) v→Rep (noI H) (pD p) v
 |.txt s,v,h=>h
 |.tup n ps,v,h=>by
  obtain ⟨a,vs,rfl,h1,x1,r1,rfl,e1,x2,r2,rfl,⟨b,us,rfl,h2,rs⟩,e3⟩:=h
  refine ⟨a,_,rfl,noI_t h1,x1,_,rfl,e1,_,r2,rfl,⟨b,us,rfl,noI_l h2 fun i r z=>?_,y5u ps us rs⟩,e3⟩
  cases ps with
  |nil=>cases (show us=[] from rs);cases z
  |cons p ps =>
   obtain ⟨x,r',rfl,e4,_⟩:=rs
   cases z
   cases p with
   |txt s=>cases (show V.int i = .str s from e4)
   |tup m is=>obtain ⟨_,_,e5,_⟩:=e4;cases e5
theorem y5u {H:Hp}:∀ (ps:List Part) (vs:List V),Reps H (pDs ps) vs→Reps (noI H) (pDs ps) vs
 | [],vs,h=>h
 |p::ps,vs,h=>by obtain ⟨v,r,rfl,h1,h2⟩:=h;exact ⟨v,r,rfl,rep_noI p v h1,y5u ps r h2⟩
end
def intV (q:List Nat):List V:=q.map fun (k:Nat)=>V.int (k:Int)
theorem rep_path {F:Hp}{q:List Nat}{v:V}:Rep F (pathD q) v↔∃ a,v = .ref a∧F a=some (.lst (intV q)):=by
 constructor
 ·rintro ⟨a,vs,rfl,h1,r⟩
  rw [natD_nl] at r
  have:=r.ints
  subst this
  exact ⟨a,rfl,by rw [h1];simp [nl,intV]⟩
 ·rintro ⟨a,rfl,h⟩
  refine ⟨a,_,rfl,h,?_⟩
  clear h
  unfold intV natD
  induction q with
  |nil=>rfl
  |cons k q ih=>exact ⟨_,_,rfl,rfl,ih⟩
theorem y6s:∀ {q q':List Nat},intV q=intV q'→q=q'
 | [],[],_=>rfl
 | [],_::_,h=>by cases h
 |_::_,[],h=>by cases h
 |a::q,b::q',h=>by
  have h1:V.int (a:Int)=V.int (b:Int)∧intV q=intV q':=by simpa [intV] using h
  have h2:=V.int.inj h1.1
  rw [y6s h1.2,show a=b by omega]
def EntG (G H0:Hp) (e:Plc) (t:V):Prop:=∃ a p v,t = .ref a∧G a=some (.tup [.ref p,v])∧G p=some (.lst (intV e.1))∧H0 p=none∧Rep G (pD (.tup e.2.1 e.2.2)) v
theorem EntG.mono {G G' H0:Hp}{e:Plc}{t:V}(s:Same G G') (h:EntG G H0 e t):EntG G' H0 e t:=by
 obtain ⟨a,p,v,h1,h2,h3,h4,h5⟩:=h
 exact ⟨a,p,v,h1,s _ _ h2,s _ _ h3,h4,Rep.mono s _ _ h5⟩
theorem z5l {α β:Type}{R:α→β→Prop}{as cs:List α}{bs ds:List β}(h:All2 R as bs) (h':All2 R cs ds):All2 R (as ++ cs) (bs ++ ds):=by
 induction h with
 |nil=>exact h'
 |cons r _ ih=>exact .cons r ih
theorem z2r {α β:Type}{R S:α→β→Prop}{as:List α}{bs:List β}(h:All2 R as bs) (m:∀ a b,R a b→S a b):All2 S as bs:=by
 induction h with
 |nil=>exact .nil
 |cons r _ ih=>exact .cons (m _ _ r) ih
theorem all2_rev {α β:Type}{R:α→β→Prop}{as:List α}{bs:List β}(h:All2 R as bs):All2 R as.reverse bs.reverse:=by
 induction h with
 |nil=>exact .nil
 |cons r _ ih=>rw [List.reverse_cons,List.reverse_cons];exact z5l ih (.cons r .nil)
theorem z5j {α β:Type}{R:α→β→Prop}{as:List α}{bs:List β}(h:All2 R as bs):as.length=bs.length:=by
 induction h with
 |nil=>rfl
 |cons r _ ih=>simp [ih]
theorem all2_get {α β:Type}{R:α→β→Prop}{as:List α}{bs:List β}(h:All2 R as bs) {i:Nat}{b:β}(e:bs[i]? = some b):∃ a,as[i]? = some a∧R a b:=by
 induction h generalizing i with
 |nil=>simp at e
 |cons r _ ih =>
  cases i with
  |zero=>simp at e;subst e;exact ⟨_,rfl,r⟩
  |succ i=>simpa using ih (by simpa using e)
theorem z3u {α β:Type}{R:α→β→Prop}{as:List α}{a:α}{bs:List β}(h:All2 R (as ++ [a]) bs):∃ bs' b,bs=bs' ++ [b]∧All2 R as bs'∧R a b:=by
 induction as generalizing bs with
 |nil =>
  cases h with
  |cons r t=>cases t;exact ⟨[],_,rfl,.nil,r⟩
 |cons x as ih =>
  cases h with
  |cons r t =>
   obtain ⟨bs',b,rfl,h1,h2⟩:=ih t
   exact ⟨_::bs',b,rfl,.cons r h1,h2⟩
theorem y0a {F F' H H0:Hp}{p:Addr}{q:List Nat}(hF:∀ b,b≠p→∀ i r,F b≠some (.lst (.int i::r))) (hp:F p=some (.lst (intV q))) (sF:Same F F') (nw:∀ c o,F' c=some o→F c=none→H c=none) (s0:Same H0 H) :
  ∀ (es:List Plc) (us:List V),(∀ e∈es,∃ j,e.1=q ++ [j])→Reps F' (es.map plcD) us→All2 (EntG F' H0) es us
 | [],us,_,h=>by cases (show us=[] from h);exact .nil
 |e::es,us,he,h=>by
  obtain ⟨v,r,rfl,⟨t,xs,rfl,ht,y1,r1,rfl,e1,y2,r2,rfl,e2,e3⟩,h2⟩:=h
  cases (show r2=[] from e3)
  obtain ⟨b,rfl,hb⟩:=rep_path.mp e1
  obtain ⟨j,ej⟩:=he e List.mem_cons_self
  refine .cons ⟨t,b,y2,rfl,ht,hb,s0.free (nw b _ hb ?_),e2⟩ (y0a hF hp sF nw s0 es r (fun e h=>he e (List.mem_cons_of_mem _ h)) h2)
  cases hg:F b with
  |none=>rfl
  |some o =>
   have:=sF _ _ hg
   rw [hb] at this
   cases this
   by_cases z:b=p
   ·rw [z,hp] at hg
    have:=y6s (HO.lst.inj (Option.some.inj hg))
    rw [ej] at this
    have:=congrArg List.length this
    simp at this
   ·exfalso
    rw [ej] at hg
    cases q with
    |nil=>exact hF b z _ _ hg
    |cons k q=>exact hF b z _ _ hg
section
variable {P:Program}{w:World}{K:PySem.W.Frag}{mg:Str→Option Value}{base:Heap}{f:Addr}{fd:FuncData}
theorem spD_own {R:RD}{vs:List V}{ds:List D}{F H:Hp}{Q:VK}{E:XK}{Qd:Bool→D→List VL.Slot→Prop}(sF:Same F H) (r:Reps F ds vs) (h:R (ds.map .fz) Qd)
  (k:∀ b d δ' v F' H',Same H H'→Same F F'→Same F' H'→(∀ c o,F' c=some o→F c=none→H c=none)→Qd b d δ'→SOk H F' H' none (some v) (rsl b d)→Q v H'):spD R vs H Q E:=by
 refine ⟨_,[],F,_,Qd,fun p a e=>by simp at e,y2t sF r,h,fun b d v δ' F' H' I q=>?_⟩
 exact k b d δ' v F' H' I.base I.ext I.sub I.new q (I.get 0 _ rfl)
def sp_twp:Sp:=fun vs H Q _=>∃ (n:Str) (ps:List Part) (v:V) (F0:Hp),vs=[v]∧Same F0 H∧Rep F0 (pD (.tup n ps)) v∧dpL ps≤99∧z0q ps≤1000000 ∧
 ∀ r ts G H',H r=none→Same H H'→Same F0 G→Same G H'→(∀ b o,G b=some o→F0 b=none→H b=none)→G r=none→H' r=some (.lst ts)→All2 (EntG G H) (twp1 [] (.tup n ps)) ts→Q (.ref r) H'
structure TInv (F0 H0:Hp) (all:List Plc) (v:V) (r wt:Addr) (S:List Plc) (σ:L2.St) (H:Hp):Prop where
 ex:∃ (G:Hp) (dn:List Plc) (ts ws:List V) (x:Option V),σ=[some v,some (.ref r),some (.ref wt),x]∧Same H0 H∧(∀ b o,G b=some o→F0 b=none→H0 b=none)∧Same F0 G∧Same G H∧G r=none∧G wt=none∧H r=some (.lst ts)∧H wt=some (.lst ws)∧All2 (EntG G H0) dn ts∧All2 (EntG G H0) S.reverse ws∧all=dn ++ S.flatMap twpE
 bd:∀ e∈S,e.1.length+dpL e.2.2≤99∧z0q e.2.2≤1000000
theorem ok_twp {f1:Addr}{fd1:FuncData}(E_tuples_with_paths:Ent K mg "tuples_with_paths" s_tuples_with_paths ["paper"] f fd) (T:Zs K mg) (E_tuples_beneath:Ent K mg "tuples_beneath" s_tuples_beneath ["path","part"] f1 fd1):FnOk P w K mg base CX0 2 f fd ["paper"] sp_twp:=by
 have G_tuples_beneath:FnOk P w K mg base CX0 1 f1 fd1 _ (spD R_tb):=ok_tb E_tuples_beneath T
 refine E_tuples_with_paths.F.ok sc_tuples_with_paths (fun vs H Q E h=>?_) (fun cdv A outer s H vs Q E hr h=>?_)
 ·obtain ⟨_,_,_,_,rfl,_⟩:=h;rfl
 ·obtain ⟨n,ps,v,F0,rfl,sF0,rv,hdp,hsz,q⟩:=h
  refine ⟨_,(z0h (z2f (i:=1) sc_tuples_with_paths.nd rfl (Or.inl rfl) (z1y z0j))
   (z0h (z2f (i:=2) sc_tuples_with_paths.nd rfl (Or.inl rfl) (z1y (z0b (z3i (z0b (z1y z0j) (z0b (pv 0) z0j))) z0j)))
   (z0h (y1x PassesOwn.never (y1r (pv 2) (fun _=>rfl)) (z0h (z2f (i:=3) sc_tuples_with_paths.nd rfl (Or.inl rfl) (pe_lm0 PySem.F.slot_list_pop PySem.F.type_list_pop y6h (pv 2)))
   (z0h (z1n (y2a PySem.F.slot_list_append PySem.F.type_list_append z1v (pv 1) (z0b (pv 3) z0j)))
   (z0m (z1n (y2a PySem.F.slot_list_extend PySem.F.type_list_extend z6q (pv 2) (z0b (z9p rfl rfl T.z_list rfl T.z_reversed (z0r G_tuples_beneath (hr.mono (by decide)) rfl E_tuples_beneath.g E_tuples_beneath.F.kp E_tuples_beneath.b .nil z0w (z0b (z4d z1m (pv 3) z1e (fun _ _=>rfl)) (z0b (z4d z1m (pv 3) z1e (fun _ _=>rfl)) z0j)))) z0j)))))))
   (z0m (z1q (pv 1)))))),?_⟩
  have sz:=z0u
  walk_at "rs"
  refine ⟨by omega,fun r hr0=>⟨by omega,fun p np hp0=>⟨by omega,fun t nt1 nt2 ht0=>⟨by omega,fun wt nw1 nw2 nw3 hw0=>?_⟩⟩⟩⟩
  have w0:TInv F0 H (twp1 [] (.tup n ps)) v r wt [([],n,ps)] [some v,some (.ref r),some (.ref wt),none] (upd (upd (upd (upd H r (HO.lst [])) p (HO.lst [])) t (HO.tup [V.ref p,v])) wt (HO.lst [V.ref t])):=by
   have sG:Same F0 (upd (upd F0 p (HO.lst [])) t (HO.tup [V.ref p,v])):=(Same.of_new (sF0.free hp0)).upd (sF0.free ht0)
   refine ⟨⟨upd (upd F0 p (.lst [])) t (.tup [.ref p,v]),[],[],[.ref t],none,rfl,(((Same.of_new hr0).upd hp0).upd ht0).upd hw0,fun b o e hb=>?_,sG,fun b o e=>?_,?_,?_,?_,z0d,.nil,.cons ⟨t,p,v,rfl,z0d,?_,hp0,Rep.mono sG _ _ rv⟩ .nil,?_⟩,fun e he=>?_⟩
   ·by_cases z1:b=t
    ·rw [z1];exact ht0
    ·rw [z0f z1] at e
     by_cases z2:b=p
     ·rw [z2];exact hp0
     ·rw [z0f z2,hb] at e;cases e
   ·have nb:b≠wt:=fun z=>by
     rw [z,z0f nw1,z0f nw2,sF0.free hw0] at e;cases e
    rw [z0f nb]
    by_cases z1:b=t
    ·rw [z1,z0d] at e ⊢;exact e
    ·rw [z0f z1] at e ⊢
     by_cases z2:b=p
     ·rw [z2,z0d] at e ⊢;exact e
     ·rw [z0f z2] at e ⊢
      rw [z0f (fun z=>by rw [z,sF0.free hr0] at e;cases e)];exact sF0 _ _ e
   ·rw [z0f (Ne.symm nt2),z0f (Ne.symm np)];exact sF0.free hr0
   ·rw [z0f nw1,z0f nw2];exact sF0.free hw0
   ·rw [z0f (Ne.symm nw3),z0f (Ne.symm nt2),z0f (Ne.symm np)];exact z0d
   ·rw [z0f (Ne.symm nt1)];exact z0d
   ·simp [twpE]
   ·simp at he;subst he;simp;omega
  generalize upd (upd (upd (upd H r (HO.lst [])) p (HO.lst [])) t (HO.tup [V.ref p,v])) wt (HO.lst [V.ref t])=H1 at w0
  have nrw:r≠wt:=Ne.symm nw3
  refine ⟨fun m σ H2=>∃ S,TInv F0 H (twp1 [] (.tup n ps)) v r wt S σ H2∧m=(S.flatMap twpE).length,⟨_,_,w0,rfl⟩,?_⟩
  rintro m σ H2 ⟨S,⟨⟨G,dn,ts,ws,x,rfl,s02,nwG,sHG,sG2,gr,gw,hr2,hw2,a1,a2,eall⟩,bd⟩,rfl⟩
  refine ⟨_,rfl,!ws.isEmpty,.inl ⟨_,SqL.of hw2,rfl⟩,?_⟩
  cases S with
  |nil =>
   cases a2
   rw [List.flatMap_nil,List.append_nil] at eall
   rw [← eall] at a1
   exact iteF ⟨_,rfl,q r ts G H2 hr0 s02 sHG sG2 nwG gr hr2 a1⟩
  |cons e S =>
   rw [List.reverse_cons] at a2
   obtain ⟨ws',tv,rfl,a2',et⟩:=z3u a2
   obtain ⟨a,p',v',rfl,ga,gp,hp',rv'⟩:=et
   have e0:(!(ws' ++ [V.ref a]).isEmpty)=true:=by simp
   rw [if_pos e0]
   refine ⟨fun σ' H'=>∃ m',m' < ((e::S).flatMap twpE).length∧∃ S',TInv F0 H (twp1 [] (.tup n ps)) v r wt S' σ' H'∧m' = (S'.flatMap twpE).length,fun σ' H' h=>h,?_⟩
   have hlast:(ws' ++ [V.ref a])[(ws' ++ [V.ref a]).length - 1]? = some (.ref a):=by simp
   have hdl:(ws' ++ [V.ref a]).dropLast=ws':=by simp
   have l1:=z5j a1
   have l2:=z5j a2'
   have ln:=y1w (.tup n ps) []
   simp only [z1j] at ln
   rw [eall,List.length_append] at ln
   rw [List.flatMap_cons,List.length_append,z8w,List.length_cons] at ln
   have fl:S.length≤(S.flatMap twpE).length:=by
    clear eall bd a2' l2 a2 ln
    induction S with
    |nil=>exact Nat.le_refl _
    |cons z S ih=>rw [List.flatMap_cons,List.length_append,z8w,List.length_cons,List.length_cons];omega
   have fk:(kidQ e.1 0 e.2.2).length≤((kidQ e.1 0 e.2.2).flatMap twpE).length:=by
    generalize kidQ e.1 0 e.2.2=ks
    induction ks with
    |nil=>exact Nat.le_refl _
    |cons z S ih=>rw [List.flatMap_cons,List.length_append,z8w,List.length_cons,List.length_cons];omega
   simp only [List.length_reverse] at l2
   refine ⟨_,rfl,wt,rfl,⟨_,hw2⟩,wt,_,.ref a,rfl,rfl,hw2,hlast,?_⟩
   rw [hdl]
   have gne:∀ {b:Addr}{o:HO},G b=some o→b≠r∧b≠wt:=fun {b o} h=>⟨(fun z=>by rw [z,gr] at h;cases h),(fun z=>by rw [z,gw] at h;cases h)⟩
   have sG3:Same G (upd (upd H2 wt (.lst ws')) r (.lst (ts ++ [.ref a]))):=fun b o h=>by
    obtain ⟨n1,n2⟩:=gne h
    rw [z0f n1,z0f n2];exact sG2 _ _ h
   have s03:Same H (upd (upd H2 wt (.lst ws')) r (.lst (ts ++ [.ref a]))):=(s02.upd hw0).upd hr0
   walk_at "rs"
   refine ⟨⟨_,by rw [z0f nrw];exact hr2⟩,ts,by rw [z0f nrw];exact hr2,by omega,?_⟩
   have hr3:(upd (upd H2 wt (.lst ws')) r (.lst (ts ++ [.ref a]))) r=some (.lst (ts ++ [.ref a])):=z0d
   have hw3:(upd (upd H2 wt (.lst ws')) r (.lst (ts ++ [.ref a]))) wt=some (.lst ws'):=by rw [z0f (Ne.symm nrw)];exact z0d
   generalize upd (upd H2 wt (.lst ws')) r (.lst (ts ++ [.ref a]))=H3 at sG3 hr3 hw3 s03 ⊢
   refine ⟨⟨_,hw3⟩,_,sG3 _ _ ga,_,atI0,_,sG3 _ _ ga,_,atI1,?_⟩
   have hF:∀ b,b≠p'→∀ i r,(fun b=>if b=p' then G p' else noI G b:Hp) b≠some (.lst (.int i::r)):=fun b nb i r z=>by
    simp only [nb,if_false] at z
    exact noI_int z
   have hFp:(fun b=>if b=p' then G p' else noI G b:Hp) p' = some (.lst (intV e.1)):=by simp only [if_true];exact gp
   have sFG:Same (fun b=>if b=p' then G p' else noI G b:Hp) G:=fun b o z=>by
    by_cases nb:b=p'
    ·simp only [nb,if_true] at z;rw [nb];exact z
    ·simp only [nb,if_false] at z;exact noI_sub _ _ z
   have sNF:Same (noI G) (fun b=>if b=p' then G p' else noI G b:Hp):=fun b o z=>by
    by_cases nb:b=p'
    ·simp only [nb,if_true];rw [← nb];exact noI_sub _ _ z
    ·simp only [nb,if_false];exact z
   generalize (fun b=>if b=p' then G p' else noI G b:Hp)=F at hF hFp sFG sNF
   have be:=bd e List.mem_cons_self
   refine spD_own (ds:=[pathD e.1,pD (.tup e.2.1 e.2.2)]) (F:=F) (Qd:=fun b d _=>b=true∧d = .lst ((kidQ e.1 0 e.2.2).map plcD)) (sFG.trans sG3) ⟨_,_,rfl,rep_path.mpr ⟨p',rfl,hFp⟩,_,_,rfl,Rep.mono sNF _ _ (rep_noI _ _ rv'),rfl⟩
    ⟨e.1,e.2.1,e.2.2,rfl,by omega,by have:=z2y e.2.2;omega,rfl,rfl⟩ fun b1 d1 δ1 w1 F' H4 s4 sFF sF4 nw ⟨eb,ed⟩ k=>?_
   subst eb ed
   obtain ⟨L,eL,hL3,hLF,⟨us,hL4,ru⟩,_⟩:=k
   cases eL
   have ent:=y0a hF hFp sFF nw s03 _ us (fun e' he=>(z7t he).1) ru
   have lu:=z5j ent
   have kl:=z7u e.1 e.2.2 0
   have hle:=z2y e.2.2
   refine ⟨L,rfl,us,hL4,fun l hl=>⟨ws',?_,?_,?_⟩⟩
   ·rw [z0f (z0l (s4 _ _ hw3) hl)];exact s4 _ _ hw3
   ·rw [List.length_reverse,← lu,← l2];omega
   ·have nlw:wt≠l:=z0l (s4 _ _ hw3) hl
    have nlr:r≠l:=z0l (s4 _ _ hr3) hl
    have gF:∀ b o o',G b=some o→F' b=some o'→o=o':=fun b o o' h1 h2=>by
     have x1:=s4 _ _ (sG3 _ _ h1)
     rw [sF4 _ _ h2] at x1;cases x1;rfl
    have F'r:∀ b o,H3 b=some o→G b=none→F' b=none:=fun b o h1 h2=>by
     cases z:F' b with
     |none=>rfl
     |some o' =>
      have:=nw b o' z (sFG.free h2)
      rw [h1] at this;cases this
    have sGG:Same G (fun b=>match F' b with|some o=>some o|none=>G b):=fun b o h=>by
     show (match F' b with|some o=>some o|none=>G b)=some o
     cases z:F' b with
     |none=>exact h
     |some o'=>rw [gF b o o' h z]
    have sFG':Same F' (fun b=>match F' b with|some o=>some o|none=>G b):=fun b o h=>by
     show (match F' b with|some o=>some o|none=>G b)=some o
     rw [h]
    refine ⟨((kidQ e.1 0 e.2.2 ++ S).flatMap twpE).length,?_,kidQ e.1 0 e.2.2 ++ S,⟨⟨fun b=>match F' b with|some o=>some o|none=>G b,dn ++ [e],ts ++ [.ref a],ws' ++ us.reverse,_,rfl,((s03.trans s4).upd ((s03.trans s4).free hl)).upd hw0,fun b o h hb=>?_,sHG.trans sGG,fun b o h=>?_,?_,?_,?_,z0d,z5l (z2r a1 fun _ _ h=>h.mono sGG) (.cons (EntG.mono sGG ⟨a,p',v',rfl,ga,gp,hp',rv'⟩) .nil),?_,?_⟩,fun e' he=>?_⟩,rfl⟩
    ·rw [List.flatMap_cons,List.flatMap_append,List.length_append,List.length_append,z8w,List.length_cons];omega
    ·cases z:F' b with
     |none=>exact nwG b o (by simpa [z] using h) hb
     |some o' =>
      cases z2:F b with
      |none=>exact s03.free (nw b o' z z2)
      |some o2=>exact nwG b o2 (sFG _ _ z2) hb
    ·have h4:H4 b=some o:=by
      cases z:F' b with
      |none=>exact s4 _ _ (sG3 _ _ (by simpa [z] using h))
      |some o' =>
       have:o' = o:=by simpa [z] using h
       rw [← this];exact sF4 _ _ z
     have nb1:b≠wt:=fun z=>by
      rw [z] at h
      simp only [F'r wt _ hw3 gw,gw] at h
      cases h
     rw [z0f nb1,z0f (z0l h4 hl)];exact h4
    ·show (match F' r with|some o=>some o|none=>G r)=none
     rw [F'r r _ hr3 gr];exact gr
    ·show (match F' wt with|some o=>some o|none=>G wt)=none
     rw [F'r wt _ hw3 gw];exact gw
    ·rw [z0f nrw,z0f nlr];exact s4 _ _ hr3
    ·rw [List.reverse_append]
     exact z5l (z2r a2' fun _ _ h=>h.mono sGG) (all2_rev (z2r ent fun _ _ h=>h.mono sFG'))
    ·rw [eall,List.flatMap_cons,List.flatMap_append,z8w];simp
    ·rcases List.mem_append.mp he with he|he
     ·obtain ⟨⟨j,ej⟩,hm⟩:=z7t he
      have d1:=dp_mem hm
      have z1:=sz_mem hm
      simp only [dp1] at d1
      simp only [z1j] at z1
      rw [ej]
      simp
      omega
     ·exact bd e' (List.mem_cons_of_mem _ he)
end
open PySem L2 VL Pap K11
def badE (root:Str) (rules:List (Str × Pat)) (e:Plc):Bool:=(decide (e.1=[]) && decide (e.2.1≠root)) || !okN rules e.2.1 (z5t e.2.2)
mutual
theorem twp1_sz {e:Plc}:∀ {p:Part}{path:List Nat},e∈twp1 path p→z0q e.2.2+1≤z1j p
 |.txt _,_,h=>by simp [twp1] at h
 |.tup n ps,path,h=>by
  simp only [twp1] at h
  simp only [z1j]
  rcases List.mem_cons.mp h with rfl|h
  ·show z0q ps+1≤_;omega
  ·have:=twpL_sz (ps:=ps) h;omega
theorem twpL_sz {e:Plc}:∀ {ps:List Part}{path:List Nat}{k:Nat},e∈twpL path k ps→z0q e.2.2+1≤z0q ps
 | [],_,_,h=>by simp [twpL] at h
 |p::ps,path,k,h=>by
  simp only [twpL] at h
  simp only [z0q]
  rcases List.mem_append.mp h with h|h
  ·have:=twp1_sz (p:=p) h;omega
  ·have:=twpL_sz (ps:=ps) h;omega
end
theorem all2_mapL {α β γ:Type}{R:α→β→Prop}{S:γ→β→Prop}{g:α→γ}{as:List α}{bs:List β}(h:All2 R as bs) (m:∀ a b,R a b→S (g a) b):All2 S (as.map g) bs:=by
 induction h with
 |nil=>exact .nil
 |cons r _ ih=>exact .cons (m _ _ r) ih
theorem ifS {c:TT}{t u:TS}{D:Ends}{σ:L2.St}{H:Hp}(h:c σ H fun b H1=>if b=true then t D σ H1 else u D σ H1):tIfS c t u D σ H:=h
def allF (root:Str) (rules:List (Str × Pat)) (n:Str) (ps:List Part):List (List Nat):=((twp1 [] (.tup n ps)).filter (badE root rules)).map (·.1)
theorem allF_eq (root:Str) (rules:List (Str × Pat)) (n:Str) (ps:List Part):((twp1 [] (.tup n ps)).filter (badE root rules)).map (·.1)=allF root rules n ps:=rfl
section
variable {P:Program}{w:World}{K:PySem.W.Frag}{mg:Str→Option Value}{base:Heap}{f:Addr}{fd:FuncData}
def FltAt (H0 H':Hp) (r:Addr) (q:List Nat) (v:V):Prop:=∃ p,v = .ref p∧H0 p=none∧p≠r∧H' p=some (.lst (intV q))
def z8l:Sp:=fun vs H Q _=>∃ (root:Str) (rules:List (Str × Pat)) (n:Str) (ps:List Part) (vf vp:V),vs=[vf,vp]∧Rep H (y1c root rules) vf∧Rep H (pD (.tup n ps)) vp∧FormOk root rules∧dpL ps≤99∧z0q ps≤1000000 ∧
 ∀ r pv H',H r=none→Same H H'→H' r=some (.lst pv)→All2 (FltAt H H' r) (allF root rules n ps) pv→Q (.ref r) H'
theorem ok_faults {f1 f2 f3 f4:Addr}{fd1 fd2 fd3 fd4:FuncData}(E_faults:Ent K mg "faults" s_faults ["form","paper"] f fd) (T:Zs K mg) (E_look:Ent K mg "look" s_look ["form"] f1 fd1) (E_tables:Ent K mg "tables" s_tables ["rules"] f2 fd2) (E_tuples_with_paths:Ent K mg "tuples_with_paths" s_tuples_with_paths ["paper"] f3 fd3) (E_holds:Ent K mg "holds" s_holds ["part","known"] f4 fd4)
  (G_look:FnOk P w K mg base CX0 4 f1 fd1 ["form"] (spD z3w)) (G_tables:FnOk P w K mg base CX0 5 f2 fd2 ["rules"] (spD y1b)) (G_tuples_with_paths:FnOk P w K mg base CX0 2 f3 fd3 ["paper"] sp_twp) (G_holds:FnOk P w K mg base CX0 3 f4 fd4 ["part","known"] (spD z6y)) :
  FnOk P w K mg base CX0 6 f fd ["form","paper"] z8l:=by
 refine E_faults.F.ok sc_faults (fun vs H Q E h=>?_) (fun cdv A outer s H vs Q E hr h=>?_)
 ·obtain ⟨_,_,_,_,_,_,rfl,_⟩:=h;rfl
 ·obtain ⟨root,rules,n,ps,vf,vp,rfl,rf,rp,ok,hdp,hsz,q⟩:=h
  have hu:=z4f hr
  refine ⟨_,(z0h (z1n (z0r G_look (hr.mono (by decide)) rfl E_look.g E_look.F.kp E_look.b .nil z0w (z0b (pv 0) z0j)))
   (z0h (z2f (i:=2) sc_faults.nd rfl (Or.inl rfl) (z0r G_tables (hr.mono (by decide)) rfl E_tables.g E_tables.F.kp E_tables.b .nil z0w (z0b (z4d z1m (pv 0) z1e (fun _ _=>rfl)) z0j)))
   (z0h (z2f (i:=3) sc_faults.nd rfl (Or.inl rfl) (z1y z0j))
   (z0h (ps_for PassesOwn.never rfl (z8f (z0r G_tuples_with_paths (hr.mono (by decide)) rfl E_tuples_with_paths.g E_tuples_with_paths.F.kp E_tuples_with_paths.b .nil z0w (z0b (pv 1) z0j))) (y2q rfl (z3x (z4b (i:=4) sc_faults.nd rfl (Or.inl rfl)) (z3x (z4b (i:=5) sc_faults.nd rfl (Or.inl rfl)) z7v))) (z0h (z2f (i:=6) sc_faults.nd rfl (Or.inl rfl) (y5x (z7a z3p (pv 4) (z1y z0j) (z0p _)) (pe_one (z7a op_ne (z4d z1m (pv 5) z1e (fun _ _=>rfl)) (z4d z1m (pv 0) z1e (fun _ _=>rfl)) (z0p _)))))
   (z0m (z2d (PW.pt (pw_or (z5b (pv 6)) (pw_or1 (pt_not (z5b (z0r G_holds (hr.mono (by decide)) rfl E_holds.g E_holds.F.kp E_holds.b .nil z0w (z0b (pv 5) (z0b (pv 2) z0j)))))))) (z0m (z1n (y2a PySem.F.slot_list_append PySem.F.type_list_append z1v (pv 3) (z0b (pv 4) z0j)))) z0t))))
   (z0m (z1q (pv 3))))))),?_⟩
  have sz:=z0u
  walk_at "rs"
  refine z2p (ds:=[y1c root rules]) (Qd:=fun b d _=>d = .non) ⟨_,_,rfl,rf,rfl⟩ ⟨root,rules,rfl,ok,rfl⟩ fun b1 d1 δ1 v1 H1 s1 ed1 rd1=>?_
  obtain ⟨af,xs,rfl,haf,y1,r1,rfl,e1,y2,r2,rfl,e2,e3⟩:=rf
  cases (show r2=[] from e3)
  cases (show y1 = .str root from e1)
  refine ⟨af,rfl,_,s1 _ _ haf,_,atI1,?_⟩
  refine z2p (ds:=[.lst (rules.map y3t)]) (Qd:=fun b d _=>d = .dct (tabsF rules)) ⟨_,_,rfl,Rep.mono s1 _ _ e2,rfl⟩ ⟨root,rules,rfl,ok,rfl⟩ fun b2 d2 δ2 vk H2 s2 ed2 rd2=>?_
  subst ed2
  refine ⟨by omega,fun r hr0=>?_⟩
  have s12:Same H H2:=s1.trans s2
  have sC:Same H2 (upd H2 r (HO.lst [])):=Same.of_new hr0
  have hrH:H r=none:=s12.free hr0
  refine ⟨n,ps,vp,H2,rfl,sC,Rep.mono s12 _ _ rp,hdp,hsz,fun rt ts G H3 hrt sC3 sG sG3 nwG grt h3 ent=>?_⟩
  have nrr:r≠rt:=fun z=>by rw [← z,z0d] at hrt;cases hrt
  have Gr:G r=none:=by
   cases z:G r with
   |none=>rfl
   |some o=>have:=nwG r o z hr0;rw [z0d] at this;cases this
  have hl3:=z5j ent
  have ln:=y1w (.tup n ps) []
  simp only [z1j] at ln
  refine ⟨rt,rfl,⟨_,SqL.of h3⟩,loopL (xs:=ts) (fun i σ H'=>∃ pv x4 x5 x6,σ=[some (.ref af),some vp,some vk,some (.ref r),x4,x5,x6]∧(∀ b o,b≠r→H3 b=some o→H' b=some o)∧H' r=some (.lst pv)∧All2 (fun (e:Plc) v=>∃ p,v = .ref p∧G p=some (.lst (intV e.1))∧upd H2 r (HO.lst []) p=none) (((twp1 [] (.tup n ps)).take i).filter (badE root rules)) pv) ?_ (fun i σ H' _ h=>?_) (fun i x σ H' hx h=>?_) fun σ H' h=>?_⟩
  ·exact ⟨[],none,none,none,rfl,fun b o _ e=>e,sC3 _ _ z0d,.nil⟩
  ·obtain ⟨_,_,_,_,_,k,_⟩:=h
   exact SqL.of (k _ _ (Ne.symm nrr) h3)
  ·obtain ⟨pv,x4,x5,x6,rfl,kp,hr',a2⟩:=h
   obtain ⟨e,ee,a,p,v,rfl,ga,gp,hp,rv⟩:=all2_get ent hx
   have hi:i < (twp1 [] (.tup n ps)).length:=(List.getElem?_eq_some_iff.mp ee).1
   have et:(twp1 [] (.tup n ps)).take (i+1)=(twp1 [] (.tup n ps)).take i ++ [e]:=by rw [List.take_succ,ee];rfl
   rw [et,List.filter_append]
   have toH:Same G H':=fun b o z=>kp b o (fun y=>by rw [y,Gr] at z;cases z) (sG3 _ _ z)
   have sH':Same H2 H':=sG.trans toH
   have pvl:pv.length≤1000001:=by
    rw [← z5j a2]
    refine Nat.le_trans (List.length_filter_le _ _) ?_
    rw [List.length_take];omega
   have npr:p≠r:=fun z=>by rw [z,z0d] at hp;cases hp
   have fin:∀ (b6:Bool) (H5:Hp) (D:Ends),Same H' H5→b6=(decide (e.1=[]) && decide (e.2.1≠root)) →
     (∀ σ H'',(∃ pv x4 x5 x6,σ=[some (.ref af),some vp,some vk,some (.ref r),x4,x5,x6]∧(∀ b o,b≠r→H3 b=some o→H'' b=some o)∧H'' r=some (.lst pv)∧All2 (fun (e:Plc) v=>∃ p,v = .ref p∧G p=some (.lst (intV e.1))∧upd H2 r (HO.lst []) p=none) (((twp1 [] (.tup n ps)).take i).filter (badE root rules) ++ [e].filter (badE root rules)) pv)→D.nx σ H'') →
     tIfS (tOr (tB (tVar 6)) (tNot (tB (z7m (spD z6y) [] E0 (z6e (tVar 5) (z6e (tVar 2) tNil)))))) (z9k (tLM z4e (tVar 3) (z6e (tVar 4) tNil))) y1a D [some (.ref af),some vp,some vk,some (.ref r),some (.ref p),some v,some (.bl b6)] H5:=by
    intro b6 H5 D s5 e6 hD
    have add:∀ (H6:Hp),Same H' H6→badE root rules e=true→z9k (tLM z4e (tVar 3) (z6e (tVar 4) tNil)) D [some (.ref af),some vp,some vk,some (.ref r),some (.ref p),some v,some (.bl b6)] H6:=by
     intro H6 s6 hb
     walk_at "rs"
     refine ⟨⟨_,s6 _ _ hr'⟩,_,s6 _ _ hr',by omega,hD _ _ ⟨pv ++ [.ref p],_,_,_,rfl,fun b o nb z=>by rw [z0f nb];exact s6 _ _ (kp b o nb z),z0d,?_⟩⟩
     rw [List.filter_cons_of_pos hb]
     exact z5l a2 (.cons ⟨p,rfl,gp,hp⟩ .nil)
    have skip:∀ (H6:Hp),Same H' H6→badE root rules e=false→D.nx [some (.ref af),some vp,some vk,some (.ref r),some (.ref p),some v,some (.bl b6)] H6:=by
     intro H6 s6 hb
     refine hD _ _ ⟨pv,_,_,_,rfl,fun b o nb z=>s6 _ _ (kp b o nb z),s6 _ _ hr',?_⟩
     rw [List.filter_cons_of_neg (by rw [hb];simp),List.filter_nil,List.append_nil]
     exact a2
    refine ifS ?_
    refine ⟨_,rfl,b6,rfl,?_⟩
    cases b6 with
    |true=>exact iteT (iteT (add H5 s5 (by unfold badE;rw [← e6];rfl)))
    |false =>
     have eb:badE root rules e = !okN rules e.2.1 (z5t e.2.2):=by unfold badE;rw [← e6];rfl
     refine iteF ?_
     show z7m (spD z6y) [] E0 _ _ H5 _
     refine ⟨_,rfl,_,rfl,?_⟩
     show spD z6y [v,vk] H5 _ E0
     refine z2p (ds:=[pD (.tup e.2.1 e.2.2),.dct (tabsF rules)]) (Qd:=fun b d _=>d = .bl (okN rules e.2.1 (z5t e.2.2))) ⟨_,_,rfl,Rep.mono (toH.trans s5) _ _ rv,_,_,rfl,Rep.mono (sH'.trans s5) _ _ rd2,rfl⟩
      ⟨rules,e.2.1,e.2.2,rfl,⟨_,ok⟩,?_,rfl⟩ fun b3 d3 δ3 v3 H6 s6 ed3 rd3=>?_
     ·have:=twp1_sz (List.mem_of_getElem? ee)
      have:=z2y e.2.2
      simp only [z1j] at *
      omega
     ·subst ed3
      cases (show v3 = .bl _ from rd3)
      refine ⟨_,rfl,?_⟩
      cases hk:okN rules e.2.1 (z5t e.2.2) with
      |true=>exact iteF (skip H6 (s5.trans s6) (by rw [eb,hk];rfl))
      |false=>exact iteT (add H6 (s5.trans s6) (by rw [eb,hk];rfl))
   refine ⟨a,_,rfl,SqT.of (toH _ _ ga),rfl,.ref p,_,rfl,v,_,rfl,rfl,?_⟩
   refine ⟨_,rfl,(by show 0≤sizeLine;omega),fun z hz=>⟨p,rfl,z,rfl,_,(by rw [z0f (z0l (toH _ _ gp) hz)];exact toH _ _ gp),_,z0d,Nat.lt_of_le_of_lt (Nat.le_add_right _ 100) hu,?_⟩⟩
   have s5:Same H' (upd H' z (HO.lst [])):=Same.of_new hz
   by_cases h0:e.1=[]
   ·obtain ⟨av,xs,rfl,hav,w1,r1,rfl,g1,w2,r2,rfl,g2,g3⟩:=id rv
    cases (show w1 = .str e.2.1 from g1)
    refine .inr ⟨by rw [h0];rfl,⟨0,fun i x y e1=>?_,?_⟩,true,rfl,iteT ⟨_,rfl,av,rfl,0,rfl,_,s5 _ _ (toH _ _ hav),_,atI0,_,rfl,af,rfl,0,rfl,_,s5 _ _ (sH' _ _ (s12 _ _ haf)),_,atI0,rfl,?_⟩⟩
    ·rw [h0] at e1;simp [intV] at e1
    ·exact Nat.lt_of_le_of_lt (by omega) hu
    ·have ed:(!decide (V.str e.2.1=V.str root))=(decide (e.1=[]) && decide (e.2.1≠root)):=by simp [h0]
     exact fin _ _ _ s5 ed fun σ H'' h=>h
   ·exact .inl ⟨fun z=>h0 (by simpa [intV] using z),false,rfl,iteF (fin false _ _ s5 (by simp [h0]) fun σ H'' h=>h)⟩
  ·obtain ⟨pv,x4,x5,x6,rfl,kp,hr',a2⟩:=h
   rw [← hl3,List.take_length] at a2
   refine ⟨_,rfl,q r pv H' hrH (fun b o z=>kp b o (fun y=>by rw [y,hrH] at z;cases z) (sC3 _ _ (sC _ _ (s12 _ _ z)))) hr' ?_⟩
   rw [← allF_eq]
   refine all2_mapL a2 fun e v h=>?_
   obtain ⟨p,rfl,gp,hp⟩:=h
   have npr:p≠r:=fun z=>by rw [z,z0d] at hp;cases hp
   exact ⟨p,rfl,s12.free (sC.free hp),npr,kp p _ npr (sG3 _ _ gp)⟩
end
open PySem L2 VL Pap K11
section
variable {P:Program}{w:World}{K:PySem.W.Frag}{mg:Str→Option Value}{base:Heap}{f:Addr}{fd:FuncData}
def sp_isp:Sp:=fun vs H Q _=>∃ (root:Str) (rules:List (Str × Pat)) (n:Str) (ps:List Part) (vf vp:V),vs=[vf,vp]∧Rep H (y1c root rules) vf∧Rep H (pD (.tup n ps)) vp∧FormOk root rules∧dpL ps≤99∧z0q ps≤1000000 ∧
 ∀ H',Same H H'→Q (.bl (decide (allF root rules n ps=[]))) H'
theorem ok_isp {f1:Addr}{fd1:FuncData}(E_is_paper:Ent K mg "is_paper" s_is_paper ["form","paper"] f fd) (T:Zs K mg) (E_faults:Ent K mg "faults" s_faults ["form","paper"] f1 fd1) (G_faults:FnOk P w K mg base CX0 6 f1 fd1 ["form","paper"] z8l):FnOk P w K mg base CX0 7 f fd ["form","paper"] sp_isp:=by
 refine E_is_paper.F.ok y5g (fun vs H Q E h=>?_) (fun cdv A outer s H vs Q E hr h=>?_)
 ·obtain ⟨_,_,_,_,_,_,rfl,_⟩:=h;rfl
 ·obtain ⟨root,rules,n,ps,vf,vp,rfl,rf,rp,ok,hdp,hsz,q⟩:=h
  have hu:=z4f hr
  refine ⟨_,(z0m (z1q (z7a z3p (z0r G_faults (hr.mono (by decide)) rfl E_faults.g E_faults.F.kp E_faults.b .nil z0w (z0b (pv 0) (z0b (pv 1) z0j))) (z1y z0j) (z0p _)))),?_⟩
  have sz:=z0u
  walk_at "rs"
  refine ⟨root,rules,n,ps,vf,vp,rfl,rf,rp,ok,hdp,hsz,fun r pv H1 hr0 s1 hr1 a2=>?_⟩
  refine ⟨by omega,fun z hz=>⟨r,rfl,pv,by rw [z0f (z0l hr1 hz)];exact hr1,Nat.lt_of_le_of_lt (Nat.le_add_right _ 100) hu,?_⟩⟩
  have l:=z5j a2
  have s2:Same H (upd H1 z (.lst [])):=s1.trans (Same.of_new hz)
  cases hpv:pv with
  |nil =>
   rw [hpv] at l
   have e:allF root rules n ps=[]:=List.length_eq_zero_iff.mp l
   refine .inr ⟨rfl,⟨0,fun i x y e1=>by simp at e1,Nat.lt_of_le_of_lt (by omega) hu⟩,?_⟩
   have:=q _ s2
   rw [e] at this
   exact this
  |cons a b =>
   rw [hpv] at l
   have e:allF root rules n ps≠[]:=fun z=>by rw [z] at l;simp at l
   refine .inl ⟨by simp,?_⟩
   have:=q _ s2
   rw [decide_eq_false e] at this
   exact this
end
end K04
open PySem L2 VL Pap
local macro_rules|`(tactic| walk_at "rs")=>do
 let v←("L2.start y5y y5v rIsX tTry z9t tSeq y1a tAsg z7n tVar tC tOp rI0 y2n tRet z9k z7m tCB z6e tNil tNot tAnd tB tTup tLst y4e y4f tRev tYes rEq scal z4e z4q rCat gTup y5b gNil tLM tDIn z4w y4w y5o z8g tB z3t z0d and_imp ne_eq HO.lst.injEq HO.tup.injEq z9y y0h Int.toNat_natCast z9z List.map_cons List.map_nil List.length_cons List.length_nil Nat.reduceAdd Nat.reduceSub List.replicate_succ List.replicate_zero List.cons_append List.nil_append List.append_nil List.getElem?_cons_zero List.getElem?_cons_succ List.set_cons_zero List.set_cons_succ Option.some.injEq V.int.injEq V.str.injEq V.ref.injEq V.bl.injEq V.ty.injEq List.cons.injEq exists_eq_left' exists_eq_left exists_eq' and_true true_and and_assoc exists_and_left reduceCtorEq false_and exists_false false_or or_false decide_eq_true_eq if_true if_false Bool.true_eq_false Bool.false_eq_true Bool.not_true Bool.not_false Bool.not_eq_eq_eq_not".splitOn " ").mapM fun n=>`(Lean.Parser.Tactic.simpLemma| $(Lean.mkIdent n.toName):term)
 `(tactic| simp only [$(v.toArray),*])
structure FerX (fs:List (Str × List Part)):Prop where
 len:fs.length≤8
 ok:∀ r∈fs,NameOk r.1∧z0q r.2≤48∧dpL r.2≤8∧seL r.2=true
theorem FerB.x {k:Nat}{fs:List (Str × List Part)}(o:FerB k fs) (h:k≤2):FerX fs:=⟨by have:=o.len;omega,fun r hr=>by obtain ⟨a,b,c,d⟩:=o.ok r hr;exact ⟨a,by omega,by omega,d⟩⟩
theorem y6v:∀ {fs:List (Str × List Part)}{met:List Str},z6s met fs=none→(fs.map (·.1)).Nodup∧∀ r∈fs,r.1∉met∧stL r.2≤1
 | [],_,_=>⟨List.nodup_nil,fun r h=>by cases h⟩
 |a::fs,met,h=>by
  rw [show z6s met (a::fs)=(if a.1∈met then some (true,a.1) else if 1 < stL a.2 then some (false,a.1) else z6s (met ++ [a.1]) fs) from rfl] at h
  split at h
  ·cases h
  ·rename_i h1
   split at h
   ·cases h
   ·rename_i h2
    obtain ⟨k1,k2⟩:=y6v h
    refine ⟨?_,fun r hr=>?_⟩
    ·rw [List.map_cons,List.nodup_cons]
     refine ⟨fun hm=>?_,k1⟩
     obtain ⟨r,hr,e⟩:=List.mem_map.mp hm
     exact (k2 r hr).1 (by rw [e];simp)
    ·rcases List.mem_cons.mp hr with rfl|hr
     ·exact ⟨h1,by omega⟩
     ·exact ⟨fun z=>(k2 r hr).1 (List.mem_append_left _ z),(k2 r hr).2⟩
theorem FerX.w {fs:List (Str × List Part)}(o:FerX fs) (h:dueF fs=none):FerW fs:=by
 obtain ⟨k1,k2⟩:=y6v h
 exact ⟨o.len,k1,fun r hr=>by obtain ⟨a,b,c,d⟩:=o.ok r hr;exact ⟨a,b,(k2 r hr).2,c,d⟩⟩
def dueK (fs:List (Str × List Part)):Option (Kd × Str):=(dueF fs).map fun o=>(if o.1 then .tw else .st,o.2)
section
variable {P:Program}{w:World}{K:PySem.W.Frag}{mg:Str→Option Value}{base:Heap}{f:Addr}{fd:FuncData}{CF CT CN CS Ct Cp Ck:Addr}
theorem XWish.mono {C:Addr}{nm:Str}{H H1:Hp}{E:XK}(s:Same H H1) (h:XWish C nm H E):XWish C nm H1 E:=fun x dx H' s'=>h x dx H' (s.trans s')
theorem XDue.of {o:Bool × Str}{H:Hp}{E:XK}(h:XWish ((if o.1 then Kd.tw else Kd.st).cls CT CN CS) o.2 H E):XDue CT CS o H E:=by
 unfold XDue
 obtain ⟨b,n⟩:=o
 cases b <;> exact h
def sp_fX (CT CS:Addr):Sp:=fun vs H _ E=>∃ (fs:List (Str × List Part)) (vf vr:V) (o:Bool × Str),vs=[vf,vr]∧Rep H (.lst (fs.map z0x)) vf∧FerX fs∧dueF fs=some o∧XDue CT CS o H E
theorem FerX.lk {fs:List (Str × List Part)}(o:FerX fs):fs.length≤1000∧∀ r∈fs,z0q r.2≤1000000:=⟨Nat.le_trans o.len (by decide),fun r h=>Nat.le_trans (o.ok r h).2.1 (by decide)⟩
theorem ok_fX {f1 f2 f3 f4:Addr}{fd1 fd2 fd3 fd4:FuncData}(Y:XR K mg CF CT CN CS Ct Cp Ck) (E_ferried:Ent K mg "ferried" s_ferried ["ferry","row"] f fd) (T:Zs K mg) (E_look_ferry:Ent K mg "look_ferry" s_look_ferry ["ferry"] f4 fd4) (E_stars:Ent K mg "stars" s_stars ["row"] f1 fd1) (E_all_parts:Ent K mg "all_parts" s_all_parts ["row"] f2 fd2) (E_sign_of:Ent K mg "sign_of" s_sign_of ["part"] f3 fd3):FnOk P w K mg base (CX1 P w) 5 f fd ["ferry","row"] (sp_fX CT CS):=by
 have GX_look_ferry:FnOk P w K mg base (CX1 P w) 4 f4 fd4 _ (z5m CT CS):=z6p Y E_look_ferry T E_stars E_all_parts E_sign_of
 refine E_ferried.F.okX y0b (fun vs H Q E h=>?_) (fun cdv A outer s H vs Q E hr h=>?_)
 ·obtain ⟨_,_,_,_,rfl,_⟩:=h;rfl
 ·obtain ⟨fs,vf,vr,o,rfl,rep,ok,hdue,wish⟩:=h
  refine ⟨_,(z0h (z1n (z0r GX_look_ferry (hr.mono (by omega)) rfl E_look_ferry.g E_look_ferry.F.kp E_look_ferry.b .nil z5a (z0b (pv 0) z0j)))
   z5d),?_⟩
  walk_at "rs"
  exact ⟨fs,vf,o,rfl,rep,ok.lk.1,ok.lk.2,hdue,wish⟩
theorem ok_jX {f1 f2 f3 f4:Addr}{fd1 fd2 fd3 fd4:FuncData}(Y:XR K mg CF CT CN CS Ct Cp Ck) (E_joined:Ent K mg "joined" s_joined ["one","other"] f fd) (T:Zs K mg) (E_look_ferry:Ent K mg "look_ferry" s_look_ferry ["ferry"] f4 fd4) (E_stars:Ent K mg "stars" s_stars ["row"] f1 fd1) (E_all_parts:Ent K mg "all_parts" s_all_parts ["row"] f2 fd2) (E_sign_of:Ent K mg "sign_of" s_sign_of ["part"] f3 fd3):FnOk P w K mg base (CX1 P w) 5 f fd ["one","other"] (sp_fX CT CS):=by
 have GX_look_ferry:FnOk P w K mg base (CX1 P w) 4 f4 fd4 _ (z5m CT CS):=z6p Y E_look_ferry T E_stars E_all_parts E_sign_of
 refine E_joined.F.okX sc_joined (fun vs H Q E h=>?_) (fun cdv A outer s H vs Q E hr h=>?_)
 ·obtain ⟨_,_,_,_,rfl,_⟩:=h;rfl
 ·obtain ⟨fs,vf,vr,o,rfl,rep,ok,hdue,wish⟩:=h
  refine ⟨_,(z0h (z1n (z0r GX_look_ferry (hr.mono (by omega)) rfl E_look_ferry.g E_look_ferry.F.kp E_look_ferry.b .nil z5a (z0b (pv 0) z0j)))
   z5d),?_⟩
  walk_at "rs"
  exact ⟨fs,vf,o,rfl,rep,ok.lk.1,ok.lk.2,hdue,wish⟩
theorem z6t {fs:List (Str × List Part)}{vf:V}{H:Hp}{Q:VK}{E:XK}(ok:FerW fs) (rf:Rep H (.lst (fs.map z0x)) vf) (k:∀ v H',Same H H'→Q v H'):spD z3w [vf] H Q E:=by
 have l:=ok.len
 exact z2p (ds:=[.lst (fs.map z0x)]) (Qd:=fun b d _=>True) ⟨_,_,rfl,rf,rfl⟩ ⟨fs,rfl,by omega,ok.nd,fun r hr=>⟨by have:=(ok.ok r hr).sz;omega,(ok.ok r hr).st⟩,trivial⟩ fun b d δ' v H' s _ _=>k v H' s
def sp_jY (CT CS:Addr):Sp:=fun vs H _ E=>∃ (one other:List (Str × List Part)) (vo vr:V) (o:Bool × Str),vs=[vo,vr]∧Rep H (.lst (one.map z0x)) vo∧Rep H (.lst (other.map z0x)) vr∧FerW one∧FerX other∧dueF other=some o∧XDue CT CS o H E
theorem ok_jY {f1 f2 f3 f4:Addr}{fd1 fd2 fd3 fd4:FuncData}(Y:XR K mg CF CT CN CS Ct Cp Ck) (E_joined:Ent K mg "joined" s_joined ["one","other"] f fd) (T:Zs K mg) (E_look_ferry:Ent K mg "look_ferry" s_look_ferry ["ferry"] f4 fd4) (E_stars:Ent K mg "stars" s_stars ["row"] f1 fd1) (E_all_parts:Ent K mg "all_parts" s_all_parts ["row"] f2 fd2) (E_sign_of:Ent K mg "sign_of" s_sign_of ["part"] f3 fd3):FnOk P w K mg base (CX1 P w) 5 f fd ["one","other"] (sp_jY CT CS):=by
 have GX_look_ferry:FnOk P w K mg base (CX1 P w) 4 f4 fd4 _ (z5m CT CS):=z6p Y E_look_ferry T E_stars E_all_parts E_sign_of
 have G_look_ferry:FnOk P w K mg base CX0 3 f4 fd4 _ (spD z3w):=z5x E_look_ferry T E_stars E_all_parts E_sign_of
 refine E_joined.F.okX sc_joined (fun vs H Q E h=>?_) (fun cdv A outer s H vs Q E hr h=>?_)
 ·obtain ⟨_,_,_,_,_,rfl,_⟩:=h;rfl
 ·obtain ⟨one,other,vo,vr,o,rfl,r1,r2,ok1,ok2,hdue,wish⟩:=h
  refine ⟨_,(z0h (z1n (z0r G_look_ferry (hr.mono (by omega)) rfl E_look_ferry.g E_look_ferry.F.kp E_look_ferry.b .nil z0w (z0b (pv 0) z0j)))
   (z0h (z1n (z0r GX_look_ferry (hr.mono (by omega)) rfl E_look_ferry.g E_look_ferry.F.kp E_look_ferry.b .nil z5a (z0b (pv 1) z0j)))
   z5d)),?_⟩
  walk_at "rs"
  exact z6t ok1 r1 fun v H1 s1=>⟨other,vr,o,rfl,Rep.mono s1 _ _ r2,ok2.lk.1,ok2.lk.2,hdue,wish.mono s1⟩
def sp_aX (CT CS:Addr):Sp:=fun vs H _ E=>∃ (fs:List (Str × List Part)) (vf v1 v2:V) (o:Bool × Str),vs=[vf,v1,v2]∧Rep H (.lst (fs.map z0x)) vf∧FerX fs∧dueF fs=some o∧XDue CT CS o H E
theorem ok_aX {f1 f2 f3 f4:Addr}{fd1 fd2 fd3 fd4:FuncData}(Y:XR K mg CF CT CN CS Ct Cp Ck) (E_arrives:Ent K mg "arrives" s_arrives ["ferry","form","paper"] f fd) (T:Zs K mg) (E_look_ferry:Ent K mg "look_ferry" s_look_ferry ["ferry"] f4 fd4) (E_stars:Ent K mg "stars" s_stars ["row"] f1 fd1) (E_all_parts:Ent K mg "all_parts" s_all_parts ["row"] f2 fd2) (E_sign_of:Ent K mg "sign_of" s_sign_of ["part"] f3 fd3):FnOk P w K mg base (CX1 P w) 5 f fd ["ferry","form","paper"] (sp_aX CT CS):=by
 have GX_look_ferry:FnOk P w K mg base (CX1 P w) 4 f4 fd4 _ (z5m CT CS):=z6p Y E_look_ferry T E_stars E_all_parts E_sign_of
 refine E_arrives.F.okX sc_arrives (fun vs H Q E h=>?_) (fun cdv A outer s H vs Q E hr h=>?_)
 ·obtain ⟨_,_,_,_,_,rfl,_⟩:=h;rfl
 ·obtain ⟨fs,vf,v1,v2,o,rfl,rep,ok,hdue,wish⟩:=h
  refine ⟨_,(z0h (z1n (z0r GX_look_ferry (hr.mono (by omega)) rfl E_look_ferry.g E_look_ferry.F.kp E_look_ferry.b .nil z5a (z0b (pv 0) z0j)))
   z5d),?_⟩
  walk_at "rs"
  exact ⟨fs,vf,o,rfl,rep,ok.lk.1,ok.lk.2,hdue,wish⟩
def sp_lnX (CN:Addr):Sp:=fun vs H _ E=>∃ v:V,vs=[.str "a",v]∧Rep H (.lst []) v∧XWish CN "a" H E
theorem ok_lnX (Y:XR K mg CF CT CN CS Ct Cp Ck) (E_look_names:Ent K mg "look_names" s_look_names ["root","rules"] f fd) (T:Zs K mg):FnOk P w K mg base (CX1 P w) 4 f fd ["root","rules"] (sp_lnX CN):=by
 refine E_look_names.F.okX sc_look_names (fun vs H Q E h=>?_) (fun cdv A outer s H vs Q E hr h=>?_)
 ·obtain ⟨_,rfl,_⟩:=h;rfl
 ·obtain ⟨v,rfl,⟨a,us,rfl,ha,rs⟩,wish⟩:=h
  cases (show us=[] from rs)
  have hu:=z4f hr
  refine ⟨_,(z0h (z2f (i:=2) sc_look_names.nd rfl (Or.inl rfl) (z4m (z2a rfl) rfl T.z_dict PyProof.Rows.boot_dict (z0b (pv 1) z0j)))
   (z0h (z2d (z9o (z8a (hu1 hu) (pv 0) (pv 2)) rfl) (z0m (y0l Y.x_NoName (hr.mono (by omega)) rfl (z0b (pv 0) z0j))) z0t)
   (z0m z1z))),?_⟩
  walk_at "rd"
  refine ⟨[],ha,[],rfl,by simp,fun l hl=>⟨_,DGet.o z0d,true,rfl,?_⟩⟩
  rw [if_pos rfl]
  exact fun x dx a1 a2 a3 a4 a5=>wish x dx _ (fun b o e=>by rw [z0f (z0l e a2),z0f (z0l e a4),z0f (z0l e hl)];exact e) z0d (by rw [z0f a5,z0d])
def sp_lkX (CN:Addr):Sp:=fun vs H _ E=>∃ v:V,vs=[v]∧Rep H (K04.y1c "a" []) v∧XWish CN "a" H E
theorem ok_lkX {f1 f2 f3 f4:Addr}{fd1 fd2 fd3 fd4:FuncData}(Y:XR K mg CF CT CN CS Ct Cp Ck) (E_look:Ent K mg "look" s_look ["form"] f fd) (T:Zs K mg) (E_look_twice:Ent K mg "look_twice" s_look_twice ["rules"] f1 fd1) (E_look_names:Ent K mg "look_names" s_look_names ["root","rules"] f2 fd2) (E_signs:Ent K mg "signs" s_signs ["pattern"] f3 fd3) (E_patterns_within:Ent K mg "patterns_within" s_patterns_within ["pattern"] f4 fd4):FnOk P w K mg base (CX1 P w) 5 f fd ["form"] (sp_lkX CN):=by
 have G_look_twice:FnOk P w K mg base CX0 3 f1 fd1 _ (spD K04.y0n):=K04.y2r E_look_twice T E_signs E_patterns_within
 have GX_look_names:FnOk P w K mg base (CX1 P w) 4 f2 fd2 _ (sp_lnX CN):=ok_lnX Y E_look_names T
 refine E_look.F.okX sc_look (fun vs H Q E h=>?_) (fun cdv A outer s H vs Q E hr h=>?_)
 ·obtain ⟨_,rfl,_⟩:=h;rfl
 ·obtain ⟨v,rfl,⟨a,us,rfl,ha,y1,r1,rfl,e1,y2,r2,rfl,e2,e3⟩,wish⟩:=h
  cases (show r2=[] from e3)
  cases (show y1 = .str "a" from e1)
  refine ⟨_,(z0h (z1n (z0r G_look_twice (hr.mono (by omega)) rfl E_look_twice.g E_look_twice.F.kp E_look_twice.b .nil z0w (z0b (z4d z1m (pv 0) z1e (fun _ _=>rfl)) z0j)))
   (z0m (z1n (z0r GX_look_names (hr.mono (by omega)) rfl E_look_names.g E_look_names.F.kp E_look_names.b .nil z5a (z0b (z4d z1m (pv 0) z1e (fun _ _=>rfl)) (z0b (z4d z1m (pv 0) z1e (fun _ _=>rfl)) z0j)))))),?_⟩
  walk_at "rs"
  refine ⟨_,ha,_,atI1,?_⟩
  refine z2p (ds:=[.lst []]) (Qd:=fun b d _=>True) ⟨_,_,rfl,e2,rfl⟩ ⟨[],rfl,.inl rfl,trivial⟩ fun b d δ' v H1 s1 _ _=>?_
  exact ⟨_,s1 _ _ ha,_,atI0,_,s1 _ _ ha,_,atI1,_,rfl,Rep.mono s1 _ _ e2,wish.mono s1⟩
def sp_aY (CN:Addr):Sp:=fun vs H _ E=>∃ (fs:List (Str × List Part)) (vf v1 v2:V),vs=[vf,v1,v2]∧Rep H (.lst (fs.map z0x)) vf∧FerW fs∧Rep H (K04.y1c "a" []) v1∧XWish CN "a" H E
theorem ok_aY {f1 f2 f3 f4 f5 f6 f7 f8 f9:Addr}{fd1 fd2 fd3 fd4 fd5 fd6 fd7 fd8 fd9:FuncData}(Y:XR K mg CF CT CN CS Ct Cp Ck) (E_arrives:Ent K mg "arrives" s_arrives ["ferry","form","paper"] f fd) (T:Zs K mg) (E_look_ferry:Ent K mg "look_ferry" s_look_ferry ["ferry"] f4 fd4) (E_stars:Ent K mg "stars" s_stars ["row"] f1 fd1) (E_all_parts:Ent K mg "all_parts" s_all_parts ["row"] f2 fd2) (E_sign_of:Ent K mg "sign_of" s_sign_of ["part"] f3 fd3)
  (E_look:Ent K mg "look" s_look ["form"] f5 fd5) (E_look_twice:Ent K mg "look_twice" s_look_twice ["rules"] f6 fd6) (E_look_names:Ent K mg "look_names" s_look_names ["root","rules"] f7 fd7) (E_signs:Ent K mg "signs" s_signs ["pattern"] f8 fd8) (E_patterns_within:Ent K mg "patterns_within" s_patterns_within ["pattern"] f9 fd9):FnOk P w K mg base (CX1 P w) 6 f fd ["ferry","form","paper"] (sp_aY CN):=by
 have G_look_ferry:FnOk P w K mg base CX0 3 f4 fd4 _ (spD z3w):=z5x E_look_ferry T E_stars E_all_parts E_sign_of
 have GX_look:FnOk P w K mg base (CX1 P w) 5 f5 fd5 _ (sp_lkX CN):=ok_lkX Y E_look T E_look_twice E_look_names E_signs E_patterns_within
 refine E_arrives.F.okX sc_arrives (fun vs H Q E h=>?_) (fun cdv A outer s H vs Q E hr h=>?_)
 ·obtain ⟨_,_,_,_,rfl,_⟩:=h;rfl
 ·obtain ⟨fs,vf,v1,v2,rfl,rep,ok,r1,wish⟩:=h
  refine ⟨_,(z0h (z1n (z0r G_look_ferry (hr.mono (by omega)) rfl E_look_ferry.g E_look_ferry.F.kp E_look_ferry.b .nil z0w (z0b (pv 0) z0j)))
   (z0h (z1n (z0r GX_look (hr.mono (by omega)) rfl E_look.g E_look.F.kp E_look.b .nil z5a (z0b (pv 1) z0j)))
   z5d)),?_⟩
  walk_at "rs"
  exact z6t ok rep fun v H1 s1=>⟨v1,rfl,Rep.mono s1 _ _ r1,wish.mono s1⟩
theorem cer_a {fs:List (Str × List Part)}(ok:FerW fs):z0q (cerL fs [.tup "a" []])≤1000∧dpL (cerL fs [.tup "a" []])≤20:=by
 rw [y1n _ (by decide +kernel)]
 have h:=z8c ok [.tup "a" []]
 simp only [z0q,z1j,dpL,dp1] at h
 omega
def sp_aG:Sp:=fun vs H Q _=>∃ (fs:List (Str × List Part)) (vf v1 v2:V),vs=[vf,v1,v2]∧Rep H (.lst (fs.map z0x)) vf∧FerW fs∧Rep H (K04.y1c "a" [("a",())]) v1∧Rep H (pD (.tup "a" [])) v2∧∀ v H',Same H H'→Q v H'
theorem ok_aG {f1 f2 f3 f4:Addr}{fd1 fd2 fd3 fd4:FuncData}(E_arrives:Ent K mg "arrives" s_arrives ["ferry","form","paper"] f fd) (T:Zs K mg) (E_look_ferry:Ent K mg "look_ferry" s_look_ferry ["ferry"] f1 fd1) (E_look:Ent K mg "look" s_look ["form"] f2 fd2) (E_carried:Ent K mg "carried" s_carried ["rules","row"] f3 fd3) (E_is_paper:Ent K mg "is_paper" s_is_paper ["form","paper"] f4 fd4)
  (G_look_ferry:FnOk P w K mg base CX0 3 f1 fd1 ["ferry"] (spD z3w)) (G_look:FnOk P w K mg base CX0 4 f2 fd2 ["form"] (spD K04.z3w)) (G_carried:FnOk P w K mg base CX0 3 f3 fd3 ["rules","row"] z4l) (G_is_paper:FnOk P w K mg base CX0 7 f4 fd4 ["form","paper"] K04.sp_isp) (kts:PySem.W.kitOne K (.type "tuple") (.type "str")=some false):FnOk P w K mg base CX0 8 f fd ["ferry","form","paper"] sp_aG:=by
 refine E_arrives.F.ok sc_arrives (fun vs H Q E h=>?_) (fun cdv A outer s H vs Q E hr h=>?_)
 ·obtain ⟨_,_,_,_,rfl,_⟩:=h;rfl
 ·obtain ⟨fs,vf,v1,v2,rfl,rf,ok,r1,r2,q⟩:=h
  have hu:=z4f hr
  refine ⟨_,(z0h (z1n (z0r G_look_ferry (hr.mono (by decide)) rfl E_look_ferry.g E_look_ferry.F.kp E_look_ferry.b .nil z0w (z0b (pv 0) z0j)))
   (z0h (z1n (z0r G_look (hr.mono (by decide)) rfl E_look.g E_look.F.kp E_look.b .nil z0w (z0b (pv 1) z0j)))
   (z0h (z2f (i:=3) sc_arrives.nd rfl (Or.inl rfl) (z0r G_carried (hr.mono (by decide)) rfl E_carried.g E_carried.F.kp E_carried.b .nil z0w (z0b (z4m (z2a rfl) rfl T.z_dict PyProof.Rows.boot_dict (z0b (pv 0) z0j)) (z0b (z1y (z0b (pv 2) z0j)) z0j))))
   (z0m (z1q (y5x (z7a z1w (z2z z1h rfl T.z_len PySem.boot_len (z0b (pv 3) z0j)) z1e (z0p _)) (y5x (pe_not (z2z (z2s (K:=K) rfl) rfl T.z_isinstance PyProof.Rows.boot_isinstance (z0b (z4d z2l (pv 3) z1e (fun _ _=>rfl)) (z0b (y0s (v:=.ty "str") rfl T.z_str PyProof.Rows.boot_str rfl) z0j)))) (pe_one (z0r G_is_paper (hr.mono (by decide)) rfl E_is_paper.g E_is_paper.F.kp E_is_paper.b .nil z0w (z0b (pv 1) (z0b (z4d z2l (pv 3) z1e (fun _ _=>rfl)) z0j))))))))))),?_⟩
  have sz:=z0u
  walk_at "rs"
  refine z6t ok rf fun v H1 s1=>?_
  have rf:=Rep.mono s1 _ _ rf
  have r1:=Rep.mono s1 _ _ r1
  have r2:=Rep.mono s1 _ _ r2
  refine z2p (ds:=[K04.y1c "a" [("a",())]]) (Qd:=fun b d _=>True) ⟨_,_,rfl,r1,rfl⟩ ⟨"a",_,rfl,⟨rfl,rfl⟩,trivial⟩ fun b d δ' v H2 s2 _ _=>?_
  have rf:=Rep.mono s2 _ _ rf
  have r1:=Rep.mono s2 _ _ r1
  have r2:=Rep.mono s2 _ _ r2
  obtain ⟨fa,fv,rfl,hfa,rfa⟩:=rf
  have rfa':Reps H2 ((fs.map fun r=>(r.1,D.lst (pDs r.2))).map fun p=>D.tup [.str p.1,p.2]) fv:=by
   rw [List.map_map];exact rfa
  obtain ⟨qs,q1,q2,q3⟩:=z5k rfa'
  have q4:=q3 [] [] rfl
  rw [show ([]:List (Key × D))=z5e [] from rfl,z6r fs [] ok.nd] at q4
  refine ⟨fa,rfl,fv,hfa,qs,q1,q2,fun l hl'=>⟨by omega,fun l2 n2 hl2=>?_⟩⟩
  have s3:Same H2 (upd (upd H2 l (.dK (z2n [] qs))) l2 (.lst [v2])):=(Same.of_new hl').upd hl2
  have e1:upd (upd H2 l (.dK (z2n [] qs))) l2 (.lst [v2]) l=some (.dK (z2n [] qs)):=by rw [z0f (Ne.symm n2),z0d]
  obtain ⟨c1,c2⟩:=cer_a ok
  have lk:∀ r∈fs,z0q r.2≤48∧stL r.2≤1:=fun r hr=>⟨(ok.ok r hr).sz,(ok.ok r hr).st⟩
  have wl:=y7d lk [.tup "a" []]
  simp only [z0q,z1j] at wl
  refine ⟨_,fs,l,l2,_,[v2],[.tup "a" []],rfl,Same.refl _,.inl e1,RepK.mono s3 _ _ q4,z0d,⟨_,_,rfl,Rep.mono s3 _ _ r2,rfl⟩,fun r hr=>by have:=(lk r hr).1;omega,by simp [z0q,z1j],by omega,fun l3 us o Fp H3 h1 h2 h3 h4 h5 h6=>?_⟩
  have sQ:∀ H4,Same H3 H4→Same H H4:=fun H4 s4=>(((s1.trans s2).trans s3).trans h2).trans s4
  have r1:=Rep.mono h2 _ _ (Rep.mono s3 _ _ r1)
  refine ⟨l3,rfl,us,h3,ite2 (fun hl1=>?_) fun _=>q _ _ (sQ _ (Same.refl _))⟩
  have rr:=RepL.reps h4
  generalize cerL fs [.tup "a" []]=ps at h4 rr c1 c2
  cases us with
  |nil=>simp at hl1
  |cons u us =>
   cases ps with
   |nil=>cases (show u::us=[] from rr)
   |cons p ps =>
    obtain ⟨u',us',eu,ru,_⟩:=rr
    cases eu
    refine ⟨l3,rfl,_,h3,_,atI0,?_⟩
    cases p with
    |txt z =>
     cases (show u = .str z from ru)
     exact ⟨_,.str _,true,rfl,false,rfl,iteF (q _ _ (sQ _ (Same.refl _)))⟩
    |tup n is =>
     have ru0:=ru
     obtain ⟨a,vs,rfl,ha,_⟩:=ru
     simp only [z0q,z1j,dpL,dp1] at c1 c2
     exact ⟨_,.tup ha,false,kts,true,rfl,iteT ⟨l3,rfl,_,h3,_,atI0,"a",[("a",())],n,is,v1,_,rfl,r1,ru0,⟨rfl,rfl⟩,by omega,by omega,fun H4 s4=>q _ _ (sQ _ s4)⟩⟩
end
open PySem L2 VL Pap
def askF (fs bs:List (Str × List Part)) (k:Int):Option (Kd × Str) :=
 if k=2 then (dueK fs).or (dueK bs) else if k=3 then (dueK bs).or (dueK fs) else if k=5 then (dueK fs).or (some (.nn,"a")) else dueK fs
theorem z2b {fs:List (Str × List Part)}(h:dueF fs=none):dueK fs=none:=by unfold dueK;rw [h];rfl
theorem z2o {fs:List (Str × List Part)}{o:Bool × Str}(h:dueF fs=some o):dueK fs=some (if o.1 then .tw else .st,o.2):=by unfold dueK;rw [h];rfl
section
variable {P:Program}{w:World}{K:PySem.W.Frag}{mg:Str→Option Value}{base:Heap}{f:Addr}{fd:FuncData}{CF CT CN CS Ct Cp Ck:Addr}
def y6d (CT CN CS:Addr):Sp:=fun vs H Q E=>∃ (fs bs:List (Str × List Part)) (vf vb:V) (k:Int),vs=[vf,vb,.int k]∧Rep H (.lst (fs.map z0x)) vf∧Rep H (.lst (bs.map z0x)) vb∧FerX fs∧FerX bs∧0≤k∧k≤5 ∧
 (askF fs bs k=none→∀ v H',Same H H'→Q v H')∧∀ c nm,askF fs bs k=some (c,nm)→XWish (c.cls CT CN CS) nm H E
set_option maxHeartbeats 2000000 in
theorem ok_asked {f1 f2 f3 f4:Addr}{fd1 fd2 fd3 fd4:FuncData}(E__law_asked:Ent K mg "_law_asked" s__law_asked ["_law_ferry_here","_law_beside","_law_some"] f fd) (T:Zs K mg) (E_look_ferry:Ent K mg "look_ferry" s_look_ferry ["ferry"] f1 fd1) (E_ferried:Ent K mg "ferried" s_ferried ["ferry","row"] f2 fd2) (E_joined:Ent K mg "joined" s_joined ["one","other"] f3 fd3) (E_arrives:Ent K mg "arrives" s_arrives ["ferry","form","paper"] f4 fd4)
  (G_look_ferry:FnOk P w K mg base CX0 3 f1 fd1 ["ferry"] (spD z3w)) (G_ferried:FnOk P w K mg base CX0 4 f2 fd2 ["ferry","row"] z7c) (G_joined:FnOk P w K mg base CX0 4 f3 fd3 ["one","other"] z8s) (G_arrives:FnOk P w K mg base CX0 8 f4 fd4 ["ferry","form","paper"] sp_aG)
  (GX_look_ferry:FnOk P w K mg base (CX1 P w) 4 f1 fd1 ["ferry"] (z5m CT CS)) (GX_ferried:FnOk P w K mg base (CX1 P w) 5 f2 fd2 ["ferry","row"] (sp_fX CT CS)) (GX_joined:FnOk P w K mg base (CX1 P w) 5 f3 fd3 ["one","other"] (sp_fX CT CS)) (GY_joined:FnOk P w K mg base (CX1 P w) 5 f3 fd3 ["one","other"] (sp_jY CT CS))
  (GX_arrives:FnOk P w K mg base (CX1 P w) 5 f4 fd4 ["ferry","form","paper"] (sp_aX CT CS)) (GY_arrives:FnOk P w K mg base (CX1 P w) 6 f4 fd4 ["ferry","form","paper"] (sp_aY CN)):FnOk P w K mg base (CX1 P w) 9 f fd ["_law_ferry_here","_law_beside","_law_some"] (y6d CT CN CS):=by
 refine E__law_asked.F.okX y0z (fun vs H Q E h=>?_) (fun cdv A outer s H vs Q E hr h=>?_)
 ·obtain ⟨_,_,_,_,_,rfl,_⟩:=h;rfl
 ·obtain ⟨fs,bs,vf,vb,k,rfl,rf,rb,ok1,ok2,h0,h5,q1,q2⟩:=h
  have sz:=z0u
  have nw:∀ {p:Addr}{o:HO},H p=none→Same H (upd H p o):=fun h=>Same.of_new h
  cases hf:dueF fs with
  |some o =>
   have w1:askF fs bs k=dueK fs→XDue CT CS o H E:=fun e=>.of (q2 _ _ (by rw [e,z2o hf]))
   by_cases hj:k=3∧dueF bs≠none
   ·obtain ⟨rfl,hb⟩:=hj
    obtain ⟨ob,hb⟩:=Option.ne_none_iff_exists'.mp hb
    have w2:XDue CT CS ob H E:=.of (q2 _ _ (by unfold askF;rw [z2o hb];rfl))
    refine ⟨_,(z0h (z2d (z1f z1w (pv 2) z1e (z0p _)) (z0m z1z) z0t)
   (z0h (z2d (z1f z1w (pv 2) z1e (z0p _)) (z0m z1z) z0t)
   (z0h (z2d (z1f z1w (pv 2) z1e (z0p _)) (z0m (z1q (z0r GY_joined (hr.mono (by omega)) rfl E_joined.g E_joined.F.kp E_joined.b .nil z5a (z0b (pv 0) (z0b (pv 1) z0j))))) z0t)
   (z0h (z2d (z1f z1w (pv 2) z1e (z0p _)) (z0m (z1q (z0r GX_joined (hr.mono (by omega)) rfl E_joined.g E_joined.F.kp E_joined.b .nil z5a (z0b (pv 1) (z0b (pv 0) z0j))))) z0t)
   (z0h (z2d (z1f z1w (pv 2) z1e (z0p _)) (z0m z1z) z0t)
   (z0m z1z)))))),?_⟩
    walk_at "rd"
    simp only [Int.reduceEq,↓reduceIte]
    exact ⟨bs,vb,vf,ob,rfl,rb,ok2,hb,w2⟩
   ·refine ⟨_,(z0h (z2d (z1f z1w (pv 2) z1e (z0p _)) (z0m (z1q (z0r GX_look_ferry (hr.mono (by omega)) rfl E_look_ferry.g E_look_ferry.F.kp E_look_ferry.b .nil z5a (z0b (pv 0) z0j)))) z0t)
   (z0h (z2d (z1f z1w (pv 2) z1e (z0p _)) (z0m (z1q (z0r GX_ferried (hr.mono (by omega)) rfl E_ferried.g E_ferried.F.kp E_ferried.b .nil z5a (z0b (pv 0) (z0b (z1y (z0b z2v z0j)) z0j))))) z0t)
   (z0h (z2d (z1f z1w (pv 2) z1e (z0p _)) (z0m (z1q (z0r GX_joined (hr.mono (by omega)) rfl E_joined.g E_joined.F.kp E_joined.b .nil z5a (z0b (pv 0) (z0b (pv 1) z0j))))) z0t)
   (z0h (z2d (z1f z1w (pv 2) z1e (z0p _)) (z0m (z1q (z0r GY_joined (hr.mono (by omega)) rfl E_joined.g E_joined.F.kp E_joined.b .nil z5a (z0b (pv 1) (z0b (pv 0) z0j))))) z0t)
   (z0h (z2d (z1f z1w (pv 2) z1e (z0p _)) (z0m (z1q (z0r GX_arrives (hr.mono (by omega)) rfl E_arrives.g E_arrives.F.kp E_arrives.b .nil z5a (z0b (pv 0) (z0b (z3i (z0b z2v (z0b (z1y (z0b (z3i (z0b z2v (z0b (z3i (z0b z2v z0j)) z0j))) z0j)) z0j))) (z0b (z3i (z0b z2v (z0b (z1y z0j) z0j))) z0j)))))) z0t)
   (z0m (z1q (z0r GX_arrives (hr.mono (by omega)) rfl E_arrives.g E_arrives.F.kp E_arrives.b .nil z5a (z0b (pv 0) (z0b (z3i (z0b z2v (z0b (z1y z0j) z0j))) (z0b (z3i (z0b z2v (z0b (z1y z0j) z0j))) z0j))))))))))),?_⟩
    have:k=0∨k=1∨k=2∨k=3∨k=4∨k=5:=by omega
    rcases this with rfl|rfl|rfl|rfl|rfl|rfl
    ·have w:=w1 rfl
     walk_at "rd"
     exact ⟨fs,vf,o,rfl,rf,ok1.lk.1,ok1.lk.2,hf,w⟩
    ·have w:=w1 rfl
     walk_at "rd"
     simp only [Int.reduceEq,↓reduceIte]
     refine ⟨by omega,fun p hp=>?_⟩
     exact ⟨fs,vf,_,o,rfl,Rep.mono (nw hp) _ _ rf,ok1,hf,w.mono (nw hp)⟩
    ·have w:=w1 (by unfold askF;rw [z2o hf];rfl)
     walk_at "rd"
     simp only [Int.reduceEq,↓reduceIte]
     exact ⟨fs,vf,vb,o,rfl,rf,ok1,hf,w⟩
    ·have hb:dueF bs=none:=by
      cases z:dueF bs with
      |none=>rfl
      |some _=>exact absurd ⟨rfl,by rw [z];simp⟩ hj
     have w:=w1 (by unfold askF;rw [z2b hb,z2o hf];rfl)
     walk_at "rd"
     simp only [Int.reduceEq,↓reduceIte]
     exact ⟨bs,fs,vb,vf,o,rfl,rb,rf,ok2.w hb,ok1,hf,w⟩
    ·have w:=w1 rfl
     walk_at "rd"
     simp only [Int.reduceEq,↓reduceIte]
     refine ⟨by omega,fun p hp=>⟨by omega,fun p1 d10 h1=>⟨by omega,fun p2 d21 d20 h2=>⟨by omega,fun p3 d32 d31 d30 h3=>⟨by omega,fun p4 d43 d42 d41 d40 h4=>⟨by omega,fun p5 d54 d53 d52 d51 d50 h5=>?_⟩⟩⟩⟩⟩⟩
     have s6:∀ {a b c d e g:HO},Same H (upd (upd (upd (upd (upd (upd H p a) p1 b) p2 c) p3 d) p4 e) p5 g):=(((((Same.of_new hp).upd h1).upd h2).upd h3).upd h4).upd h5
     exact ⟨fs,vf,_,_,o,rfl,Rep.mono s6 _ _ rf,ok1,hf,w.mono s6⟩
    ·have w:=w1 (by unfold askF;rw [z2o hf];rfl)
     walk_at "rd"
     simp only [Int.reduceEq,↓reduceIte]
     refine ⟨by omega,fun p hp=>⟨by omega,fun p1 d10 h1=>⟨by omega,fun p2 d21 d20 h2=>⟨by omega,fun p3 d32 d31 d30 h3=>?_⟩⟩⟩⟩
     have s6:∀ {a b c d:HO},Same H (upd (upd (upd (upd H p a) p1 b) p2 c) p3 d):=(((Same.of_new hp).upd h1).upd h2).upd h3
     exact ⟨fs,vf,_,_,o,rfl,Rep.mono s6 _ _ rf,ok1,hf,w.mono s6⟩
  |none =>
   have g1:=ok1.w hf
   by_cases h5:k=5
   ·subst h5
    have w:XWish CN "a" H E:=q2 .nn _ (by unfold askF;rw [z2b hf];rfl)
    refine ⟨_,(z0h (z2d (z1f z1w (pv 2) z1e (z0p _)) (z0m z1z) z0t)
   (z0h (z2d (z1f z1w (pv 2) z1e (z0p _)) (z0m z1z) z0t)
   (z0h (z2d (z1f z1w (pv 2) z1e (z0p _)) (z0m z1z) z0t)
   (z0h (z2d (z1f z1w (pv 2) z1e (z0p _)) (z0m z1z) z0t)
   (z0h (z2d (z1f z1w (pv 2) z1e (z0p _)) (z0m z1z) z0t)
   (z0m (z1q (z0r GY_arrives (hr.mono (by omega)) rfl E_arrives.g E_arrives.F.kp E_arrives.b .nil z5a (z0b (pv 0) (z0b (z3i (z0b z2v (z0b (z1y z0j) z0j))) (z0b (z3i (z0b z2v (z0b (z1y z0j) z0j))) z0j))))))))))),?_⟩
    walk_at "rd"
    simp only [Int.reduceEq,↓reduceIte]
    refine ⟨by omega,fun p hp=>⟨by omega,fun p1 d10 h1=>⟨by omega,fun p2 d21 d20 h2=>⟨by omega,fun p3 d32 d31 d30 h3=>?_⟩⟩⟩⟩
    have s6:∀ {a b c d:HO},Same H (upd (upd (upd (upd H p a) p1 b) p2 c) p3 d):=(((Same.of_new hp).upd h1).upd h2).upd h3
    exact ⟨fs,vf,_,_,rfl,Rep.mono s6 _ _ rf,g1,⟨p1,_,rfl,by rw [z0f (Ne.symm d31),z0f (Ne.symm d21),z0d],_,_,rfl,rfl,_,_,rfl,⟨p,_,rfl,by rw [z0f (Ne.symm d30),z0f (Ne.symm d20),z0f (Ne.symm d10),z0d],rfl⟩,rfl⟩,w.mono s6⟩
   ·by_cases hj:(k=2∨k=3)∧dueF bs≠none
    ·obtain ⟨hk,hb⟩:=hj
     obtain ⟨ob,hb⟩:=Option.ne_none_iff_exists'.mp hb
     refine ⟨_,(z0h (z2d (z1f z1w (pv 2) z1e (z0p _)) (z0m z1z) z0t)
   (z0h (z2d (z1f z1w (pv 2) z1e (z0p _)) (z0m z1z) z0t)
   (z0h (z2d (z1f z1w (pv 2) z1e (z0p _)) (z0m (z1q (z0r GY_joined (hr.mono (by omega)) rfl E_joined.g E_joined.F.kp E_joined.b .nil z5a (z0b (pv 0) (z0b (pv 1) z0j))))) z0t)
   (z0h (z2d (z1f z1w (pv 2) z1e (z0p _)) (z0m (z1q (z0r GX_joined (hr.mono (by omega)) rfl E_joined.g E_joined.F.kp E_joined.b .nil z5a (z0b (pv 1) (z0b (pv 0) z0j))))) z0t)
   (z0h (z2d (z1f z1w (pv 2) z1e (z0p _)) (z0m z1z) z0t)
   (z0m z1z)))))),?_⟩
     rcases hk with rfl|rfl
     ·have w2:XDue CT CS ob H E:=.of (q2 _ _ (by unfold askF;rw [z2o hb,z2b hf];rfl))
      walk_at "rd"
      simp only [Int.reduceEq,↓reduceIte]
      exact ⟨fs,bs,vf,vb,ob,rfl,rf,rb,g1,ok2,hb,w2⟩
     ·have w2:XDue CT CS ob H E:=.of (q2 _ _ (by unfold askF;rw [z2o hb];rfl))
      walk_at "rd"
      simp only [Int.reduceEq,↓reduceIte]
      exact ⟨bs,vb,vf,ob,rfl,rb,ok2,hb,w2⟩
    ·refine ⟨_,(z0h (z2d (z1f z1w (pv 2) z1e (z0p _)) (z0m (z1q (z0r G_look_ferry (hr.mono (by omega)) rfl E_look_ferry.g E_look_ferry.F.kp E_look_ferry.b .nil z0w (z0b (pv 0) z0j)))) z0t)
   (z0h (z2d (z1f z1w (pv 2) z1e (z0p _)) (z0m (z1q (z0r G_ferried (hr.mono (by omega)) rfl E_ferried.g E_ferried.F.kp E_ferried.b .nil z0w (z0b (pv 0) (z0b (z1y (z0b z2v z0j)) z0j))))) z0t)
   (z0h (z2d (z1f z1w (pv 2) z1e (z0p _)) (z0m (z1q (z0r G_joined (hr.mono (by omega)) rfl E_joined.g E_joined.F.kp E_joined.b .nil z0w (z0b (pv 0) (z0b (pv 1) z0j))))) z0t)
   (z0h (z2d (z1f z1w (pv 2) z1e (z0p _)) (z0m (z1q (z0r G_joined (hr.mono (by omega)) rfl E_joined.g E_joined.F.kp E_joined.b .nil z0w (z0b (pv 1) (z0b (pv 0) z0j))))) z0t)
   (z0h (z2d (z1f z1w (pv 2) z1e (z0p _)) (z0m (z1q (z0r G_arrives (hr.mono (by omega)) rfl E_arrives.g E_arrives.F.kp E_arrives.b .nil z0w (z0b (pv 0) (z0b (z3i (z0b z2v (z0b (z1y (z0b (z3i (z0b z2v (z0b (z3i (z0b z2v z0j)) z0j))) z0j)) z0j))) (z0b (z3i (z0b z2v (z0b (z1y z0j) z0j))) z0j)))))) z0t)
   (z0m z1z)))))),?_⟩
     have:k=0∨k=1∨k=2∨k=3∨k=4:=by omega
     rcases this with rfl|rfl|rfl|rfl|rfl
     ·have q:=q1 (z2b hf)
      walk_at "rd"
      exact z6t g1 rf fun v H' s=>q _ _ s
     ·have q:=q1 (z2b hf)
      walk_at "rd"
      simp only [Int.reduceEq,↓reduceIte]
      refine ⟨by omega,fun p hp=>?_⟩
      have lk:∀ r∈fs,z0q r.2≤48∧stL r.2≤1:=fun r hr=>⟨(g1.ok r hr).sz,(g1.ok r hr).st⟩
      have wl:=y7d lk [.txt "x"]
      have l1:=g1.len
      simp only [z0q,z1j] at wl
      exact ⟨fs,[.txt "x"],vf,_,rfl,Rep.mono (nw hp) _ _ rf,⟨p,_,rfl,z0d,_,_,rfl,rfl,rfl⟩,by omega,g1.nd,fun r hr=>⟨by have:=(lk r hr).1;omega,(lk r hr).2⟩,by simp [z0q,z1j],by omega,fun l us o Fp H' _ s _ _ _ _=>q _ _ ((nw hp).trans s)⟩
     ·have hb:dueF bs=none:=by
       cases z:dueF bs with
       |none=>rfl
       |some _=>exact absurd ⟨.inl rfl,by rw [z];simp⟩ hj
      have q:=q1 (by unfold askF;rw [z2b hf,z2b hb];rfl)
      walk_at "rd"
      simp only [Int.reduceEq,↓reduceIte]
      exact ⟨fs,bs,vf,vb,rfl,rf,rb,g1,ok2.w hb,fun l us o Fp H' _ s _ _ _ _=>q _ _ s⟩
     ·have hb:dueF bs=none:=by
       cases z:dueF bs with
       |none=>rfl
       |some _=>exact absurd ⟨.inr rfl,by rw [z];simp⟩ hj
      have q:=q1 (by unfold askF;rw [z2b hf,z2b hb];rfl)
      walk_at "rd"
      simp only [Int.reduceEq,↓reduceIte]
      exact ⟨bs,fs,vb,vf,rfl,rb,rf,ok2.w hb,g1,fun l us o Fp H' _ s _ _ _ _=>q _ _ s⟩
     ·have q:=q1 (z2b hf)
      walk_at "rd"
      simp only [Int.reduceEq,↓reduceIte]
      refine ⟨by omega,fun p hp=>⟨by omega,fun p1 d10 h1=>⟨by omega,fun p2 d21 d20 h2=>⟨by omega,fun p3 d32 d31 d30 h3=>⟨by omega,fun p4 d43 d42 d41 d40 h4=>⟨by omega,fun p5 d54 d53 d52 d51 d50 h5=>?_⟩⟩⟩⟩⟩⟩
      have s6:∀ {a b c d e g:HO},Same H (upd (upd (upd (upd (upd (upd H p a) p1 b) p2 c) p3 d) p4 e) p5 g):=(((((Same.of_new hp).upd h1).upd h2).upd h3).upd h4).upd h5
      refine ⟨fs,vf,_,_,rfl,Rep.mono s6 _ _ rf,g1,⟨p3,_,rfl,by rw [z0f (Ne.symm d53),z0f (Ne.symm d43),z0d],_,_,rfl,rfl,_,_,rfl,⟨p2,_,rfl,by rw [z0f (Ne.symm d52),z0f (Ne.symm d42),z0f (Ne.symm d32),z0d],_,_,rfl,⟨p1,_,rfl,by rw [z0f (Ne.symm d51),z0f (Ne.symm d41),z0f (Ne.symm d31),z0f (Ne.symm d21),z0d],_,_,rfl,rfl,_,_,rfl,⟨p,_,rfl,by rw [z0f (Ne.symm d50),z0f (Ne.symm d40),z0f (Ne.symm d30),z0f (Ne.symm d20),z0f (Ne.symm d10),z0d],_,_,rfl,rfl,rfl⟩,rfl⟩,rfl⟩,rfl⟩,?_,fun v H' s=>q _ _ (s6.trans s)⟩
      exact ⟨p5,_,rfl,z0d,_,_,rfl,rfl,_,_,rfl,⟨p4,_,rfl,by rw [z0f (Ne.symm d54),z0d],rfl⟩,rfl⟩
end
open PySem L2 VL Pap
theorem sc2_refused:FnScope ["_law_ferry_here","_law_beside","_law_some","_law_caught","e"] ["_law_ferry_here","_law_beside","_law_some"] (z0c s__law_refused):=⟨rfl,rfl,rfl,by decide +kernel,rfl,by decide +kernel,by decide +kernel⟩
def z9j:Option (Kd × Str)→List Str
 |none=>[]
 |some (c,n)=>[c.str,n]
section
variable {P:Program}{w:World}{K:PySem.W.Frag}{mg:Str→Option Value}{base:Heap}{f:Addr}{fd:FuncData}{CF CT CN CS Ct Cp Ck:Addr}
theorem XR.xc (Y:XR K mg CF CT CN CS Ct Cp Ck) (c:Kd):∃ fI,xcIn K (c.cls CT CN CS) (.ref CF::mroV) fI=true:=by
 cases c with
 |tw=>obtain ⟨fI,_,_,_,q,_⟩:=Y.i_Twice;exact ⟨fI,q⟩
 |nn=>obtain ⟨fI,_,_,_,q,_⟩:=Y.i_NoName;exact ⟨fI,q⟩
 |st=>obtain ⟨fI,_,_,_,q,_⟩:=Y.i_Stars;exact ⟨fI,q⟩
theorem z2m {v c:V}{cv ty:Value}{b:Bool}{t u:TS}{D:Ends}{σ:L2.St}{H:Hp}(h0:σ[0]? = some (some v)) (hc:(∃ T,c = .ty T∧cv = .type T) ∨ ∃ C2,c = .ref C2∧cv = .ref C2)
  (hx:(v = .non∧ty = .type "NoneType") ∨ ∃ y C dx bm fI,v = .ref y∧H y=some (XO C dx y)∧xcIn K C bm fI=true∧ty = .ref C) (hk:PySem.W.kitOne K ty cv=some b) (h:if b=true then t D σ H else u D σ H):tIfS (tB (tCB (rIsX K) (z6e (tVar 0) (z6e (tC c) tNil)))) t u D σ H :=
 K04.ifS ⟨v,h0,v,c,cv,ty,b,rfl,hc,hx,hk,b,rfl,h⟩
def sp_kind (CT CN CS:Addr):Sp:=fun vs H Q _=>∃ (v:V) (o:Option (Kd × Str)),vs=[v]∧(match o with|none=>v = .non|some (c,nm)=>∃ x dx,v = .ref x∧H x=some (XO (c.cls CT CN CS) dx x)∧H dx=some (.xd [("name",.str nm)])) ∧
 ∀ l H',H l=none→Same H H'→H' l=some (.lst ((z9j o).map .str))→Q (.ref l) H'
theorem ok_kind (Y:XR K mg CF CT CN CS Ct Cp Ck) (E__law_kind:Ent K mg "_law_kind" s__law_kind ["_law_error"] f fd) (T:Zs K mg):FnOk P w K mg base CX0 1 f fd ["_law_error"] (sp_kind CT CN CS):=by
 refine E__law_kind.F.ok sc__law_kind (fun vs H Q E h=>?_) (fun cdv A outer s H vs Q E hr h=>?_)
 ·obtain ⟨_,_,rfl,_⟩:=h;rfl
 ·obtain ⟨v,o,rfl,hv,q⟩:=h
  have hu:=z4f hr
  refine ⟨_,(z0h (z2f (i:=1) sc__law_kind.nd rfl (Or.inl rfl) (z1y z0j))
   (z0h (z2d (z5b (z2z z4o rfl T.z_isinstance PyProof.Rows.boot_isinstance (z0b (pv 0) (z0b (z9v rfl Y.g_Twice) z0j)))) (z0m (z2f (i:=1) sc__law_kind.nd rfl (Or.inl rfl) (y5m z3j (pv 1) (z1y (z0b z2v (z0b (z5n (by simp) (pv 0) rfl) z0j)))))) z0t)
   (z0h (z2d (z5b (z2z z4o rfl T.z_isinstance PyProof.Rows.boot_isinstance (z0b (pv 0) (z0b (z9v rfl Y.g_NoName) z0j)))) (z0m (z2f (i:=1) sc__law_kind.nd rfl (Or.inl rfl) (y5m z3j (pv 1) (z1y (z0b z2v (z0b (z5n (by simp) (pv 0) rfl) z0j)))))) z0t)
   (z0h (z2d (z5b (z2z z4o rfl T.z_isinstance PyProof.Rows.boot_isinstance (z0b (pv 0) (z0b (z9v rfl Y.g_Stars) z0j)))) (z0m (z2f (i:=1) sc__law_kind.nd rfl (Or.inl rfl) (y5m z3j (pv 1) (z1y (z0b z2v (z0b (z5n (by simp) (pv 0) rfl) z0j)))))) z0t)
   (z0h (z2d (z5b (z2z z4o rfl T.z_isinstance PyProof.Rows.boot_isinstance (z0b (pv 0) (z0b (z9v rfl Y.g_NoText) z0j)))) (z0m (z2f (i:=1) sc__law_kind.nd rfl (Or.inl rfl) (y5m z3j (pv 1) (z1y (z0b z2v (z0b (z5n (by simp) (pv 0) rfl) z0j)))))) z0t)
   (z0h (z2d (z5b (z2z z4o rfl T.z_isinstance PyProof.Rows.boot_isinstance (z0b (pv 0) (z0b (z9v rfl Y.g_NoPort) z0j)))) (z0m (z2f (i:=1) sc__law_kind.nd rfl (Or.inl rfl) (y5m z3j (pv 1) (z1y (z0b z2v (z0b (z5n (by simp) (pv 0) rfl) z0j)))))) z0t)
   (z0h (z2d (z5b (z2z z4o rfl T.z_isinstance PyProof.Rows.boot_isinstance (z0b (pv 0) (z0b (z9v rfl Y.g_Taken) z0j)))) (z0m (z2f (i:=1) sc__law_kind.nd rfl (Or.inl rfl) (y5m z3j (pv 1) (z1y (z0b z2v (z0b (z5n (by simp) (pv 0) rfl) z0j)))))) z0t)
   (z0h (z2d (PW.pt (y5z (z1f y4s (pv 0) z8u (z0p _)) (y1q (pt_not (z5b (z2z z4o rfl T.z_isinstance PyProof.Rows.boot_isinstance (z0b (pv 0) (z0b (y0s (v:=.ty "ValueError") rfl Y.z_ValueError boot_VE rfl) z0j)))))))) (z0m (z1n (y2a PySem.F.slot_list_append PySem.F.type_list_append z1v (pv 1) (z0b z2v z0j)))) z0t)
   (z0m (z1q (pv 1))))))))))),?_⟩
  have sz:=z0u
  have cr:∀ C:Addr,(∃ T,V.ref C = .ty T∧Value.ref C = .type T) ∨ ∃ C2,V.ref C = .ref C2∧Value.ref C = .ref C2:=fun C=>.inr ⟨C,rfl,rfl⟩
  cases o with
  |none =>
   subst hv
   have hx:∀ H1:Hp,((V.non = .non∧tyK CT CN CS none = .type "NoneType") ∨ ∃ y C dx bm fI,V.non = .ref y∧H1 y=some (XO C dx y)∧xcIn K C bm fI=true∧tyK CT CN CS none = .ref C):=fun _=>.inl ⟨rfl,rfl⟩
   walk_at "rs"
   refine ⟨by omega,fun l hl=>z2m rfl (cr _) (hx _) (Y.n_Twice _) (iteF ?_)⟩
   walk_at "rs"
   refine z2m rfl (cr _) (hx _) (Y.n_NoName _) (iteF ?_)
   walk_at "rs"
   refine z2m rfl (cr _) (hx _) (Y.n_Stars _) (iteF ?_)
   walk_at "rs"
   refine z2m rfl (cr _) (hx _) (Y.n_NoText _) (iteF ?_)
   walk_at "rs"
   refine z2m rfl (cr _) (hx _) (Y.n_NoPort _) (iteF ?_)
   walk_at "rs"
   refine z2m rfl (cr _) (hx _) (Y.n_Taken _) (iteF ?_)
   walk_at "rs"
   refine K04.ifS ?_
   walk_at "rd"
   exact ⟨false,by simp,iteF (q l _ hl (Same.of_new hl) z0d)⟩
  |some o =>
   obtain ⟨c,nm⟩:=o
   obtain ⟨x,dx,rfl,hx,hdx⟩:=hv
   obtain ⟨fI,hxc⟩:=Y.xc c
   have sx:∀ {l:Addr},H l=none→Same H (upd H l (.lst [])):=fun h=>Same.of_new h
   have ix:∀ H1:Hp,Same H H1→((V.ref x = .non∧tyK CT CN CS (some c) = .type "NoneType") ∨ ∃ y C dx bm fI,V.ref x = .ref y∧H1 y=some (XO C dx y)∧xcIn K C bm fI=true∧tyK CT CN CS (some c) = .ref C):=fun H1 s=>.inr ⟨x,_,dx,_,fI,rfl,s _ _ hx,hxc,rfl⟩
   cases c with
   |tw =>
    walk_at "rs"
    refine ⟨by omega,fun l hl=>z2m rfl (cr _) (ix _ (sx hl)) (Y.n_Twice _) (iteT ?_)⟩
    walk_at "rs"
    refine ⟨_,dx,sx hl _ _ hx,_,sx hl _ _ hdx,_,fI,hxc,⟨nm,rfl⟩,by omega,fun p np hp=>⟨[],by rw [z0f (Ne.symm np),z0d],by show 0+2≤sizeLine;omega,fun p1 n1 n2 hp1=>?_⟩⟩
    have s3:∀ {a b:HO},Same H (upd (upd (upd H l (.lst [])) p a) p1 b):=((sx hl).upd hp).upd hp1
    refine z2m rfl (cr _) (ix _ s3) (Y.n_NoName _) (iteF ?_)
    walk_at "rs"
    refine z2m rfl (cr _) (ix _ s3) (Y.n_Stars _) (iteF ?_)
    walk_at "rs"
    refine z2m rfl (cr _) (ix _ s3) (Y.n_NoText _) (iteF ?_)
    walk_at "rs"
    refine z2m rfl (cr _) (ix _ s3) (Y.n_NoPort _) (iteF ?_)
    walk_at "rs"
    refine z2m rfl (cr _) (ix _ s3) (Y.n_Taken _) (iteF ?_)
    walk_at "rs"
    refine K04.ifS ?_
    walk_at "rd"
    exact ⟨true,by simp,iteT ⟨_,⟨_,dx,s3 _ _ hx,_,fI,hxc,rfl⟩,_,Y.n_ValueError (some _),by rw [if_neg (by simp)];exact q p1 _ hp1 s3 z0d⟩⟩
   |nn =>
    walk_at "rs"
    refine ⟨by omega,fun l hl=>z2m rfl (cr _) (ix _ (sx hl)) (Y.n_Twice _) (iteF ?_)⟩
    walk_at "rs"
    refine z2m rfl (cr _) (ix _ (sx hl)) (Y.n_NoName _) (iteT ?_)
    walk_at "rs"
    refine ⟨_,dx,sx hl _ _ hx,_,sx hl _ _ hdx,_,fI,hxc,⟨nm,rfl⟩,by omega,fun p np hp=>⟨[],by rw [z0f (Ne.symm np),z0d],by show 0+2≤sizeLine;omega,fun p1 n1 n2 hp1=>?_⟩⟩
    have s3:∀ {a b:HO},Same H (upd (upd (upd H l (.lst [])) p a) p1 b):=((sx hl).upd hp).upd hp1
    refine z2m rfl (cr _) (ix _ s3) (Y.n_Stars _) (iteF ?_)
    walk_at "rs"
    refine z2m rfl (cr _) (ix _ s3) (Y.n_NoText _) (iteF ?_)
    walk_at "rs"
    refine z2m rfl (cr _) (ix _ s3) (Y.n_NoPort _) (iteF ?_)
    walk_at "rs"
    refine z2m rfl (cr _) (ix _ s3) (Y.n_Taken _) (iteF ?_)
    walk_at "rs"
    refine K04.ifS ?_
    walk_at "rd"
    exact ⟨true,by simp,iteT ⟨_,⟨_,dx,s3 _ _ hx,_,fI,hxc,rfl⟩,_,Y.n_ValueError (some _),by rw [if_neg (by simp)];exact q p1 _ hp1 s3 z0d⟩⟩
   |st =>
    walk_at "rs"
    refine ⟨by omega,fun l hl=>z2m rfl (cr _) (ix _ (sx hl)) (Y.n_Twice _) (iteF ?_)⟩
    walk_at "rs"
    refine z2m rfl (cr _) (ix _ (sx hl)) (Y.n_NoName _) (iteF ?_)
    walk_at "rs"
    refine z2m rfl (cr _) (ix _ (sx hl)) (Y.n_Stars _) (iteT ?_)
    walk_at "rs"
    refine ⟨_,dx,sx hl _ _ hx,_,sx hl _ _ hdx,_,fI,hxc,⟨nm,rfl⟩,by omega,fun p np hp=>⟨[],by rw [z0f (Ne.symm np),z0d],by show 0+2≤sizeLine;omega,fun p1 n1 n2 hp1=>?_⟩⟩
    have s3:∀ {a b:HO},Same H (upd (upd (upd H l (.lst [])) p a) p1 b):=((sx hl).upd hp).upd hp1
    refine z2m rfl (cr _) (ix _ s3) (Y.n_NoText _) (iteF ?_)
    walk_at "rs"
    refine z2m rfl (cr _) (ix _ s3) (Y.n_NoPort _) (iteF ?_)
    walk_at "rs"
    refine z2m rfl (cr _) (ix _ s3) (Y.n_Taken _) (iteF ?_)
    walk_at "rs"
    refine K04.ifS ?_
    walk_at "rd"
    exact ⟨true,by simp,iteT ⟨_,⟨_,dx,s3 _ _ hx,_,fI,hxc,rfl⟩,_,Y.n_ValueError (some _),by rw [if_neg (by simp)];exact q p1 _ hp1 s3 z0d⟩⟩
def z6w:Sp:=fun vs H Q _=>∃ (fs bs:List (Str × List Part)) (vf vb:V) (k:Int),vs=[vf,vb,.int k]∧Rep H (.lst (fs.map z0x)) vf∧Rep H (.lst (bs.map z0x)) vb∧FerX fs∧FerX bs∧0≤k∧k≤5 ∧
 ∀ l H',H l=none→Same H H'→H' l=some (.lst ((z9j (askF fs bs k)).map .str))→Q (.ref l) H'
theorem ok_refused {f1 f2:Addr}{fd1 fd2:FuncData}(Y:XR K mg CF CT CN CS Ct Cp Ck) (E__law_refused:Ent K mg "_law_refused" s__law_refused ["_law_ferry_here","_law_beside","_law_some"] f fd) (T:Zs K mg) (E__law_asked:Ent K mg "_law_asked" s__law_asked ["_law_ferry_here","_law_beside","_law_some"] f1 fd1) (E__law_kind:Ent K mg "_law_kind" s__law_kind ["_law_error"] f2 fd2) (GX__law_asked:FnOk P w K mg base (CX1 P w) 9 f1 fd1 ["_law_ferry_here","_law_beside","_law_some"] (y6d CT CN CS)):FnOk P w K mg base CX0 10 f fd ["_law_ferry_here","_law_beside","_law_some"] z6w:=by
 have G__law_kind:FnOk P w K mg base CX0 1 f2 fd2 _ (sp_kind CT CN CS):=ok_kind Y E__law_kind T
 refine E__law_refused.F.ok sc2_refused (fun vs H Q E h=>?_) (fun cdv A outer s H vs Q E hr h=>?_)
 ·obtain ⟨_,_,_,_,_,rfl,_⟩:=h;rfl
 ·obtain ⟨fs,bs,vf,vb,k,rfl,rf,rb,ok1,ok2,h0,h5,q⟩:=h
  refine ⟨_,(z0h (z2f (i:=3) sc2_refused.nd rfl (Or.inl rfl) z8u)
   (z0h (ps_try (ie:=4) (iy:=3) GX__law_asked (hr.mono (by decide)) rfl E__law_asked.g E__law_asked.F.kp E__law_asked.b (z0b (pv 0) (z0b (pv 1) (z0b (pv 2) z0j))) ⟨rfl,rfl⟩ rfl sc2_refused.nd rfl rfl rfl (Or.inl rfl) (Or.inl rfl) rfl Y.g_FerryError Y.q_FerryError)
   (z0m (z1q (z0r G__law_kind (hr.mono (by decide)) rfl E__law_kind.g E__law_kind.F.kp E__law_kind.b .nil z0w (z0b (pv 3) z0j)))))),?_⟩
  walk_at "rs"
  refine ⟨fs,bs,vf,vb,k,rfl,rf,rb,ok1,ok2,h0,h5,fun hn v H1 s1=>?_,fun c nm he=>fun x dx H1 s1 hx hdx=>?_⟩
  ·exact ⟨.non,none,rfl,rfl,fun l H' n s e=>q l H' (s1.free n) (s1.trans s) (by rw [hn];exact e)⟩
  ·obtain ⟨fI,hxc⟩:=Y.xc c
   refine ⟨x,rfl,?_⟩
   refine ⟨_,dx,rfl,hx,⟨_,fI,hxc,by simp⟩,.ref x,some (c,nm),rfl,⟨x,dx,rfl,hx,hdx⟩,fun l H' n s e=>q l H' (s1.free n) (s1.trans s) (by rw [he];exact e)⟩
def z8b:RD:=fun δ Q=>∃ (fs bs:List (Str × List Part)) (k:Int),δ=[.fz (.lst (fs.map z0x)),.fz (.lst (bs.map z0x)),.fz (.int k)]∧FerX fs∧FerX bs∧0≤k∧k≤5∧Q true (.lst ((z9j (askF fs bs k)).map .str)) [.no,.no,.no]
theorem EI_ret {ic:List (Option Addr)}{Hx F H H':Hp}{δ:List VL.Slot}{σ:L2.St}{r:Addr}{c:D}{n:Nat}(I:EI ic Hx F F δ σ H) (hn:n=σ.length) (s:Same H H') (hr:H r=none) (h:Cont F H' r c):EI (none::ic) Hx F F (.ob false c::List.replicate n .no) (some (.ref r)::σ) H' where
 base:=I.base.trans s
 sub:=I.sub.trans s
 ext:=Same.refl _
 new:=fun b o e z=>by rw [z] at e;cases e
 len:=by simp [hn]
 get:=fun i t e=>by
  cases i with
  |zero=>cases e;exact ⟨r,rfl,I.base.free hr,I.sub.free hr,h,fun z=>by cases z⟩
  |succ i =>
   have e:(List.replicate n VL.Slot.no)[i]? = some t:=e
   rw [List.getElem?_replicate] at e
   split at e
   ·cases e;trivial
   ·cases e
 apart:=fun i j b c b' c' a hij e1 e2 _ _=>by
  have no:∀ (i:Nat) (b:Bool) (c:D),(List.replicate n VL.Slot.no)[i]? ≠ some (.ob b c):=fun i b c e=>by
   rw [List.getElem?_replicate] at e
   split at e <;> cases e
  cases i with
  |succ i=>exact no i b c e1
  |zero =>
   cases j with
   |zero=>exact hij rfl
   |succ j=>exact no j b' c' e2
theorem y4q (G:FnOk P w K mg base CX0 10 f fd ["_law_ferry_here","_law_beside","_law_some"] z6w):FnOk P w K mg base CX0 10 f fd ["_law_ferry_here","_law_beside","_law_some"] (spD z8b):=by
 have key:∀ vs H Q E,spD z8b vs H Q E→z6w vs H Q E:=by
  rintro vs H Q E ⟨Hx,ic,F,δ,Qd,hic,I,⟨fs,bs,k,rfl,ok1,ok2,h0,h5,q⟩,back⟩
  obtain ⟨v0,e0,r0⟩:=I.get 0 _ rfl
  obtain ⟨v1,e1,r1⟩:=I.get 1 _ rfl
  obtain ⟨v2,e2,r2⟩:=I.get 2 _ rfl
  cases (show v2 = .int k from r2)
  have hl:=I.len
  rw [List.length_map] at hl
  obtain ⟨a,b,c,rfl⟩:∃ a b c,vs=[a,b,c]:=by
   cases vs with
   |nil=>cases hl
   |cons a vs =>
    cases vs with
    |nil=>cases hl
    |cons b vs =>
     cases vs with
     |nil=>cases hl
     |cons c vs =>
      cases vs with
      |nil=>exact ⟨a,b,c,rfl⟩
      |cons d vs=>cases hl
  cases (show a=v0 from Option.some.inj e0)
  cases (show b=v1 from Option.some.inj e1)
  cases (show c = .int k from Option.some.inj e2)
  refine ⟨fs,bs,v0,v1,k,rfl,Rep.mono I.sub _ _ r0,Rep.mono I.sub _ _ r1,ok1,ok2,h0,h5,fun l H' n s e=>?_⟩
  refine back true (.lst ((z9j (askF fs bs k)).map .str)) (.ref l) [.no,.no,.no] F H' (EI_ret (n:=3) I rfl s n ⟨_,e,?_⟩) q
  generalize z9j (askF fs bs k)=ss
  induction ss with
  |nil=>rfl
  |cons x ss ih=>exact ⟨_,_,rfl,rfl,ih⟩
 exact ⟨fun vs H Q E q=>G.1 _ _ _ _ (key _ _ _ _ q),fun A outer s H args us vs Q E a b c d q=>G.2 A outer s H args us vs Q E a b c d (key _ _ _ _ q)⟩
end
open PySem L2 VL Pap
theorem due_ok:∀ {fs:List (Str × List Part)}{met:List Str},(fs.map (·.1)).Nodup→(∀ r∈fs,r.1∉met∧stL r.2≤1)→z6s met fs=none
 | [],_,_,_=>rfl
 |a::fs,met,nd,h=>by
  rw [show z6s met (a::fs)=(if a.1∈met then some (true,a.1) else if 1 < stL a.2 then some (false,a.1) else z6s (met ++ [a.1]) fs) from rfl]
  have h1:=h a List.mem_cons_self
  rw [List.map_cons,List.nodup_cons] at nd
  rw [if_neg h1.1,if_neg (by omega)]
  refine due_ok nd.2 fun r hr=>⟨fun z=>?_,(h r (List.mem_cons_of_mem _ hr)).2⟩
  rcases List.mem_append.mp z with z|z
  ·exact (h r (List.mem_cons_of_mem _ hr)).1 z
  ·exact nd.1 (List.mem_map.mpr ⟨r,hr,by simpa using z⟩)
theorem FerOk.due {fs:List (Str × List Part)}(o:FerOk fs):dueF fs=none:=due_ok o.nd fun r hr=>⟨by simp,(o.ok r hr).st⟩
theorem FerOk.x {fs:List (Str × List Part)}(o:FerOk fs):FerX fs:=o.b.x (by decide)
theorem y0p (fs:List (Str × List Part)):z9j (dueK fs)=dueS (dueF fs):=by
 unfold dueK
 cases dueF fs with
 |none=>rfl
 |some o=>obtain ⟨b,n⟩:=o;cases b <;> rfl
def badF:List (Str × List Part):=[("b",[.tup "*" [],.tup "*" []])]
theorem bad_due:dueF badF=some (false,("b":Str)):=by decide +kernel
theorem bad_x:FerX badF:=by
 refine ⟨by decide,fun r hr=>?_⟩
 cases (List.mem_singleton.mp hr)
 exact ⟨⟨⟨98,by decide +kernel,by decide,by decide⟩,by decide +kernel⟩,by decide +kernel,by decide +kernel,by decide +kernel⟩
section
variable {P:Program}{w:World}{K:PySem.W.Frag}{mg:Str→Option Value}{base:Heap}{f:Addr}{fd:FuncData}
theorem y0u (ss:List Str):eqbL (ss.map D.str)=true∧depL (ss.map D.str)≤1:=by
 induction ss with
 |nil=>exact ⟨rfl,by simp [depL]⟩
 |cons a ss ih=>exact ⟨by simp [eqbL,eqb,ih.1],by simp only [List.map_cons,depL,dep];omega⟩
theorem y6k {ss tt:List Str}{Q:Bool→D→Prop}(e:ss=tt) (h:Q false (.bl false)):fNeL (.lst (ss.map .str)) (.lst (tt.map .str)) Q:=by
 subst e
 exact ⟨_,_,rfl,rfl,.inr ⟨rfl,(y0u ss).1,by have:=(y0u ss).2;omega,h⟩⟩
def pickS (fs:List (Str × List Part)) (z:List Str):List Str:=match dueF fs with|none=>z|some _=>dueS (dueF fs)
theorem pickL (fs:List (Str × List Part)) (z:List Str):atI [D.lst ((dueS (dueF fs)).map .str),.lst (z.map .str)] (if ((dueS (dueF fs)).map D.str).isEmpty=true then 1 else 0)=some (.lst ((pickS fs z).map .str)):=by
 unfold pickS
 cases dueF fs with
 |none=>rfl
 |some o=>obtain ⟨b,n⟩:=o;cases b <;> rfl
theorem ask5 (fs bs:List (Str × List Part)):z9j (askF fs bs 5)=pickS fs ["none","a"]:=by
 unfold pickS
 have hk:=y0p fs
 rw [show askF fs bs 5=(dueK fs).or (some (.nn,"a")) from rfl]
 cases h:dueF fs with
 |none=>rw [z2b h];rfl
 |some o=>rw [h] at hk;rw [z2o h] at hk ⊢;exact hk
theorem ask2 (fs:List (Str × List Part)):z9j (askF fs badF 2)=pickS fs ["stars","b"]:=by
 unfold pickS
 have hk:=y0p fs
 rw [show askF fs badF 2=(dueK fs).or (dueK badF) from rfl,z2o bad_due]
 cases h:dueF fs with
 |none=>rw [z2b h];rfl
 |some o=>rw [h] at hk;rw [z2o h] at hk ⊢;exact hk
theorem ask3 (fs:List (Str × List Part)):z9j (askF fs badF 3)=[("stars":Str),"b"]:=by
 rw [show askF fs badF 3=(dueK badF).or (dueK fs) from rfl,z2o bad_due]
 rfl
def R_bentA:RD:=fun δ Q=>∃ k,R_bent k δ Q
theorem fn_any {lv:Nat}{ps:List Str}{R:Nat→RD}(h:∀ k,FnOk P w K mg base CX0 lv f fd ps (spD (R k))):FnOk P w K mg base CX0 lv f fd ps (spD fun δ Q=>∃ k,R k δ Q):=by
 have key:∀ vs H Q E,spD (fun δ Q=>∃ k,R k δ Q) vs H Q E→∃ k,spD (R k) vs H Q E:=fun vs H Q E ⟨a,b,c,d,e,h1,h2,⟨k,h3⟩,h4⟩=>⟨k,a,b,c,d,e,h1,h2,h3,h4⟩
 exact ⟨fun vs H Q E q=>by obtain ⟨k,q⟩:=key _ _ _ _ q;exact (h k).1 _ _ _ _ q,fun A outer s H args us vs Q E a b c d q=>by obtain ⟨k,q⟩:=key _ _ _ _ q;exact (h k).2 A outer s H args us vs Q E a b c d q⟩
def R_law (K:PySem.W.Frag):RD:=fun δ Q=>∃ ns:List Int,δ=[.sc K ns]∧Q false (.bl true) [.no]
structure AllE (K:PySem.W.Frag) (mg:Str→Option Value):Prop where
 T:Zs K mg
 kts:PySem.W.kitOne K (.type "tuple") (.type "str")=some false
 Y:∃ CF CT CN CS Ct Cp Ck,XR K mg CF CT CN CS Ct Cp Ck
 E_all_parts:∃ f fd,Ent K mg "all_parts" s_all_parts ["row"] f fd
 E_tuples_beneath:∃ f fd,Ent K mg "tuples_beneath" s_tuples_beneath ["path","part"] f fd
 E_tuples_with_paths:∃ f fd,Ent K mg "tuples_with_paths" s_tuples_with_paths ["paper"] f fd
 E_sign_of:∃ f fd,Ent K mg "sign_of" s_sign_of ["part"] f fd
 E_word:∃ f fd,Ent K mg "word" s_word ["row"] f fd
 E_patterns_within:∃ f fd,Ent K mg "patterns_within" s_patterns_within ["pattern"] f fd
 E_signs:∃ f fd,Ent K mg "signs" s_signs ["pattern"] f fd
 E_bare:∃ f fd,Ent K mg "bare" s_bare ["pattern"] f fd
 E_firsts:∃ f fd,Ent K mg "firsts" s_firsts ["pattern"] f fd
 E_lasts:∃ f fd,Ent K mg "lasts" s_lasts ["pattern"] f fd
 E_link:∃ f fd,Ent K mg "link" s_link ["ends","begins","followers"] f fd
 E_link_row:∃ f fd,Ent K mg "link_row" s_link_row ["patterns","followers"] f fd
 E_link_all:∃ f fd,Ent K mg "link_all" s_link_all ["pattern","followers"] f fd
 E_nexts:∃ f fd,Ent K mg "nexts" s_nexts ["pattern"] f fd
 E_table:∃ f fd,Ent K mg "table" s_table ["pattern"] f fd
 E_agrees:∃ f fd,Ent K mg "agrees" s_agrees ["told","word"] f fd
 E_look_twice:∃ f fd,Ent K mg "look_twice" s_look_twice ["rules"] f fd
 E_look_names:∃ f fd,Ent K mg "look_names" s_look_names ["root","rules"] f fd
 E_look:∃ f fd,Ent K mg "look" s_look ["form"] f fd
 E_tables:∃ f fd,Ent K mg "tables" s_tables ["rules"] f fd
 E_holds:∃ f fd,Ent K mg "holds" s_holds ["part","known"] f fd
 E_faults:∃ f fd,Ent K mg "faults" s_faults ["form","paper"] f fd
 E_is_paper:∃ f fd,Ent K mg "is_paper" s_is_paper ["form","paper"] f fd
 E_stars:∃ f fd,Ent K mg "stars" s_stars ["row"] f fd
 E_look_ferry:∃ f fd,Ent K mg "look_ferry" s_look_ferry ["ferry"] f fd
 E_jobs:∃ f fd,Ent K mg "jobs" s_jobs ["parts","target","starred"] f fd
 E_carry:∃ f fd,Ent K mg "carry" s_carry ["rules","part","target","starred"] f fd
 E_carried:∃ f fd,Ent K mg "carried" s_carried ["rules","row"] f fd
 E_ferried:∃ f fd,Ent K mg "ferried" s_ferried ["ferry","row"] f fd
 E_staying_row:∃ f fd,Ent K mg "staying_row" s_staying_row ["name"] f fd
 E_joined:∃ f fd,Ent K mg "joined" s_joined ["one","other"] f fd
 E_arrives:∃ f fd,Ent K mg "arrives" s_arrives ["ferry","form","paper"] f fd
 E__law_draws:∃ f fd,Ent K mg "_law_draws" s__law_draws ["_law_script","_law_turn","_law_many"] f fd
 E__law_pop:∃ f fd,Ent K mg "_law_pop" s__law_pop ["_law_draws_here"] f fd
 E__law_name:∃ f fd,Ent K mg "_law_name" s__law_name ["_law_k","_law_draw"] f fd
 E__law_names:∃ f fd,Ent K mg "_law_names" s__law_names ["_law_draw"] f fd
 E__law_text:∃ f fd,Ent K mg "_law_text" s__law_text ["_law_number"] f fd
 E__law_plain:∃ f fd,Ent K mg "_law_plain" s__law_plain ["_law_names_here","_law_draws_here","_law_deep"] f fd
 E__law_starred:∃ f fd,Ent K mg "_law_starred" s__law_starred ["_law_row","_law_number"] f fd
 E__law_ferry:∃ f fd,Ent K mg "_law_ferry" s__law_ferry ["_law_names_here","_law_draws_here","_law_many"] f fd
 E__law_stars:∃ f fd,Ent K mg "_law_stars" s__law_stars ["_law_row"] f fd
 E__law_due_ferry:∃ f fd,Ent K mg "_law_due_ferry" s__law_due_ferry ["_law_ferry_here"] f fd
 E__law_bent_ferry:∃ f fd,Ent K mg "_law_bent_ferry" s__law_bent_ferry ["_law_ferry_here","_law_number"] f fd
 E__law_copy_row:∃ f fd,Ent K mg "_law_copy_row" s__law_copy_row ["_law_row"] f fd
 E__law_kind:∃ f fd,Ent K mg "_law_kind" s__law_kind ["_law_error"] f fd
 E__law_asked:∃ f fd,Ent K mg "_law_asked" s__law_asked ["_law_ferry_here","_law_beside","_law_some"] f fd
 E__law_refused:∃ f fd,Ent K mg "_law_refused" s__law_refused ["_law_ferry_here","_law_beside","_law_some"] f fd
 E__law_copy_ferry:∃ f fd,Ent K mg "_law_copy_ferry" s__law_copy_ferry ["_law_ferry_here"] f fd
theorem ok_law (E_law:Ent K mg "law" s_law ["_law_script"] f fd) (U:AllE K mg):FnOk P w K mg base CX0 80 f fd ["_law_script"] (spD (R_law K)):=by
 obtain ⟨T,kts,⟨CF,CT,CN,CS,Ct,Cp,Ck,Y⟩,⟨f_all_parts,fd_all_parts,E_all_parts⟩,⟨f_tuples_beneath,fd_tuples_beneath,E_tuples_beneath⟩,⟨f_tuples_with_paths,fd_tuples_with_paths,E_tuples_with_paths⟩,⟨f_sign_of,fd_sign_of,E_sign_of⟩,⟨f_word,fd_word,E_word⟩,⟨f_patterns_within,fd_patterns_within,E_patterns_within⟩,⟨f_signs,fd_signs,E_signs⟩,⟨f_bare,fd_bare,E_bare⟩,⟨f_firsts,fd_firsts,E_firsts⟩,⟨f_lasts,fd_lasts,E_lasts⟩,⟨f_link,fd_link,E_link⟩,⟨f_link_row,fd_link_row,E_link_row⟩,⟨f_link_all,fd_link_all,E_link_all⟩,⟨f_nexts,fd_nexts,E_nexts⟩,⟨f_table,fd_table,E_table⟩,⟨f_agrees,fd_agrees,E_agrees⟩,⟨f_look_twice,fd_look_twice,E_look_twice⟩,⟨f_look_names,fd_look_names,E_look_names⟩,⟨f_look,fd_look,E_look⟩,⟨f_tables,fd_tables,E_tables⟩,⟨f_holds,fd_holds,E_holds⟩,⟨f_faults,fd_faults,E_faults⟩,⟨f_is_paper,fd_is_paper,E_is_paper⟩,⟨f_stars,fd_stars,E_stars⟩,⟨f_look_ferry,fd_look_ferry,E_look_ferry⟩,⟨f_jobs,fd_jobs,E_jobs⟩,⟨f_carry,fd_carry,E_carry⟩,⟨f_carried,fd_carried,E_carried⟩,⟨f_ferried,fd_ferried,E_ferried⟩,⟨f_staying_row,fd_staying_row,E_staying_row⟩,⟨f_joined,fd_joined,E_joined⟩,⟨f_arrives,fd_arrives,E_arrives⟩,⟨f__law_draws,fd__law_draws,E__law_draws⟩,⟨f__law_pop,fd__law_pop,E__law_pop⟩,⟨f__law_name,fd__law_name,E__law_name⟩,⟨f__law_names,fd__law_names,E__law_names⟩,⟨f__law_text,fd__law_text,E__law_text⟩,⟨f__law_plain,fd__law_plain,E__law_plain⟩,⟨f__law_starred,fd__law_starred,E__law_starred⟩,⟨f__law_ferry,fd__law_ferry,E__law_ferry⟩,⟨f__law_stars,fd__law_stars,E__law_stars⟩,⟨f__law_due_ferry,fd__law_due_ferry,E__law_due_ferry⟩,⟨f__law_bent_ferry,fd__law_bent_ferry,E__law_bent_ferry⟩,⟨f__law_copy_row,fd__law_copy_row,E__law_copy_row⟩,⟨f__law_kind,fd__law_kind,E__law_kind⟩,⟨f__law_asked,fd__law_asked,E__law_asked⟩,⟨f__law_refused,fd__law_refused,E__law_refused⟩,⟨f__law_copy_ferry,fd__law_copy_ferry,E__law_copy_ferry⟩⟩:=U
 have G__law_draws:FnOk P w K mg base CX0 1 _ _ _ (spD (R_draws K)):=ok_draws E__law_draws T
 have G__law_pop:FnOk P w K mg base CX0 1 _ _ _ (spD R_pop):=ok_pop E__law_pop T
 have G__law_names:FnOk P w K mg base CX0 2 _ _ _ (spD R_names):=ok_names E__law_names T E__law_name
 have G__law_ferry:=ok_ferry (P:=P) (w:=w) (base:=base) E__law_ferry T E__law_pop E__law_text E__law_plain E__law_starred
 have G__law_copy_ferry:FnOk P w K mg base CX0 22 _ _ _ (spD y5w):=ok_cferry E__law_copy_ferry T E__law_copy_row
 have G__law_due_ferry:FnOk P w K mg base CX0 22 _ _ _ (spD R_due):=ok_due E__law_due_ferry T E__law_stars
 have G_look_ferry:FnOk P w K mg base CX0 3 _ _ _ (spD z3w):=z5x E_look_ferry T E_stars E_all_parts E_sign_of
 have G__law_refused:FnOk P w K mg base CX0 10 f__law_refused fd__law_refused ["_law_ferry_here","_law_beside","_law_some"] (spD z8b):=by
  have G_ferried:FnOk P w K mg base CX0 4 _ _ _ z7c:=y6y E_ferried T E_jobs E_carry E_carried E_look_ferry E_stars E_all_parts E_sign_of kts
  have G_joined:FnOk P w K mg base CX0 4 _ _ _ z8s:=ok_joined E_joined T E_jobs E_carry E_carried E_look_ferry E_stars E_all_parts E_sign_of E_staying_row kts
  have G_carried:FnOk P w K mg base CX0 3 _ _ _ z4l:=z6u E_carried T E_jobs E_carry kts
  have G_look:FnOk P w K mg base CX0 4 _ _ _ (spD K04.z3w):=K04.z5x E_look T E_look_twice E_look_names E_signs E_patterns_within
  have G_tables:FnOk P w K mg base CX0 5 _ _ _ (spD K04.y1b):=K04.ok_tables E_tables T E_patterns_within E_signs E_link_all E_bare E_firsts E_lasts E_nexts E_table
  have G_twp:FnOk P w K mg base CX0 2 _ _ _ K04.sp_twp:=K04.ok_twp E_tuples_with_paths T E_tuples_beneath
  have G_holds:FnOk P w K mg base CX0 3 _ _ _ (spD K04.z6y):=K04.ok_holds E_holds T E_agrees E_word E_sign_of
  have G_faults:FnOk P w K mg base CX0 6 _ _ _ K04.z8l:=K04.ok_faults E_faults T E_look E_tables E_tuples_with_paths E_holds G_look G_tables G_twp G_holds
  have G_is_paper:FnOk P w K mg base CX0 7 _ _ _ K04.sp_isp:=K04.ok_isp E_is_paper T E_faults G_faults
  have G_arrives:FnOk P w K mg base CX0 8 _ _ _ sp_aG:=ok_aG E_arrives T E_look_ferry E_look E_carried E_is_paper G_look_ferry G_look G_carried G_is_paper kts
  exact y4q (ok_refused Y E__law_refused T E__law_asked E__law_kind (ok_asked E__law_asked T E_look_ferry E_ferried E_joined E_arrives G_look_ferry G_ferried G_joined G_arrives (z6p Y E_look_ferry T E_stars E_all_parts E_sign_of) (ok_fX Y E_ferried T E_look_ferry E_stars E_all_parts E_sign_of) (ok_jX Y E_joined T E_look_ferry E_stars E_all_parts E_sign_of) (ok_jY Y E_joined T E_look_ferry E_stars E_all_parts E_sign_of)
   (ok_aX Y E_arrives T E_look_ferry E_stars E_all_parts E_sign_of) (ok_aY Y E_arrives T E_look_ferry E_stars E_all_parts E_sign_of E_look E_look_twice E_look_names E_signs E_patterns_within)))
 have G__law_bent_ferry:FnOk P w K mg base CX0 22 _ _ _ (spD R_bentA):=fn_any fun k=>ok_bent k E__law_bent_ferry T E__law_starred
 refine VL.Fun.dok E_law.F sc_law (fun δ Qd h=>?_) (by decide) (fun cdv A outer s H E δ Qd hr h=>?_)
 ·obtain ⟨_,rfl,_⟩:=h;rfl
 ·obtain ⟨ns,rfl,q⟩:=h
  have hu:=z4f hr
  refine ⟨_,(z0e (z1d (i:=1) sc_law.nd rfl (Or.inr rfl) (de_callC G__law_draws (hr.mono (by decide)) rfl E__law_draws.g E__law_draws.F.kp E__law_draws.b z0w (pv 0) (z0a z0k (z0a z0k z0g))))
   (z0e (z1d (i:=2) sc_law.nd rfl (Or.inl rfl) (z0v G__law_names (hr.mono (by decide)) rfl E__law_names.g E__law_names.F.kp E__law_names.b z0w (z0a (z3e (i:=1) G__law_pop (hr.mono (by decide)) rfl E__law_pop.g E__law_pop.F.kp E__law_pop.b z0w (da_o (pv 1) z6i)) z0g)))
   (z0e (y4k (j:=3) ["_law_k"] ["_law_script","_law_draws_here","_law_names_here","_law_some","_law_beside","_law_ferry_here","","_law_due","_law_handed","_law_one","_law_bad"] sc_law.nd rfl rfl rfl (show CScopeG (z0c s_law) ["_law_script","_law_draws_here","_law_names_here","_law_some","_law_beside","_law_ferry_here","_law_k","_law_due","_law_handed","_law_one","_law_bad"] ["_law_k"] _ _ from ⟨rfl,by decide +kernel,by decide +kernel,by decide +kernel,by decide +kernel⟩) (z2q rfl T.z_range (z0a z0k z0g)) (fun _ _ _ _ _=>(z2j (i:=0) (by decide) (show List.Nodup (["_law_k","_law_script","_law_draws_here","_law_names_here","_law_some","_law_beside","_law_ferry_here","","_law_due","_law_handed","_law_one","_law_bad"]:List Str) from by decide +kernel) rfl (Or.inl rfl))) (fun _ _ _ _ _=>z7i) (fun _ _ _ _ _=>(z3e (i:=2) G__law_pop (hr.mono (by decide)) rfl E__law_pop.g E__law_pop.F.kp E__law_pop.b z0w (da_o (pv 2) z6i))))
   (z0e (z1d (i:=4) sc_law.nd rfl (Or.inl rfl) (z3e (i:=1) G__law_ferry (hr.mono (by decide)) rfl E__law_ferry.g E__law_ferry.F.kp E__law_ferry.b z0w (da_v (dv 2) (da_o (pv 1) (da_v (z0s z1p z1r (z0y z2u z2l (pv 3) z0k (fun _ _=>rfl)) z0k) z6i)))))
   (z0e (z1d (i:=5) sc_law.nd rfl (Or.inl rfl) (z3e (i:=1) G__law_ferry (hr.mono (by decide)) rfl E__law_ferry.g E__law_ferry.F.kp E__law_ferry.b z0w (da_v (dv 2) (da_o (pv 1) (da_v (z0s z1p z1r (z0y z2u z2l (pv 3) z0k (fun _ _=>rfl)) z0k) z6i)))))
   (z0e (z2t PassesOwn.never rfl (z2q rfl T.z_range (z0a (z0s z1p z1r (z0y z2u z2l (pv 3) z0k (fun _ _=>rfl)) z0k) z0g)) (z1i (i:=6) sc_law.nd rfl (Or.inl rfl)) (z0i (z1d (i:=5) sc_law.nd rfl (Or.inl rfl) (z0v G__law_bent_ferry (hr.mono (by decide)) rfl E__law_bent_ferry.g E__law_bent_ferry.F.kp E__law_bent_ferry.b z0w (z0a (dv 5) (z0a (z0y z2u z2l (pv 3) (z0s z3l z3k z0k (dv 6)) (fun _ _=>rfl)) z0g))))))
   (z0e (z1d (i:=7) sc_law.nd rfl (Or.inl rfl) (z0v G__law_due_ferry (hr.mono (by decide)) rfl E__law_due_ferry.g E__law_due_ferry.F.kp E__law_due_ferry.b z0w (z0a (dv 5) z0g)))
   (z0e (z1d (i:=8) sc_law.nd rfl (Or.inl rfl) (z0v G__law_copy_ferry (hr.mono (by decide)) rfl E__law_copy_ferry.g E__law_copy_ferry.F.kp E__law_copy_ferry.b z0w (z0a (dv 5) z0g)))
   (z0e (z2t PassesOwn.never rfl (z2q rfl T.z_range (z0a z0k z0g)) (z1i (i:=6) sc_law.nd rfl (Or.inl rfl)) (z0e (z2t PassesOwn.never rfl (z2q rfl T.z_range (z0a z0k z0g)) (z1i (i:=9) sc_law.nd rfl (Or.inl rfl)) (z0i (z2e (z1k (y2w hu) z4h (z0v G__law_refused (hr.mono (by decide)) rfl E__law_refused.g E__law_refused.F.kp E__law_refused.b z0w (z0a (dv 8) (z0a (dv 4) (z0a (dv 9) z0g)))) (dv 7) (z0p _)) (z0i (z0z z9b)) z1a)))
   (z0i (z2e (z1k (y2w hu) z4h (z0v G__law_refused (hr.mono (by decide)) rfl E__law_refused.g E__law_refused.F.kp E__law_refused.b z0w (z0a (dv 8) (z0a (dv 4) (z0a z0k z0g)))) (de_ix z2u z2l (z1c (z0a (dv 7) (z0a (z1c (z0a z1g (z0a z1g z0g))) z0g))) (z4y cs_int z8m rfl T.z_int PyProof.Rows.boot_int (z0a (y5i (z9m hu) z3p (pv 7) (z1c z0g) (z0p _)) z0g)) (fun _ _=>rfl)) (z0p _)) (z0i (z0z z9b)) z1a))))
   (z0e (z1d (i:=10) sc_law.nd rfl (Or.inl rfl) (z1c (z0a (z3a (z0a z1g (z0a (z1c (z0a (z3a (z0a z1g (z0a (z1c z0g) z0g))) (z0a (z3a (z0a z1g (z0a (z1c z0g) z0g))) z0g))) z0g))) z0g)))
   (z0e (z2e (z1k (y2w hu) z4h (z0v G__law_refused (hr.mono (by decide)) rfl E__law_refused.g E__law_refused.F.kp E__law_refused.b z0w (z0a (dv 8) (z0a (dv 10) (z0a z0k z0g)))) (de_ix z2u z2l (z1c (z0a (dv 7) (z0a (z1c (z0a z1g (z0a z1g z0g))) z0g))) (z4y cs_int z8m rfl T.z_int PyProof.Rows.boot_int (z0a (y5i (z9m hu) z3p (pv 7) (z1c z0g) (z0p _)) z0g)) (fun _ _=>rfl)) (z0p _)) (z0i (z0z z9b)) z1a)
   (z0e (z2e (z1k (y2w hu) z4h (z0v G__law_refused (hr.mono (by decide)) rfl E__law_refused.g E__law_refused.F.kp E__law_refused.b z0w (z0a (dv 8) (z0a (dv 10) (z0a z0k z0g)))) (z1c (z0a z1g (z0a z1g z0g))) (z0p _)) (z0i (z0z z9b)) z1a)
   (z0e (z2e (dt_w (y6j (y0y (z9m hu) z3p (pv 7) (z1c z0g) (z0p _)) (y1u (z1k os_notN y4s (z0v G_look_ferry (hr.mono (by decide)) rfl E_look_ferry.g E_look_ferry.F.kp E_look_ferry.b z0w (z0a (dv 8) z0g)) de_non (z0p _))))) (z0i (z0z z9b)) z1a)
   (z0i (z0z (y5i (z9m hu) z3p (pv 8) (dv 5) (z0p _))))))))))))))))),?_⟩
  have sz:=z0u
  walk_at "vd"
  refine ⟨ns,2,80,rfl,by omega,by omega,fun ms=>?_⟩
  walk_at "vd"
  intro y ms
  refine ⟨y,rfl,fun zs hz hn=>?_⟩
  walk_at "vd"
  refine ⟨by decide,by decide,fun r acc δ1=>∃ (ms xs:List Int),acc=xs.map .int∧xs.length+r.length=5∧δ1=[.sc K ns,.ob false (.lst (ms.map .int)),.ob false (.lst (zs.map .str)),.no,.no,.no,.no,.no,.no,.no,.no],⟨ms,[],rfl,rfl,rfl⟩,?_,?_⟩
  ·rintro d r acc δ1 ⟨ms,xs,rfl,hl,rfl⟩
   walk_at "vd"
   unfold dYes
   dsimp only
   rw [if_pos rfl]
   walk_at "vd"
   intro x ms'
   have hl':xs.length≤5:=by omega
   exact ⟨by simp;omega,ms',xs ++ [x],by simp,by simp at hl ⊢;omega,rfl⟩
  ·rintro acc δ1 ⟨ms,xs,rfl,hl,rfl⟩
   have hl:xs.length=5:=hl
   have aI:∀ i:Int,0≤i→i < 5→∃ x:Int,atI (xs.map D.int) i=some (.int x):=fun i h0 h1=>by
    obtain ⟨d,hd,e⟩:=z5s (xs:=xs.map D.int) (i:=i) h0 (by simp;omega)
    obtain ⟨x,_,rfl⟩:=List.mem_map.mp hd
    exact ⟨x,e⟩
   walk_at "vd"
   obtain ⟨x0,e0⟩:=aI 0 (by decide) (by decide)
   refine ⟨_,e0,?_⟩
   walk_at "vd"
   have b1:=z3d (a:=x0) (b:=3) (by decide)
   have b2:=z3c (a:=x0) (b:=3) (by decide)
   refine ⟨by decide,zs,ms,_,rfl,b1,by omega,hz,hn,fun bs ms o1=>?_⟩
   walk_at "vd"
   obtain ⟨x1,e1⟩:=aI 1 (by decide) (by decide)
   refine ⟨_,e1,?_⟩
   walk_at "vd"
   have b3:=z3d (a:=x1) (b:=7) (by decide)
   have b4:=z3c (a:=x1) (b:=7) (by decide)
   refine ⟨by decide,zs,ms,_,rfl,b3,by omega,hz,hn,fun fs0 ms o2=>?_⟩
   walk_at "vd"
   obtain ⟨x2,e2⟩:=aI 2 (by decide) (by decide)
   refine ⟨_,e2,?_⟩
   walk_at "vd"
   have b5:=z3d (a:=x2) (b:=3) (by decide)
   have b6:=z3c (a:=x2) (b:=3) (by decide)
   generalize x2 % 3=m at b5 b6
   obtain ⟨m,rfl⟩:=Int.eq_ofNat_of_zero_le b5
   refine ⟨by decide,by omega,by omega,?_⟩
   rw [Int.toNat_natCast]
   refine y4t [6] (fun i δ=>∃ (b:Bool) (fs:List (Str × List Part)),FerB i fs∧i≤2∧δ=[.sc K ns,.ob false (.lst (ms.map .int)),.fz (.lst (zs.map .str)),.ob false (.lst (xs.map .int)),.ob false (.lst (bs.map z0x)),rsl b (.lst (fs.map z0x)),.no,.no,.no,.no,.no]) ⟨true,fs0,o2.b,by omega,rfl⟩ ?_ ?_
   ·rintro i δ hi ⟨b,fs,fb,hi2,rfl⟩
    obtain ⟨x3,e3⟩:=aI (3+(i:Int)) (by omega) (by omega)
    refine (fun hh=>by cases b <;> walk_at "vd" <;> exact hh) ?_
    refine ⟨_,e3,i,fs,x3,rfl,fb,by omega,fun b' gs g1=>?_⟩
    cases b' <;> walk_at "vd"
    ·exact ⟨false,gs,g1,by omega,rfl⟩
    ·exact ⟨true,gs,g1,by omega,rfl⟩
   ·rintro δ ⟨b,fs,fb,hi2,rfl⟩
    have fx:=fb.x hi2
    have bx:=o1.x
    have bd:=o1.due
    have fl:=fx.len
    refine (fun hh=>by cases b <;> walk_at "vd" <;> exact hh) ?_
    refine ⟨fs,rfl,by omega,fun r hr=>by have:=(fx.ok r hr).2.2.1;omega,?_⟩
    walk_at "vd"
    refine ⟨fs,rfl,by omega,fun r hr=>⟨by have:=(fx.ok r hr).2.2.1;omega,by have:=(fx.ok r hr).2.1;omega⟩,?_⟩
    walk_at "vd"
    have hk:=y0p fs
    have ask:∀ k:Int,0≤k→k < 5→z9j (askF fs bs k)=dueS (dueF fs):=fun k h0 h5=>by
     have hb:=z2b bd
     rw [← hk]
     unfold askF
     rw [hb]
     split
     ·cases dueK fs <;> rfl
     ·split
      ·rfl
      ·rw [if_neg (by omega)]
    have sb:=y0u (dueS (dueF fs))
    refine ⟨by decide,by decide,?_⟩
    refine y4t [6,9] (fun i δ=>∃ b:Bool,δ=[.sc K ns,.ob false (.lst (ms.map .int)),.fz (.lst (zs.map .str)),.ob false (.lst (xs.map .int)),rsl b (.lst (bs.map z0x)),.fz (.lst (fs.map z0x)),.no,rsl b (.lst ((dueS (dueF fs)).map .str)),rsl b (.lst (fs.map z0x)),.no,.no]) ⟨true,rfl⟩ ?_ ?_
    ·rintro i δ hi ⟨b,rfl⟩
     walk_at "vd"
     refine ⟨by decide,by decide,?_⟩
     refine y4t [9] (fun j δ=>∃ b:Bool,δ=[.sc K ns,.ob false (.lst (ms.map .int)),.fz (.lst (zs.map .str)),.ob false (.lst (xs.map .int)),rsl b (.lst (bs.map z0x)),.fz (.lst (fs.map z0x)),.fz (.int (i:Int)),rsl b (.lst ((dueS (dueF fs)).map .str)),rsl b (.lst (fs.map z0x)),.no,.no]) ⟨b,rfl⟩ ?_ ?_
     ·rintro j δ hj ⟨b,rfl⟩
      have hj:j < 5:=hj
      refine (fun hh=>by cases b <;> walk_at "vd" <;> exact hh) ?_
      refine ⟨fs,bs,_,rfl,fx,bx,by omega,by omega,?_⟩
      rw [ask _ (by omega) (by omega)]
      walk_at "vd"
      refine y6k rfl ?_
      walk_at "vd"
      exact ⟨false,rfl⟩
     ·rintro δ ⟨b,rfl⟩
      refine (fun hh=>by cases b <;> walk_at "vd" <;> exact hh) ?_
      refine ⟨fs,bs,5,rfl,fx,bx,by omega,by omega,?_⟩
      walk_at "vd"
      refine ⟨by omega,by omega,by omega,_,pickL fs ["none","a"],y6k (ask5 fs bs) ?_⟩
      walk_at "vd"
      exact ⟨false,rfl⟩
    ·rintro δ ⟨b,rfl⟩
     refine (fun hh=>by cases b <;> walk_at "vd" <;> exact hh) ?_
     refine ⟨by omega,by omega,by omega,by omega,by omega,by omega,by omega,?_⟩
     refine ⟨fs,badF,2,rfl,fx,bad_x,by omega,by omega,?_⟩
     walk_at "vd"
     refine ⟨by omega,by omega,by omega,_,pickL fs ["stars","b"],y6k (ask2 fs) ?_⟩
     walk_at "vd"
     refine ⟨fs,badF,3,rfl,fx,bad_x,by omega,by omega,?_⟩
     rw [ask3]
     walk_at "vd"
     refine ⟨by omega,y6k (ss:=["stars","b"]) (tt:=["stars","b"]) rfl ?_⟩
     walk_at "vd"
     have ef:fEqL (D.lst (fs.map z0x)) (D.lst (fs.map z0x)) fun b d=>Qd b d [.no]:=⟨_,_,rfl,rfl,.inr ⟨rfl,y0f fs,Nat.le_trans (z9w fs fun r hr=>(fx.ok r hr).2.2.1) (by decide),q⟩⟩
     refine ⟨by omega,ite2 (fun he=>?_) fun _=>ef⟩
     have hd:dueF fs=none:=by
      cases h:dueF fs with
      |none=>rfl
      |some o=>rw [h] at he;obtain ⟨b,n⟩:=o;cases b <;> cases he
     have fw:=fx.w hd
     refine ⟨fs,rfl,by omega,fw.nd,fun r hr=>⟨by have:=(fw.ok r hr).sz;omega,(fw.ok r hr).st⟩,?_⟩
     walk_at "vd"
     exact ef
end
open PySem L2 VL PyProof.Rows
@[elab_as_elim] theorem lnS {α:Type _}{P:List α→Prop}{n:Nat}(us:List α) (h:us.length=n+1) (k:∀ a r,r.length=n→P (a::r)):P us:=by
 cases us with
 |nil=>cases h
 |cons a r=>exact k a r (Nat.succ.inj h)
@[elab_as_elim] theorem ln0 {α:Type _}{P:List α→Prop}(us:List α) (h:us.length=0) (k:P []):P us:=by
 cases us with
 |nil=>exact k
 |cons a r=>cases h
@[elab_as_elim] theorem ln1 {α:Type _}{P:List α→Prop}(us:List α) (h:us.length=1) (k:∀ a,P [a]):P us :=
 lnS us h fun a r h=>ln0 (P:=fun r=>P (a::r)) r h (k a)
@[elab_as_elim] theorem ln2 {α:Type _}{P:List α→Prop}(us:List α) (h:us.length=2) (k:∀ a b,P [a,b]):P us :=
 lnS us h fun a r h=>ln1 (P:=fun r=>P (a::r)) r h (k a)
@[elab_as_elim] theorem ln3 {α:Type _}{P:List α→Prop}(us:List α) (h:us.length=3) (k:∀ a b c,P [a,b,c]):P us :=
 lnS us h fun a r h=>ln2 (P:=fun r=>P (a::r)) r h (k a)
@[elab_as_elim] theorem ln4 {α:Type _}{P:List α→Prop}(us:List α) (h:us.length=4) (k:∀ a b c d,P [a,b,c,d]):P us :=
 lnS us h fun a r h=>ln3 (P:=fun r=>P (a::r)) r h (k a)
@[elab_as_elim] theorem ln5 {α:Type _}{P:List α→Prop}(us:List α) (h:us.length=5) (k:∀ a b c d e,P [a,b,c,d,e]):P us :=
 lnS us h fun a r h=>ln4 (P:=fun r=>P (a::r)) r h (k a)
def initOf (K:PySem.W.Frag) (C:Addr):Option Addr:=match K.lookup C with
 |some ⟨_,_,.cls k,_⟩=>(match PySem.W.nsIn K k.ns "__init__" with|some (some (.ref f))=>some f|_=>none)
 |_=>none
theorem xr_mk {K:PySem.W.Frag}{h:Heap}{mg:Str→Option Value}{CF CT CN CS Ct Cp Ck fT fN fS:Addr}{od_Twice an_Twice:Option Addr}{sl_Twice:Array (Option Value)}{kV_Twice dc_Twice pm_Twice cd_Twice ct_Twice:Value}{od_NoName an_NoName:Option Addr}{sl_NoName:Array (Option Value)}{kV_NoName dc_NoName pm_NoName cd_NoName ct_NoName:Value}{od_Stars an_Stars:Option Addr}{sl_Stars:Array (Option Value)}{kV_Stars dc_Stars pm_Stars cd_Stars ct_Stars:Value}(X:K.In h) (G:h.Ns mainGlobals mg)
  (z_ValueError:PySem.W.nsIn K mainGlobals "ValueError" = some none)
  (g_FerryError:PySem.W.nsIn K mainGlobals "FerryError" = some (some (.ref CF)))
  (g_Twice:PySem.W.nsIn K mainGlobals "Twice" = some (some (.ref CT)))
  (g_NoName:PySem.W.nsIn K mainGlobals "NoName" = some (some (.ref CN)))
  (g_Stars:PySem.W.nsIn K mainGlobals "Stars" = some (some (.ref CS)))
  (g_NoText:PySem.W.nsIn K mainGlobals "NoText" = some (some (.ref Ct)))
  (g_NoPort:PySem.W.nsIn K mainGlobals "NoPort" = some (some (.ref Cp)))
  (g_Taken:PySem.W.nsIn K mainGlobals "Taken" = some (some (.ref Ck)))
  (q_FerryError:fxIn K CF=true)
  (u_Twice:initOf K CT=some fT)
  (x_Twice:xcIn K CT (.ref CF::mroV) fT=true) (l_Twice:K.lookup fT=some ⟨.type "function",od_Twice,.func (PySem.W.fnOf "__init__" "Twice.__init__" (z0o i_Twice) (z0n i_Twice) (z0c i_Twice) .none kV_Twice dc_Twice pm_Twice an_Twice cd_Twice ct_Twice),sl_Twice⟩) (c_Twice:PySem.W.codeIn K cd_Twice "Twice.__init__" = true) (k_Twice:PySem.W.keepIn K (.ref fT)=true) (kc_Twice:PySem.W.keepIn K (.ref CT)=true)
  (u_NoName:initOf K CN=some fN)
  (x_NoName:xcIn K CN (.ref CF::mroV) fN=true) (l_NoName:K.lookup fN=some ⟨.type "function",od_NoName,.func (PySem.W.fnOf "__init__" "NoName.__init__" (z0o i_NoName) (z0n i_NoName) (z0c i_NoName) .none kV_NoName dc_NoName pm_NoName an_NoName cd_NoName ct_NoName),sl_NoName⟩) (c_NoName:PySem.W.codeIn K cd_NoName "NoName.__init__" = true) (k_NoName:PySem.W.keepIn K (.ref fN)=true) (kc_NoName:PySem.W.keepIn K (.ref CN)=true)
  (u_Stars:initOf K CS=some fS)
  (x_Stars:xcIn K CS (.ref CF::mroV) fS=true) (l_Stars:K.lookup fS=some ⟨.type "function",od_Stars,.func (PySem.W.fnOf "__init__" "Stars.__init__" (z0o i_Stars) (z0n i_Stars) (z0c i_Stars) .none kV_Stars dc_Stars pm_Stars an_Stars cd_Stars ct_Stars),sl_Stars⟩) (c_Stars:PySem.W.codeIn K cd_Stars "Stars.__init__" = true) (k_Stars:PySem.W.keepIn K (.ref fS)=true) (kc_Stars:PySem.W.keepIn K (.ref CS)=true)
  (n_Twice:∀ t:Option Kd,PySem.W.kitOne K (tyK CT CN CS t) (.ref CT)=some (isK t .tw))
  (n_NoName:∀ t:Option Kd,PySem.W.kitOne K (tyK CT CN CS t) (.ref CN)=some (isK t .nn))
  (n_Stars:∀ t:Option Kd,PySem.W.kitOne K (tyK CT CN CS t) (.ref CS)=some (isK t .st))
  (n_NoText:∀ t:Option Kd,PySem.W.kitOne K (tyK CT CN CS t) (.ref Ct)=some (false))
  (n_NoPort:∀ t:Option Kd,PySem.W.kitOne K (tyK CT CN CS t) (.ref Cp)=some (false))
  (n_Taken:∀ t:Option Kd,PySem.W.kitOne K (tyK CT CN CS t) (.ref Ck)=some (false))
  (n_ValueError:∀ t:Option Kd,PySem.W.kitOne K (tyK CT CN CS t) (.type "ValueError")=some (t.isSome))
  : ∃ CF CT CN CS Ct Cp Ck,XR K mg CF CT CN CS Ct Cp Ck:=by
 exact ⟨_,_,_,_,_,_,_,PySem.W.mg_none_of X G z_ValueError,PySem.W.mg_of X G g_FerryError,q_FerryError,PySem.W.mg_of X G g_Twice,PySem.W.mg_of X G g_NoName,PySem.W.mg_of X G g_Stars,PySem.W.mg_of X G g_NoText,PySem.W.mg_of X G g_NoPort,PySem.W.mg_of X G g_Taken,⟨_,_,_,_,x_Twice,y2k (st:=i_Twice) l_Twice c_Twice k_Twice,.all fun us hl=>ln2 us hl fun _ _=>rfl,l_Twice⟩,⟨_,_,_,_,x_NoName,y2k (st:=i_NoName) l_NoName c_NoName k_NoName,.all fun us hl=>ln2 us hl fun _ _=>rfl,l_NoName⟩,⟨_,_,_,_,x_Stars,y2k (st:=i_Stars) l_Stars c_Stars k_Stars,.all fun us hl=>ln2 us hl fun _ _=>rfl,l_Stars⟩,kc_Twice,kc_NoName,kc_Stars,n_Twice,n_NoName,n_Stars,n_NoText,n_NoPort,n_Taken,n_ValueError⟩
set_option maxHeartbeats 0 in
theorem all_mk {K:PySem.W.Frag}{h:Heap}{mg:Str→Option Value}{tk_TEXT_SIGN:Tok}{tk_STAR:Tok}(X:K.In h) (G:h.Ns mainGlobals mg) {f1 f2 f3 f4 f5 f6 f7 f8 f9 f10 f11 f12 f13 f14 f15 f16 f17 f18 f19 f20 f21 f22 f23 f24 f25 f26 f27 f28 f29 f30 f31 f32 f33 f34 f35 f36 f37 f38 f39 f40 f41 f42 f43 f44 f45 f46 f47 f48 f49:Addr}{od1 an1 od2 an2 od3 an3 od4 an4 od5 an5 od6 an6 od7 an7 od8 an8 od9 an9 od10 an10 od11 an11 od12 an12 od13 an13 od14 an14 od15 an15 od16 an16 od17 an17 od18 an18 od19 an19 od20 an20 od21 an21 od22 an22 od23 an23 od24 an24 od25 an25 od26 an26 od27 an27 od28 an28 od29 an29 od30 an30 od31 an31 od32 an32 od33 an33 od34 an34 od35 an35 od36 an36 od37 an37 od38 an38 od39 an39 od40 an40 od41 an41 od42 an42 od43 an43 od44 an44 od45 an45 od46 an46 od47 an47 od48 an48 od49 an49:Option Addr}{sl1 sl2 sl3 sl4 sl5 sl6 sl7 sl8 sl9 sl10 sl11 sl12 sl13 sl14 sl15 sl16 sl17 sl18 sl19 sl20 sl21 sl22 sl23 sl24 sl25 sl26 sl27 sl28 sl29 sl30 sl31 sl32 sl33 sl34 sl35 sl36 sl37 sl38 sl39 sl40 sl41 sl42 sl43 sl44 sl45 sl46 sl47 sl48 sl49:Array (Option Value)}{oc1 kV1 dc1 pm1 cd1 ct1 oc2 kV2 dc2 pm2 cd2 ct2 oc3 kV3 dc3 pm3 cd3 ct3 oc4 kV4 dc4 pm4 cd4 ct4 oc5 kV5 dc5 pm5 cd5 ct5 oc6 kV6 dc6 pm6 cd6 ct6 oc7 kV7 dc7 pm7 cd7 ct7 oc8 kV8 dc8 pm8 cd8 ct8 oc9 kV9 dc9 pm9 cd9 ct9 oc10 kV10 dc10 pm10 cd10 ct10 oc11 kV11 dc11 pm11 cd11 ct11 oc12 kV12 dc12 pm12 cd12 ct12 oc13 kV13 dc13 pm13 cd13 ct13 oc14 kV14 dc14 pm14 cd14 ct14 oc15 kV15 dc15 pm15 cd15 ct15 oc16 kV16 dc16 pm16 cd16 ct16 oc17 kV17 dc17 pm17 cd17 ct17 oc18 kV18 dc18 pm18 cd18 ct18 oc19 kV19 dc19 pm19 cd19 ct19 oc20 kV20 dc20 pm20 cd20 ct20 oc21 kV21 dc21 pm21 cd21 ct21 oc22 kV22 dc22 pm22 cd22 ct22 oc23 kV23 dc23 pm23 cd23 ct23 oc24 kV24 dc24 pm24 cd24 ct24 oc25 kV25 dc25 pm25 cd25 ct25 oc26 kV26 dc26 pm26 cd26 ct26 oc27 kV27 dc27 pm27 cd27 ct27 oc28 kV28 dc28 pm28 cd28 ct28 oc29 kV29 dc29 pm29 cd29 ct29 oc30 kV30 dc30 pm30 cd30 ct30 oc31 kV31 dc31 pm31 cd31 ct31 oc32 kV32 dc32 pm32 cd32 ct32 oc33 kV33 dc33 pm33 cd33 ct33 oc34 kV34 dc34 pm34 cd34 ct34 oc35 kV35 dc35 pm35 cd35 ct35 oc36 kV36 dc36 pm36 cd36 ct36 oc37 kV37 dc37 pm37 cd37 ct37 oc38 kV38 dc38 pm38 cd38 ct38 oc39 kV39 dc39 pm39 cd39 ct39 oc40 kV40 dc40 pm40 cd40 ct40 oc41 kV41 dc41 pm41 cd41 ct41 oc42 kV42 dc42 pm42 cd42 ct42 oc43 kV43 dc43 pm43 cd43 ct43 oc44 kV44 dc44 pm44 cd44 ct44 oc45 kV45 dc45 pm45 cd45 ct45 oc46 kV46 dc46 pm46 cd46 ct46 oc47 kV47 dc47 pm47 cd47 ct47 oc48 kV48 dc48 pm48 cd48 ct48 oc49 kV49 dc49 pm49 cd49 ct49:Value}
  (a1:PySem.W.nsIn K mainGlobals "all_parts" = some (some (.ref f1))) (l1:K.lookup f1=some ⟨oc1,od1,.func (PySem.W.fnOf "all_parts" "all_parts" (z0o s_all_parts) (z0n s_all_parts) (z0c s_all_parts) .none kV1 dc1 pm1 an1 cd1 ct1),sl1⟩) (c1:PySem.W.codeIn K cd1 "all_parts" = true) (k1:PySem.W.keepIn K (.ref f1)=true)
  (a2:PySem.W.nsIn K mainGlobals "tuples_beneath" = some (some (.ref f2))) (l2:K.lookup f2=some ⟨oc2,od2,.func (PySem.W.fnOf "tuples_beneath" "tuples_beneath" (z0o s_tuples_beneath) (z0n s_tuples_beneath) (z0c s_tuples_beneath) .none kV2 dc2 pm2 an2 cd2 ct2),sl2⟩) (c2:PySem.W.codeIn K cd2 "tuples_beneath" = true) (k2:PySem.W.keepIn K (.ref f2)=true)
  (a3:PySem.W.nsIn K mainGlobals "tuples_with_paths" = some (some (.ref f3))) (l3:K.lookup f3=some ⟨oc3,od3,.func (PySem.W.fnOf "tuples_with_paths" "tuples_with_paths" (z0o s_tuples_with_paths) (z0n s_tuples_with_paths) (z0c s_tuples_with_paths) .none kV3 dc3 pm3 an3 cd3 ct3),sl3⟩) (c3:PySem.W.codeIn K cd3 "tuples_with_paths" = true) (k3:PySem.W.keepIn K (.ref f3)=true)
  (a4:PySem.W.nsIn K mainGlobals "sign_of" = some (some (.ref f4))) (l4:K.lookup f4=some ⟨oc4,od4,.func (PySem.W.fnOf "sign_of" "sign_of" (z0o s_sign_of) (z0n s_sign_of) (z0c s_sign_of) .none kV4 dc4 pm4 an4 cd4 ct4),sl4⟩) (c4:PySem.W.codeIn K cd4 "sign_of" = true) (k4:PySem.W.keepIn K (.ref f4)=true)
  (a5:PySem.W.nsIn K mainGlobals "word" = some (some (.ref f5))) (l5:K.lookup f5=some ⟨oc5,od5,.func (PySem.W.fnOf "word" "word" (z0o s_word) (z0n s_word) (z0c s_word) .none kV5 dc5 pm5 an5 cd5 ct5),sl5⟩) (c5:PySem.W.codeIn K cd5 "word" = true) (k5:PySem.W.keepIn K (.ref f5)=true)
  (a6:PySem.W.nsIn K mainGlobals "patterns_within" = some (some (.ref f6))) (l6:K.lookup f6=some ⟨oc6,od6,.func (PySem.W.fnOf "patterns_within" "patterns_within" (z0o s_patterns_within) (z0n s_patterns_within) (z0c s_patterns_within) .none kV6 dc6 pm6 an6 cd6 ct6),sl6⟩) (c6:PySem.W.codeIn K cd6 "patterns_within" = true) (k6:PySem.W.keepIn K (.ref f6)=true)
  (a7:PySem.W.nsIn K mainGlobals "signs" = some (some (.ref f7))) (l7:K.lookup f7=some ⟨oc7,od7,.func (PySem.W.fnOf "signs" "signs" (z0o s_signs) (z0n s_signs) (z0c s_signs) .none kV7 dc7 pm7 an7 cd7 ct7),sl7⟩) (c7:PySem.W.codeIn K cd7 "signs" = true) (k7:PySem.W.keepIn K (.ref f7)=true)
  (a8:PySem.W.nsIn K mainGlobals "bare" = some (some (.ref f8))) (l8:K.lookup f8=some ⟨oc8,od8,.func (PySem.W.fnOf "bare" "bare" (z0o s_bare) (z0n s_bare) (z0c s_bare) .none kV8 dc8 pm8 an8 cd8 ct8),sl8⟩) (c8:PySem.W.codeIn K cd8 "bare" = true) (k8:PySem.W.keepIn K (.ref f8)=true)
  (a9:PySem.W.nsIn K mainGlobals "firsts" = some (some (.ref f9))) (l9:K.lookup f9=some ⟨oc9,od9,.func (PySem.W.fnOf "firsts" "firsts" (z0o s_firsts) (z0n s_firsts) (z0c s_firsts) .none kV9 dc9 pm9 an9 cd9 ct9),sl9⟩) (c9:PySem.W.codeIn K cd9 "firsts" = true) (k9:PySem.W.keepIn K (.ref f9)=true)
  (a10:PySem.W.nsIn K mainGlobals "lasts" = some (some (.ref f10))) (l10:K.lookup f10=some ⟨oc10,od10,.func (PySem.W.fnOf "lasts" "lasts" (z0o s_lasts) (z0n s_lasts) (z0c s_lasts) .none kV10 dc10 pm10 an10 cd10 ct10),sl10⟩) (c10:PySem.W.codeIn K cd10 "lasts" = true) (k10:PySem.W.keepIn K (.ref f10)=true)
  (a11:PySem.W.nsIn K mainGlobals "link" = some (some (.ref f11))) (l11:K.lookup f11=some ⟨oc11,od11,.func (PySem.W.fnOf "link" "link" (z0o s_link) (z0n s_link) (z0c s_link) .none kV11 dc11 pm11 an11 cd11 ct11),sl11⟩) (c11:PySem.W.codeIn K cd11 "link" = true) (k11:PySem.W.keepIn K (.ref f11)=true)
  (a12:PySem.W.nsIn K mainGlobals "link_row" = some (some (.ref f12))) (l12:K.lookup f12=some ⟨oc12,od12,.func (PySem.W.fnOf "link_row" "link_row" (z0o s_link_row) (z0n s_link_row) (z0c s_link_row) .none kV12 dc12 pm12 an12 cd12 ct12),sl12⟩) (c12:PySem.W.codeIn K cd12 "link_row" = true) (k12:PySem.W.keepIn K (.ref f12)=true)
  (a13:PySem.W.nsIn K mainGlobals "link_all" = some (some (.ref f13))) (l13:K.lookup f13=some ⟨oc13,od13,.func (PySem.W.fnOf "link_all" "link_all" (z0o s_link_all) (z0n s_link_all) (z0c s_link_all) .none kV13 dc13 pm13 an13 cd13 ct13),sl13⟩) (c13:PySem.W.codeIn K cd13 "link_all" = true) (k13:PySem.W.keepIn K (.ref f13)=true)
  (a14:PySem.W.nsIn K mainGlobals "nexts" = some (some (.ref f14))) (l14:K.lookup f14=some ⟨oc14,od14,.func (PySem.W.fnOf "nexts" "nexts" (z0o s_nexts) (z0n s_nexts) (z0c s_nexts) .none kV14 dc14 pm14 an14 cd14 ct14),sl14⟩) (c14:PySem.W.codeIn K cd14 "nexts" = true) (k14:PySem.W.keepIn K (.ref f14)=true)
  (a15:PySem.W.nsIn K mainGlobals "table" = some (some (.ref f15))) (l15:K.lookup f15=some ⟨oc15,od15,.func (PySem.W.fnOf "table" "table" (z0o s_table) (z0n s_table) (z0c s_table) .none kV15 dc15 pm15 an15 cd15 ct15),sl15⟩) (c15:PySem.W.codeIn K cd15 "table" = true) (k15:PySem.W.keepIn K (.ref f15)=true)
  (a16:PySem.W.nsIn K mainGlobals "agrees" = some (some (.ref f16))) (l16:K.lookup f16=some ⟨oc16,od16,.func (PySem.W.fnOf "agrees" "agrees" (z0o s_agrees) (z0n s_agrees) (z0c s_agrees) .none kV16 dc16 pm16 an16 cd16 ct16),sl16⟩) (c16:PySem.W.codeIn K cd16 "agrees" = true) (k16:PySem.W.keepIn K (.ref f16)=true)
  (a17:PySem.W.nsIn K mainGlobals "look_twice" = some (some (.ref f17))) (l17:K.lookup f17=some ⟨oc17,od17,.func (PySem.W.fnOf "look_twice" "look_twice" (z0o s_look_twice) (z0n s_look_twice) (z0c s_look_twice) .none kV17 dc17 pm17 an17 cd17 ct17),sl17⟩) (c17:PySem.W.codeIn K cd17 "look_twice" = true) (k17:PySem.W.keepIn K (.ref f17)=true)
  (a18:PySem.W.nsIn K mainGlobals "look_names" = some (some (.ref f18))) (l18:K.lookup f18=some ⟨oc18,od18,.func (PySem.W.fnOf "look_names" "look_names" (z0o s_look_names) (z0n s_look_names) (z0c s_look_names) .none kV18 dc18 pm18 an18 cd18 ct18),sl18⟩) (c18:PySem.W.codeIn K cd18 "look_names" = true) (k18:PySem.W.keepIn K (.ref f18)=true)
  (a19:PySem.W.nsIn K mainGlobals "look" = some (some (.ref f19))) (l19:K.lookup f19=some ⟨oc19,od19,.func (PySem.W.fnOf "look" "look" (z0o s_look) (z0n s_look) (z0c s_look) .none kV19 dc19 pm19 an19 cd19 ct19),sl19⟩) (c19:PySem.W.codeIn K cd19 "look" = true) (k19:PySem.W.keepIn K (.ref f19)=true)
  (a20:PySem.W.nsIn K mainGlobals "tables" = some (some (.ref f20))) (l20:K.lookup f20=some ⟨oc20,od20,.func (PySem.W.fnOf "tables" "tables" (z0o s_tables) (z0n s_tables) (z0c s_tables) .none kV20 dc20 pm20 an20 cd20 ct20),sl20⟩) (c20:PySem.W.codeIn K cd20 "tables" = true) (k20:PySem.W.keepIn K (.ref f20)=true)
  (a21:PySem.W.nsIn K mainGlobals "holds" = some (some (.ref f21))) (l21:K.lookup f21=some ⟨oc21,od21,.func (PySem.W.fnOf "holds" "holds" (z0o s_holds) (z0n s_holds) (z0c s_holds) .none kV21 dc21 pm21 an21 cd21 ct21),sl21⟩) (c21:PySem.W.codeIn K cd21 "holds" = true) (k21:PySem.W.keepIn K (.ref f21)=true)
  (a22:PySem.W.nsIn K mainGlobals "faults" = some (some (.ref f22))) (l22:K.lookup f22=some ⟨oc22,od22,.func (PySem.W.fnOf "faults" "faults" (z0o s_faults) (z0n s_faults) (z0c s_faults) .none kV22 dc22 pm22 an22 cd22 ct22),sl22⟩) (c22:PySem.W.codeIn K cd22 "faults" = true) (k22:PySem.W.keepIn K (.ref f22)=true)
  (a23:PySem.W.nsIn K mainGlobals "is_paper" = some (some (.ref f23))) (l23:K.lookup f23=some ⟨oc23,od23,.func (PySem.W.fnOf "is_paper" "is_paper" (z0o s_is_paper) (z0n s_is_paper) (z0c s_is_paper) .none kV23 dc23 pm23 an23 cd23 ct23),sl23⟩) (c23:PySem.W.codeIn K cd23 "is_paper" = true) (k23:PySem.W.keepIn K (.ref f23)=true)
  (a24:PySem.W.nsIn K mainGlobals "stars" = some (some (.ref f24))) (l24:K.lookup f24=some ⟨oc24,od24,.func (PySem.W.fnOf "stars" "stars" (z0o s_stars) (z0n s_stars) (z0c s_stars) .none kV24 dc24 pm24 an24 cd24 ct24),sl24⟩) (c24:PySem.W.codeIn K cd24 "stars" = true) (k24:PySem.W.keepIn K (.ref f24)=true)
  (a25:PySem.W.nsIn K mainGlobals "look_ferry" = some (some (.ref f25))) (l25:K.lookup f25=some ⟨oc25,od25,.func (PySem.W.fnOf "look_ferry" "look_ferry" (z0o s_look_ferry) (z0n s_look_ferry) (z0c s_look_ferry) .none kV25 dc25 pm25 an25 cd25 ct25),sl25⟩) (c25:PySem.W.codeIn K cd25 "look_ferry" = true) (k25:PySem.W.keepIn K (.ref f25)=true)
  (a26:PySem.W.nsIn K mainGlobals "jobs" = some (some (.ref f26))) (l26:K.lookup f26=some ⟨oc26,od26,.func (PySem.W.fnOf "jobs" "jobs" (z0o s_jobs) (z0n s_jobs) (z0c s_jobs) .none kV26 dc26 pm26 an26 cd26 ct26),sl26⟩) (c26:PySem.W.codeIn K cd26 "jobs" = true) (k26:PySem.W.keepIn K (.ref f26)=true)
  (a27:PySem.W.nsIn K mainGlobals "carry" = some (some (.ref f27))) (l27:K.lookup f27=some ⟨oc27,od27,.func (PySem.W.fnOf "carry" "carry" (z0o s_carry) (z0n s_carry) (z0c s_carry) .none kV27 dc27 pm27 an27 cd27 ct27),sl27⟩) (c27:PySem.W.codeIn K cd27 "carry" = true) (k27:PySem.W.keepIn K (.ref f27)=true)
  (a28:PySem.W.nsIn K mainGlobals "carried" = some (some (.ref f28))) (l28:K.lookup f28=some ⟨oc28,od28,.func (PySem.W.fnOf "carried" "carried" (z0o s_carried) (z0n s_carried) (z0c s_carried) .none kV28 dc28 pm28 an28 cd28 ct28),sl28⟩) (c28:PySem.W.codeIn K cd28 "carried" = true) (k28:PySem.W.keepIn K (.ref f28)=true)
  (a29:PySem.W.nsIn K mainGlobals "ferried" = some (some (.ref f29))) (l29:K.lookup f29=some ⟨oc29,od29,.func (PySem.W.fnOf "ferried" "ferried" (z0o s_ferried) (z0n s_ferried) (z0c s_ferried) .none kV29 dc29 pm29 an29 cd29 ct29),sl29⟩) (c29:PySem.W.codeIn K cd29 "ferried" = true) (k29:PySem.W.keepIn K (.ref f29)=true)
  (a30:PySem.W.nsIn K mainGlobals "staying_row" = some (some (.ref f30))) (l30:K.lookup f30=some ⟨oc30,od30,.func (PySem.W.fnOf "staying_row" "staying_row" (z0o s_staying_row) (z0n s_staying_row) (z0c s_staying_row) .none kV30 dc30 pm30 an30 cd30 ct30),sl30⟩) (c30:PySem.W.codeIn K cd30 "staying_row" = true) (k30:PySem.W.keepIn K (.ref f30)=true)
  (a31:PySem.W.nsIn K mainGlobals "joined" = some (some (.ref f31))) (l31:K.lookup f31=some ⟨oc31,od31,.func (PySem.W.fnOf "joined" "joined" (z0o s_joined) (z0n s_joined) (z0c s_joined) .none kV31 dc31 pm31 an31 cd31 ct31),sl31⟩) (c31:PySem.W.codeIn K cd31 "joined" = true) (k31:PySem.W.keepIn K (.ref f31)=true)
  (a32:PySem.W.nsIn K mainGlobals "arrives" = some (some (.ref f32))) (l32:K.lookup f32=some ⟨oc32,od32,.func (PySem.W.fnOf "arrives" "arrives" (z0o s_arrives) (z0n s_arrives) (z0c s_arrives) .none kV32 dc32 pm32 an32 cd32 ct32),sl32⟩) (c32:PySem.W.codeIn K cd32 "arrives" = true) (k32:PySem.W.keepIn K (.ref f32)=true)
  (a33:PySem.W.nsIn K mainGlobals "_law_draws" = some (some (.ref f33))) (l33:K.lookup f33=some ⟨oc33,od33,.func (PySem.W.fnOf "_law_draws" "_law_draws" (z0o s__law_draws) (z0n s__law_draws) (z0c s__law_draws) .none kV33 dc33 pm33 an33 cd33 ct33),sl33⟩) (c33:PySem.W.codeIn K cd33 "_law_draws" = true) (k33:PySem.W.keepIn K (.ref f33)=true)
  (a34:PySem.W.nsIn K mainGlobals "_law_pop" = some (some (.ref f34))) (l34:K.lookup f34=some ⟨oc34,od34,.func (PySem.W.fnOf "_law_pop" "_law_pop" (z0o s__law_pop) (z0n s__law_pop) (z0c s__law_pop) .none kV34 dc34 pm34 an34 cd34 ct34),sl34⟩) (c34:PySem.W.codeIn K cd34 "_law_pop" = true) (k34:PySem.W.keepIn K (.ref f34)=true)
  (a35:PySem.W.nsIn K mainGlobals "_law_name" = some (some (.ref f35))) (l35:K.lookup f35=some ⟨oc35,od35,.func (PySem.W.fnOf "_law_name" "_law_name" (z0o s__law_name) (z0n s__law_name) (z0c s__law_name) .none kV35 dc35 pm35 an35 cd35 ct35),sl35⟩) (c35:PySem.W.codeIn K cd35 "_law_name" = true) (k35:PySem.W.keepIn K (.ref f35)=true)
  (a36:PySem.W.nsIn K mainGlobals "_law_names" = some (some (.ref f36))) (l36:K.lookup f36=some ⟨oc36,od36,.func (PySem.W.fnOf "_law_names" "_law_names" (z0o s__law_names) (z0n s__law_names) (z0c s__law_names) .none kV36 dc36 pm36 an36 cd36 ct36),sl36⟩) (c36:PySem.W.codeIn K cd36 "_law_names" = true) (k36:PySem.W.keepIn K (.ref f36)=true)
  (a37:PySem.W.nsIn K mainGlobals "_law_text" = some (some (.ref f37))) (l37:K.lookup f37=some ⟨oc37,od37,.func (PySem.W.fnOf "_law_text" "_law_text" (z0o s__law_text) (z0n s__law_text) (z0c s__law_text) .none kV37 dc37 pm37 an37 cd37 ct37),sl37⟩) (c37:PySem.W.codeIn K cd37 "_law_text" = true) (k37:PySem.W.keepIn K (.ref f37)=true)
  (a38:PySem.W.nsIn K mainGlobals "_law_plain" = some (some (.ref f38))) (l38:K.lookup f38=some ⟨oc38,od38,.func (PySem.W.fnOf "_law_plain" "_law_plain" (z0o s__law_plain) (z0n s__law_plain) (z0c s__law_plain) .none kV38 dc38 pm38 an38 cd38 ct38),sl38⟩) (c38:PySem.W.codeIn K cd38 "_law_plain" = true) (k38:PySem.W.keepIn K (.ref f38)=true)
  (a39:PySem.W.nsIn K mainGlobals "_law_starred" = some (some (.ref f39))) (l39:K.lookup f39=some ⟨oc39,od39,.func (PySem.W.fnOf "_law_starred" "_law_starred" (z0o s__law_starred) (z0n s__law_starred) (z0c s__law_starred) .none kV39 dc39 pm39 an39 cd39 ct39),sl39⟩) (c39:PySem.W.codeIn K cd39 "_law_starred" = true) (k39:PySem.W.keepIn K (.ref f39)=true)
  (a40:PySem.W.nsIn K mainGlobals "_law_ferry" = some (some (.ref f40))) (l40:K.lookup f40=some ⟨oc40,od40,.func (PySem.W.fnOf "_law_ferry" "_law_ferry" (z0o s__law_ferry) (z0n s__law_ferry) (z0c s__law_ferry) .none kV40 dc40 pm40 an40 cd40 ct40),sl40⟩) (c40:PySem.W.codeIn K cd40 "_law_ferry" = true) (k40:PySem.W.keepIn K (.ref f40)=true)
  (a41:PySem.W.nsIn K mainGlobals "_law_stars" = some (some (.ref f41))) (l41:K.lookup f41=some ⟨oc41,od41,.func (PySem.W.fnOf "_law_stars" "_law_stars" (z0o s__law_stars) (z0n s__law_stars) (z0c s__law_stars) .none kV41 dc41 pm41 an41 cd41 ct41),sl41⟩) (c41:PySem.W.codeIn K cd41 "_law_stars" = true) (k41:PySem.W.keepIn K (.ref f41)=true)
  (a42:PySem.W.nsIn K mainGlobals "_law_due_ferry" = some (some (.ref f42))) (l42:K.lookup f42=some ⟨oc42,od42,.func (PySem.W.fnOf "_law_due_ferry" "_law_due_ferry" (z0o s__law_due_ferry) (z0n s__law_due_ferry) (z0c s__law_due_ferry) .none kV42 dc42 pm42 an42 cd42 ct42),sl42⟩) (c42:PySem.W.codeIn K cd42 "_law_due_ferry" = true) (k42:PySem.W.keepIn K (.ref f42)=true)
  (a43:PySem.W.nsIn K mainGlobals "_law_bent_ferry" = some (some (.ref f43))) (l43:K.lookup f43=some ⟨oc43,od43,.func (PySem.W.fnOf "_law_bent_ferry" "_law_bent_ferry" (z0o s__law_bent_ferry) (z0n s__law_bent_ferry) (z0c s__law_bent_ferry) .none kV43 dc43 pm43 an43 cd43 ct43),sl43⟩) (c43:PySem.W.codeIn K cd43 "_law_bent_ferry" = true) (k43:PySem.W.keepIn K (.ref f43)=true)
  (a44:PySem.W.nsIn K mainGlobals "_law_copy_row" = some (some (.ref f44))) (l44:K.lookup f44=some ⟨oc44,od44,.func (PySem.W.fnOf "_law_copy_row" "_law_copy_row" (z0o s__law_copy_row) (z0n s__law_copy_row) (z0c s__law_copy_row) .none kV44 dc44 pm44 an44 cd44 ct44),sl44⟩) (c44:PySem.W.codeIn K cd44 "_law_copy_row" = true) (k44:PySem.W.keepIn K (.ref f44)=true)
  (a45:PySem.W.nsIn K mainGlobals "_law_kind" = some (some (.ref f45))) (l45:K.lookup f45=some ⟨oc45,od45,.func (PySem.W.fnOf "_law_kind" "_law_kind" (z0o s__law_kind) (z0n s__law_kind) (z0c s__law_kind) .none kV45 dc45 pm45 an45 cd45 ct45),sl45⟩) (c45:PySem.W.codeIn K cd45 "_law_kind" = true) (k45:PySem.W.keepIn K (.ref f45)=true)
  (a46:PySem.W.nsIn K mainGlobals "_law_asked" = some (some (.ref f46))) (l46:K.lookup f46=some ⟨oc46,od46,.func (PySem.W.fnOf "_law_asked" "_law_asked" (z0o s__law_asked) (z0n s__law_asked) (z0c s__law_asked) .none kV46 dc46 pm46 an46 cd46 ct46),sl46⟩) (c46:PySem.W.codeIn K cd46 "_law_asked" = true) (k46:PySem.W.keepIn K (.ref f46)=true)
  (a47:PySem.W.nsIn K mainGlobals "_law_refused" = some (some (.ref f47))) (l47:K.lookup f47=some ⟨oc47,od47,.func (PySem.W.fnOf "_law_refused" "_law_refused" (z0o s__law_refused) (z0n s__law_refused) (z0c s__law_refused) .none kV47 dc47 pm47 an47 cd47 ct47),sl47⟩) (c47:PySem.W.codeIn K cd47 "_law_refused" = true) (k47:PySem.W.keepIn K (.ref f47)=true)
  (a48:PySem.W.nsIn K mainGlobals "_law_copy_ferry" = some (some (.ref f48))) (l48:K.lookup f48=some ⟨oc48,od48,.func (PySem.W.fnOf "_law_copy_ferry" "_law_copy_ferry" (z0o s__law_copy_ferry) (z0n s__law_copy_ferry) (z0c s__law_copy_ferry) .none kV48 dc48 pm48 an48 cd48 ct48),sl48⟩) (c48:PySem.W.codeIn K cd48 "_law_copy_ferry" = true) (k48:PySem.W.keepIn K (.ref f48)=true)
  (a49:PySem.W.nsIn K mainGlobals "law" = some (some (.ref f49))) (l49:K.lookup f49=some ⟨oc49,od49,.func (PySem.W.fnOf "law" "law" (z0o s_law) (z0n s_law) (z0c s_law) .none kV49 dc49 pm49 an49 cd49 ct49),sl49⟩) (c49:PySem.W.codeIn K cd49 "law" = true) (k49:PySem.W.keepIn K (.ref f49)=true)
  (z_list:PySem.W.nsIn K mainGlobals "list" = some none)
  (z_reversed:PySem.W.nsIn K mainGlobals "reversed" = some none)
  (z_isinstance:PySem.W.nsIn K mainGlobals "isinstance" = some none)
  (z_str:PySem.W.nsIn K mainGlobals "str" = some none)
  (z_len:PySem.W.nsIn K mainGlobals "len" = some none)
  (z_int:PySem.W.nsIn K mainGlobals "int" = some none)
  (z_bool:PySem.W.nsIn K mainGlobals "bool" = some none)
  (z_range:PySem.W.nsIn K mainGlobals "range" = some none)
  (z_all:PySem.W.nsIn K mainGlobals "all" = some none)
  (z_any:PySem.W.nsIn K mainGlobals "any" = some none)
  (z_zip:PySem.W.nsIn K mainGlobals "zip" = some none)
  (z_tuple:PySem.W.nsIn K mainGlobals "tuple" = some none)
  (z_dict:PySem.W.nsIn K mainGlobals "dict" = some none)
  (z_set:PySem.W.nsIn K mainGlobals "set" = some none)
  (z_enumerate:PySem.W.nsIn K mainGlobals "enumerate" = some none)
  (g_TEXT_SIGN:PySem.W.nsIn K mainGlobals "TEXT_SIGN" = some (some (.str "#" tk_TEXT_SIGN)))
  (g_STAR:PySem.W.nsIn K mainGlobals "STAR" = some (some (.str "*" tk_STAR)))
  (kit:KitOk K) (kts:PySem.W.kitOne K (.type "tuple") (.type "str")=some false) (Y:∃ CF CT CN CS Ct Cp Ck,XR K mg CF CT CN CS Ct Cp Ck) :
  AllE K mg∧∃ f fd,Ent K mg "law" s_law ["_law_script"] f fd:=by
 have T:Zs K mg:=⟨PySem.W.mg_none_of X G z_list,PySem.W.mg_none_of X G z_reversed,PySem.W.mg_none_of X G z_isinstance,PySem.W.mg_none_of X G z_str,PySem.W.mg_none_of X G z_len,PySem.W.mg_none_of X G z_int,PySem.W.mg_none_of X G z_bool,PySem.W.mg_none_of X G z_range,PySem.W.mg_none_of X G z_all,PySem.W.mg_none_of X G z_any,PySem.W.mg_none_of X G z_zip,PySem.W.mg_none_of X G z_tuple,PySem.W.mg_none_of X G z_dict,PySem.W.mg_none_of X G z_set,PySem.W.mg_none_of X G z_enumerate,⟨tk_TEXT_SIGN,PySem.W.mg_of X G g_TEXT_SIGN⟩,⟨tk_STAR,PySem.W.mg_of X G g_STAR⟩,kit⟩
 exact ⟨⟨T,kts,Y,z1b (st:=s_all_parts) (ps:=["row"]) X G (fun _ _ _ _ _ _ us hl=>ln1 us hl fun _=>rfl) a1 l1 c1 k1,z1b (st:=s_tuples_beneath) (ps:=["path","part"]) X G (fun _ _ _ _ _ _ us hl=>ln2 us hl fun _ _=>rfl) a2 l2 c2 k2,z1b (st:=s_tuples_with_paths) (ps:=["paper"]) X G (fun _ _ _ _ _ _ us hl=>ln1 us hl fun _=>rfl) a3 l3 c3 k3,z1b (st:=s_sign_of) (ps:=["part"]) X G (fun _ _ _ _ _ _ us hl=>ln1 us hl fun _=>rfl) a4 l4 c4 k4,z1b (st:=s_word) (ps:=["row"]) X G (fun _ _ _ _ _ _ us hl=>ln1 us hl fun _=>rfl) a5 l5 c5 k5,z1b (st:=s_patterns_within) (ps:=["pattern"]) X G (fun _ _ _ _ _ _ us hl=>ln1 us hl fun _=>rfl) a6 l6 c6 k6,z1b (st:=s_signs) (ps:=["pattern"]) X G (fun _ _ _ _ _ _ us hl=>ln1 us hl fun _=>rfl) a7 l7 c7 k7,z1b (st:=s_bare) (ps:=["pattern"]) X G (fun _ _ _ _ _ _ us hl=>ln1 us hl fun _=>rfl) a8 l8 c8 k8,z1b (st:=s_firsts) (ps:=["pattern"]) X G (fun _ _ _ _ _ _ us hl=>ln1 us hl fun _=>rfl) a9 l9 c9 k9,z1b (st:=s_lasts) (ps:=["pattern"]) X G (fun _ _ _ _ _ _ us hl=>ln1 us hl fun _=>rfl) a10 l10 c10 k10,z1b (st:=s_link) (ps:=["ends","begins","followers"]) X G (fun _ _ _ _ _ _ us hl=>ln3 us hl fun _ _ _=>rfl) a11 l11 c11 k11,z1b (st:=s_link_row) (ps:=["patterns","followers"]) X G (fun _ _ _ _ _ _ us hl=>ln2 us hl fun _ _=>rfl) a12 l12 c12 k12,z1b (st:=s_link_all) (ps:=["pattern","followers"]) X G (fun _ _ _ _ _ _ us hl=>ln2 us hl fun _ _=>rfl) a13 l13 c13 k13,z1b (st:=s_nexts) (ps:=["pattern"]) X G (fun _ _ _ _ _ _ us hl=>ln1 us hl fun _=>rfl) a14 l14 c14 k14,z1b (st:=s_table) (ps:=["pattern"]) X G (fun _ _ _ _ _ _ us hl=>ln1 us hl fun _=>rfl) a15 l15 c15 k15,z1b (st:=s_agrees) (ps:=["told","word"]) X G (fun _ _ _ _ _ _ us hl=>ln2 us hl fun _ _=>rfl) a16 l16 c16 k16,z1b (st:=s_look_twice) (ps:=["rules"]) X G (fun _ _ _ _ _ _ us hl=>ln1 us hl fun _=>rfl) a17 l17 c17 k17,z1b (st:=s_look_names) (ps:=["root","rules"]) X G (fun _ _ _ _ _ _ us hl=>ln2 us hl fun _ _=>rfl) a18 l18 c18 k18,z1b (st:=s_look) (ps:=["form"]) X G (fun _ _ _ _ _ _ us hl=>ln1 us hl fun _=>rfl) a19 l19 c19 k19,z1b (st:=s_tables) (ps:=["rules"]) X G (fun _ _ _ _ _ _ us hl=>ln1 us hl fun _=>rfl) a20 l20 c20 k20,z1b (st:=s_holds) (ps:=["part","known"]) X G (fun _ _ _ _ _ _ us hl=>ln2 us hl fun _ _=>rfl) a21 l21 c21 k21,z1b (st:=s_faults) (ps:=["form","paper"]) X G (fun _ _ _ _ _ _ us hl=>ln2 us hl fun _ _=>rfl) a22 l22 c22 k22,z1b (st:=s_is_paper) (ps:=["form","paper"]) X G (fun _ _ _ _ _ _ us hl=>ln2 us hl fun _ _=>rfl) a23 l23 c23 k23,z1b (st:=s_stars) (ps:=["row"]) X G (fun _ _ _ _ _ _ us hl=>ln1 us hl fun _=>rfl) a24 l24 c24 k24,z1b (st:=s_look_ferry) (ps:=["ferry"]) X G (fun _ _ _ _ _ _ us hl=>ln1 us hl fun _=>rfl) a25 l25 c25 k25,z1b (st:=s_jobs) (ps:=["parts","target","starred"]) X G (fun _ _ _ _ _ _ us hl=>ln3 us hl fun _ _ _=>rfl) a26 l26 c26 k26,z1b (st:=s_carry) (ps:=["rules","part","target","starred"]) X G (fun _ _ _ _ _ _ us hl=>ln4 us hl fun _ _ _ _=>rfl) a27 l27 c27 k27,z1b (st:=s_carried) (ps:=["rules","row"]) X G (fun _ _ _ _ _ _ us hl=>ln2 us hl fun _ _=>rfl) a28 l28 c28 k28,z1b (st:=s_ferried) (ps:=["ferry","row"]) X G (fun _ _ _ _ _ _ us hl=>ln2 us hl fun _ _=>rfl) a29 l29 c29 k29,z1b (st:=s_staying_row) (ps:=["name"]) X G (fun _ _ _ _ _ _ us hl=>ln1 us hl fun _=>rfl) a30 l30 c30 k30,z1b (st:=s_joined) (ps:=["one","other"]) X G (fun _ _ _ _ _ _ us hl=>ln2 us hl fun _ _=>rfl) a31 l31 c31 k31,z1b (st:=s_arrives) (ps:=["ferry","form","paper"]) X G (fun _ _ _ _ _ _ us hl=>ln3 us hl fun _ _ _=>rfl) a32 l32 c32 k32,z1b (st:=s__law_draws) (ps:=["_law_script","_law_turn","_law_many"]) X G (fun _ _ _ _ _ _ us hl=>ln3 us hl fun _ _ _=>rfl) a33 l33 c33 k33,z1b (st:=s__law_pop) (ps:=["_law_draws_here"]) X G (fun _ _ _ _ _ _ us hl=>ln1 us hl fun _=>rfl) a34 l34 c34 k34,z1b (st:=s__law_name) (ps:=["_law_k","_law_draw"]) X G (fun _ _ _ _ _ _ us hl=>ln2 us hl fun _ _=>rfl) a35 l35 c35 k35,z1b (st:=s__law_names) (ps:=["_law_draw"]) X G (fun _ _ _ _ _ _ us hl=>ln1 us hl fun _=>rfl) a36 l36 c36 k36,z1b (st:=s__law_text) (ps:=["_law_number"]) X G (fun _ _ _ _ _ _ us hl=>ln1 us hl fun _=>rfl) a37 l37 c37 k37,z1b (st:=s__law_plain) (ps:=["_law_names_here","_law_draws_here","_law_deep"]) X G (fun _ _ _ _ _ _ us hl=>ln3 us hl fun _ _ _=>rfl) a38 l38 c38 k38,z1b (st:=s__law_starred) (ps:=["_law_row","_law_number"]) X G (fun _ _ _ _ _ _ us hl=>ln2 us hl fun _ _=>rfl) a39 l39 c39 k39,z1b (st:=s__law_ferry) (ps:=["_law_names_here","_law_draws_here","_law_many"]) X G (fun _ _ _ _ _ _ us hl=>ln3 us hl fun _ _ _=>rfl) a40 l40 c40 k40,z1b (st:=s__law_stars) (ps:=["_law_row"]) X G (fun _ _ _ _ _ _ us hl=>ln1 us hl fun _=>rfl) a41 l41 c41 k41,z1b (st:=s__law_due_ferry) (ps:=["_law_ferry_here"]) X G (fun _ _ _ _ _ _ us hl=>ln1 us hl fun _=>rfl) a42 l42 c42 k42,z1b (st:=s__law_bent_ferry) (ps:=["_law_ferry_here","_law_number"]) X G (fun _ _ _ _ _ _ us hl=>ln2 us hl fun _ _=>rfl) a43 l43 c43 k43,z1b (st:=s__law_copy_row) (ps:=["_law_row"]) X G (fun _ _ _ _ _ _ us hl=>ln1 us hl fun _=>rfl) a44 l44 c44 k44,z1b (st:=s__law_kind) (ps:=["_law_error"]) X G (fun _ _ _ _ _ _ us hl=>ln1 us hl fun _=>rfl) a45 l45 c45 k45,z1b (st:=s__law_asked) (ps:=["_law_ferry_here","_law_beside","_law_some"]) X G (fun _ _ _ _ _ _ us hl=>ln3 us hl fun _ _ _=>rfl) a46 l46 c46 k46,z1b (st:=s__law_refused) (ps:=["_law_ferry_here","_law_beside","_law_some"]) X G (fun _ _ _ _ _ _ us hl=>ln3 us hl fun _ _ _=>rfl) a47 l47 c47 k47,z1b (st:=s__law_copy_ferry) (ps:=["_law_ferry_here"]) X G (fun _ _ _ _ _ _ us hl=>ln1 us hl fun _=>rfl) a48 l48 c48 k48⟩,z1b (st:=s_law) (ps:=["_law_script"]) X G (fun _ _ _ _ _ _ us hl=>ln1 us hl fun _=>rfl) a49 l49 c49 k49⟩
theorem law_fn {l:PySem.W.OpenLaw}{w:World}{K:PySem.W.Frag}{mg:Str→Option Value}{fa:Addr}(Z:AllE K mg∧∃ f fd,Ent K mg "law" s_law ["_law_script"] f fd) (hmg:mg "law" = some (.ref fa)) :
  ∃ fd:FuncData,(∀ (s:Shared) (u:Value),BindsTo s fd ⟨[u],[]⟩ [("_law_script",u)])∧∀ base:Heap,K.In base→base.Ns mainGlobals mg→FnOk l.prog w K mg base CX0 80 fa fd ["_law_script"] (spD (R_law K)):=by
 obtain ⟨L,f,fd,E⟩:=Z
 have e:=hmg.symm.trans E.g
 cases e
 obtain ⟨oc,od,kV,doc,pm,an,cdv,ct,osl,rfl,lk,hcd⟩:=E.F.ex
 exact ⟨_,fun s u=>.of_eq rfl,fun base _ _=>ok_law E L⟩
theorem law_sp {K:PySem.W.Frag}{H:Hp}{a:Addr}{ns:List Int}{E:XK}(hS:SqL K H a (ns.map V.int)):spD (R_law K) [.ref a] H (fun v _=>v = .bl true) E:=by
 refine ⟨H,[none],H,[.sc K ns],fun b d _=>d = .bl true,fun p a e=>by cases p <;> simp at e,(y2t (ds:=[]) (vs:=[]) (Same.refl _) rfl).push (s:=.sc K ns) (v:=.ref a) ⟨a,rfl,hS⟩ (fun b c a e=>by cases e),⟨ns,rfl,rfl⟩,fun b d v δ' F' H' I q=>?_⟩
 obtain ⟨F2,s,I2,rv⟩:=I.fr
 cases q
 exact rv
end K11
open PySem PySem.W PyProof.Rows
set_option maxRecDepth 100000 in
set_option maxHeartbeats 0 in
theorem PySem.Challenge.cw_formferry_k10_ferries_looked_at_holds : PySem.Challenge.rw_formferry_k10_ferries_looked_at.Holds := by
 w_on;o_law;k_head;(case hw=>w_witness2)
 k_fill
 refine L2.walk_ofK (l:=PySem.Challenge.rw_formferry_k10_ferries_looked_at) (n:=63) (k:=80) (x:="_law_script") (CX:=L2.CX0) (sp:=fun K=>VL.spD (K11.R_law K)) rfl (by decide) rfl ⟨rfl,by decide,by decide⟩ (fun w h Y=>PySem.W.kIn_of Y) ?F (fun K H a ns hl hO hS=>K11.law_sp hS) (fun _ _ _ _ z=>z)
 case F =>
  intro w mg fa h KX G hmg
  have Z:=by
   refine' K11.all_mk KX G ?a1 ?l1 ?c1 ?k1 ?a2 ?l2 ?c2 ?k2 ?a3 ?l3 ?c3 ?k3 ?a4 ?l4 ?c4 ?k4 ?a5 ?l5 ?c5 ?k5 ?a6 ?l6 ?c6 ?k6 ?a7 ?l7 ?c7 ?k7 ?a8 ?l8 ?c8 ?k8 ?a9 ?l9 ?c9 ?k9 ?a10 ?l10 ?c10 ?k10 ?a11 ?l11 ?c11 ?k11 ?a12 ?l12 ?c12 ?k12 ?a13 ?l13 ?c13 ?k13 ?a14 ?l14 ?c14 ?k14 ?a15 ?l15 ?c15 ?k15 ?a16 ?l16 ?c16 ?k16 ?a17 ?l17 ?c17 ?k17 ?a18 ?l18 ?c18 ?k18 ?a19 ?l19 ?c19 ?k19 ?a20 ?l20 ?c20 ?k20 ?a21 ?l21 ?c21 ?k21 ?a22 ?l22 ?c22 ?k22 ?a23 ?l23 ?c23 ?k23 ?a24 ?l24 ?c24 ?k24 ?a25 ?l25 ?c25 ?k25 ?a26 ?l26 ?c26 ?k26 ?a27 ?l27 ?c27 ?k27 ?a28 ?l28 ?c28 ?k28 ?a29 ?l29 ?c29 ?k29 ?a30 ?l30 ?c30 ?k30 ?a31 ?l31 ?c31 ?k31 ?a32 ?l32 ?c32 ?k32 ?a33 ?l33 ?c33 ?k33 ?a34 ?l34 ?c34 ?k34 ?a35 ?l35 ?c35 ?k35 ?a36 ?l36 ?c36 ?k36 ?a37 ?l37 ?c37 ?k37 ?a38 ?l38 ?c38 ?k38 ?a39 ?l39 ?c39 ?k39 ?a40 ?l40 ?c40 ?k40 ?a41 ?l41 ?c41 ?k41 ?a42 ?l42 ?c42 ?k42 ?a43 ?l43 ?c43 ?k43 ?a44 ?l44 ?c44 ?k44 ?a45 ?l45 ?c45 ?k45 ?a46 ?l46 ?c46 ?k46 ?a47 ?l47 ?c47 ?k47 ?a48 ?l48 ?c48 ?k48 ?a49 ?l49 ?c49 ?k49 ?z_list ?z_reversed ?z_isinstance ?z_str ?z_len ?z_int ?z_bool ?z_range ?z_all ?z_any ?z_zip ?z_tuple ?z_dict ?z_set ?z_enumerate ?g_TEXT_SIGN ?g_STAR ?kit ?kts ?Y
   (case a1=>k_is)
   (case l1=>k_is)
   (case c1=>k_is)
   (case k1=>k_is)
   (case a2=>k_is)
   (case l2=>k_is)
   (case c2=>k_is)
   (case k2=>k_is)
   (case a3=>k_is)
   (case l3=>k_is)
   (case c3=>k_is)
   (case k3=>k_is)
   (case a4=>k_is)
   (case l4=>k_is)
   (case c4=>k_is)
   (case k4=>k_is)
   (case a5=>k_is)
   (case l5=>k_is)
   (case c5=>k_is)
   (case k5=>k_is)
   (case a6=>k_is)
   (case l6=>k_is)
   (case c6=>k_is)
   (case k6=>k_is)
   (case a7=>k_is)
   (case l7=>k_is)
   (case c7=>k_is)
   (case k7=>k_is)
   (case a8=>k_is)
   (case l8=>k_is)
   (case c8=>k_is)
   (case k8=>k_is)
   (case a9=>k_is)
   (case l9=>k_is)
   (case c9=>k_is)
   (case k9=>k_is)
   (case a10=>k_is)
   (case l10=>k_is)
   (case c10=>k_is)
   (case k10=>k_is)
   (case a11=>k_is)
   (case l11=>k_is)
   (case c11=>k_is)
   (case k11=>k_is)
   (case a12=>k_is)
   (case l12=>k_is)
   (case c12=>k_is)
   (case k12=>k_is)
   (case a13=>k_is)
   (case l13=>k_is)
   (case c13=>k_is)
   (case k13=>k_is)
   (case a14=>k_is)
   (case l14=>k_is)
   (case c14=>k_is)
   (case k14=>k_is)
   (case a15=>k_is)
   (case l15=>k_is)
   (case c15=>k_is)
   (case k15=>k_is)
   (case a16=>k_is)
   (case l16=>k_is)
   (case c16=>k_is)
   (case k16=>k_is)
   (case a17=>k_is)
   (case l17=>k_is)
   (case c17=>k_is)
   (case k17=>k_is)
   (case a18=>k_is)
   (case l18=>k_is)
   (case c18=>k_is)
   (case k18=>k_is)
   (case a19=>k_is)
   (case l19=>k_is)
   (case c19=>k_is)
   (case k19=>k_is)
   (case a20=>k_is)
   (case l20=>k_is)
   (case c20=>k_is)
   (case k20=>k_is)
   (case a21=>k_is)
   (case l21=>k_is)
   (case c21=>k_is)
   (case k21=>k_is)
   (case a22=>k_is)
   (case l22=>k_is)
   (case c22=>k_is)
   (case k22=>k_is)
   (case a23=>k_is)
   (case l23=>k_is)
   (case c23=>k_is)
   (case k23=>k_is)
   (case a24=>k_is)
   (case l24=>k_is)
   (case c24=>k_is)
   (case k24=>k_is)
   (case a25=>k_is)
   (case l25=>k_is)
   (case c25=>k_is)
   (case k25=>k_is)
   (case a26=>k_is)
   (case l26=>k_is)
   (case c26=>k_is)
   (case k26=>k_is)
   (case a27=>k_is)
   (case l27=>k_is)
   (case c27=>k_is)
   (case k27=>k_is)
   (case a28=>k_is)
   (case l28=>k_is)
   (case c28=>k_is)
   (case k28=>k_is)
   (case a29=>k_is)
   (case l29=>k_is)
   (case c29=>k_is)
   (case k29=>k_is)
   (case a30=>k_is)
   (case l30=>k_is)
   (case c30=>k_is)
   (case k30=>k_is)
   (case a31=>k_is)
   (case l31=>k_is)
   (case c31=>k_is)
   (case k31=>k_is)
   (case a32=>k_is)
   (case l32=>k_is)
   (case c32=>k_is)
   (case k32=>k_is)
   (case a33=>k_is)
   (case l33=>k_is)
   (case c33=>k_is)
   (case k33=>k_is)
   (case a34=>k_is)
   (case l34=>k_is)
   (case c34=>k_is)
   (case k34=>k_is)
   (case a35=>k_is)
   (case l35=>k_is)
   (case c35=>k_is)
   (case k35=>k_is)
   (case a36=>k_is)
   (case l36=>k_is)
   (case c36=>k_is)
   (case k36=>k_is)
   (case a37=>k_is)
   (case l37=>k_is)
   (case c37=>k_is)
   (case k37=>k_is)
   (case a38=>k_is)
   (case l38=>k_is)
   (case c38=>k_is)
   (case k38=>k_is)
   (case a39=>k_is)
   (case l39=>k_is)
   (case c39=>k_is)
   (case k39=>k_is)
   (case a40=>k_is)
   (case l40=>k_is)
   (case c40=>k_is)
   (case k40=>k_is)
   (case a41=>k_is)
   (case l41=>k_is)
   (case c41=>k_is)
   (case k41=>k_is)
   (case a42=>k_is)
   (case l42=>k_is)
   (case c42=>k_is)
   (case k42=>k_is)
   (case a43=>k_is)
   (case l43=>k_is)
   (case c43=>k_is)
   (case k43=>k_is)
   (case a44=>k_is)
   (case l44=>k_is)
   (case c44=>k_is)
   (case k44=>k_is)
   (case a45=>k_is)
   (case l45=>k_is)
   (case c45=>k_is)
   (case k45=>k_is)
   (case a46=>k_is)
   (case l46=>k_is)
   (case c46=>k_is)
   (case k46=>k_is)
   (case a47=>k_is)
   (case l47=>k_is)
   (case c47=>k_is)
   (case k47=>k_is)
   (case a48=>k_is)
   (case l48=>k_is)
   (case c48=>k_is)
   (case k48=>k_is)
   (case a49=>k_is)
   (case l49=>k_is)
   (case c49=>k_is)
   (case k49=>k_is)
   (case z_list=>k_is)
   (case z_reversed=>k_is)
   (case z_isinstance=>k_is)
   (case z_str=>k_is)
   (case z_len=>k_is)
   (case z_int=>k_is)
   (case z_bool=>k_is)
   (case z_range=>k_is)
   (case z_all=>k_is)
   (case z_any=>k_is)
   (case z_zip=>k_is)
   (case z_tuple=>k_is)
   (case z_dict=>k_is)
   (case z_set=>k_is)
   (case z_enumerate=>k_is)
   (case g_TEXT_SIGN=>k_is)
   (case g_STAR=>k_is)
   (case kit =>
    intro t ht T hT
    simp only [List.mem_cons,List.not_mem_nil,or_false] at ht hT
    rcases ht with rfl|rfl|rfl|rfl|rfl|rfl|rfl <;> rcases hT with rfl|rfl|rfl|rfl|rfl|rfl <;> rfl)
   (case kts=>rfl)
   (case Y =>
    refine' K11.xr_mk KX G ?z_ValueError ?g_FerryError ?g_Twice ?g_NoName ?g_Stars ?g_NoText ?g_NoPort ?g_Taken ?q_FerryError ?u_Twice ?x_Twice ?l_Twice ?c_Twice ?k_Twice ?kc_Twice ?u_NoName ?x_NoName ?l_NoName ?c_NoName ?k_NoName ?kc_NoName ?u_Stars ?x_Stars ?l_Stars ?c_Stars ?k_Stars ?kc_Stars ?n_Twice ?n_NoName ?n_Stars ?n_NoText ?n_NoPort ?n_Taken ?n_ValueError
    (case z_ValueError=>k_is)
    (case g_FerryError=>k_is)
    (case g_Twice=>k_is)
    (case g_NoName=>k_is)
    (case g_Stars=>k_is)
    (case g_NoText=>k_is)
    (case g_NoPort=>k_is)
    (case g_Taken=>k_is)
    (case q_FerryError=>rfl)
    (case u_Twice=>rfl)
    (case x_Twice=>kernel_rfl)
    (case l_Twice=>k_is)
    (case c_Twice=>k_is)
    (case k_Twice=>k_is)
    (case kc_Twice=>k_is)
    (case u_NoName=>rfl)
    (case x_NoName=>kernel_rfl)
    (case l_NoName=>k_is)
    (case c_NoName=>k_is)
    (case k_NoName=>k_is)
    (case kc_NoName=>k_is)
    (case u_Stars=>rfl)
    (case x_Stars=>kernel_rfl)
    (case l_Stars=>k_is)
    (case c_Stars=>k_is)
    (case k_Stars=>k_is)
    (case kc_Stars=>k_is)
    (case n_Twice=>intro t;rcases t with _|c;rfl;cases c <;> rfl)
    (case n_NoName=>intro t;rcases t with _|c;rfl;cases c <;> rfl)
    (case n_Stars=>intro t;rcases t with _|c;rfl;cases c <;> rfl)
    (case n_NoText=>intro t;rcases t with _|c;rfl;cases c <;> rfl)
    (case n_NoPort=>intro t;rcases t with _|c;rfl;cases c <;> rfl)
    (case n_Taken=>intro t;rcases t with _|c;rfl;cases c <;> rfl)
    (case n_ValueError=>intro t;rcases t with _|c;rfl;cases c <;> rfl))
  exact K11.law_fn Z hmg
#print axioms PySem.Challenge.cw_formferry_k10_ferries_looked_at_holds

