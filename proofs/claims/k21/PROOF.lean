import PyProof.Rows.All
import Wide.All
import OpenK.AllK
import Wide.FinOn
import Lean
import PyProof.EqAt
import PyProof.EqKinds
import PyProof.TupleCall
import KE.KRevIter
import PyProof.AttrMissHeap
import KE.KDictOf
import KE.KxText
import PyProof.DictIter
import PyProof.DictWalks
import PyProof.EnumMake
import PyProof.EnumFor
import PyProof.Rows.SetFrom
import PyProof.SetRoads
import PyProof.DictStraight
import KE.KRevSl
import KE.KDictList
import PyProof.NeKinds
import PyProof.Rows.EqBoolInt
import PyProof.ExcClass3
import PyProof.ExcQuiet
import PyProof.ExcAttrAll.ValueError
import PyProof.ExcArgsOwn
import PyProof.RaisesMany
import PyProof.InstStoreFacts
import PyProof.InstLoad
import PyProof.ExcInit
import OpenK.KOwn
import PyProof.AssignAttr
import PyProof.RulesAs
import PyProof.RulesDel
import PyProof.IsiBase
import KE.KLam
import KE.KMinKey
import OpenK.KTop
import PyProof.FString5
import PyProof.StrWalks
import PyProof.Rows.StrNews2
import PyProof.Rows.CallKwBuiltin
import PySem.Challenge.RW_formferry_k21_forms_written
set_option Elab.async false
set_option linter.all false
set_option maxRecDepth 100000
set_option compiler.extract_closed false
set_option compiler.postponeCompile true
set_option bootstrap.genMatcherCode false
set_option genSizeOfSpec false
namespace PySem.W.Fast
def tw1747941908094668571:=()
def tw15884888652854445553:=()
def tw17267964130325757209:=()
def tw6323529091161436775:=()
def tw7652908890341054828:=()
def tw16724489604296611489:=()
def tw7878736286158561818:=()
def tw6081982956238879168:=()
def tw10836424000854623452:=()
def tw7333842095878227757:=()
def tw8689926425632388671:=()
def tw10220260640237384214:=()
def tw2045634960441084806:=()
def tw16225581893706875749:=()
def tw3727644496635365786:=()
def tw4811250343390022118:=()
def tw9241976965168803223:=()
def tw5622611672481610197:=()
def tw4378811255740939552:=()
def tw5169112468532649779:=()
def tw11153134844789350483:=()
def tw8357976635529597083:=()
def tw17188624422938252009:=()
def tw13478746018378706170:=()
def tw13809950451618364702:=()
def tw11687487369534992182:=()
def tw14727326535277694125:=()
def tw12725515372240195197:=()
def tw2418583102350631627:=()
def tw6318065565007875228:=()
def tw17135078127484841524:=()
def tw16342640706107035650:=()
def tw3489427599071316329:=()
def tw12208972004002876797:=()
def tw7290510275771733181:=()
def tw7578510720413988627:=()
def tw15183355695719471038:=()
def tw641692488451135311:=()
def tw570283042272550894:=()
def tw3516708320055571355:=()
def tw18227714038705154266:=()
def tw3355389412994889029:=()
def tw4333232032164464826:=()
def tw15419887848889596774:=()
def tw9815843642238728769:=()
def tw11889235528556006953:=()
def tw1953224773713829605:=()
def tw1481360987594118817:=()
def tw4317475897297882032:=()
def tw14452947684021592700:=()
def tw5304803289885467390:=()
def tw1430361996491300768:=()
def tw12390745426812058263:=()
def tw14799278936396107207:=()
def tw7938265652609096696:=()
def tw11002078534828305501:=()
def tw4461278855098661408:=()
def tw3729344867506166763:=()
def tw5154781605242743569:=()
def tw9149259111998718639:=()
def tw3941021386661756496:=()
def tw16702707874663980269:=()
def tw7237772739863397847:=()
def tw4717488231195013920:=()
def tw3252636533966750124:=()
def tw5912168777452212381:=()
def tw9376620865947030337:=()
def tw12701234319628981830:=()
def tw9059880966366893879:=()
def tw3493234345789361083:=()
def tw15369724398755249479:=()
def tw8809639985693878364:=()
def tw10838658629251394755:=()
def tw10894936482755187605:=()
def tw15300933500480217430:=()
def tw11507140883187321328:=()
def tw18071331774276401574:=()
def tw10008401556905567942:=()
def tw11552127132654140302:=()
def tw17617974818085564704:=()
def tw10976840624792597704:=()
def tw15528553450094194128:=()
def tw5785863006445721042:=()
def tw1733354239929662424:=()
def tw150008424946439748:=()
def tw13919977039659657224:=()
def tw665941942503802963:=()
def tw4778599636114681183:=()
def tw6993669739073100383:=()
def tw14713813564354662175:=()
def tw2539040464324605959:=()
def tw982809688751357221:=()
def tw1868022804668644319:=()
def tw10331496551645844105:=()
def tw13241224121516479415:=()
def tw17944868050096480272:=()
def tw2477491933064232558:=()
def tw9178593904247882515:=()
def tw3396778175265749150:=()
def tw7157262529642067497:=()
def tw4251216491521300935:=()
def tw6718120586999227605:=()
def tw18052426044892354130:=()
def tw11093933343100759456:=()
def tw1786803049988597062:=()
def tw16654519295224249708:=()
def tw12813213992115103327:=()
def tw7024557524065944934:=()
def tw12948830075025715920:=()
def tw18018632280400181892:=()
def tw10008414493570366716:=()
def tw3267053506788463176:=()
def tw15950177982404014716:=()
def tw3955336358965352931:=()
def tw11144002932753795182:=()
def tw17115581097965193348:=()
def tw6673495444491934150:=()
def tw10216182409644599435:=()
def tw10326178073017257812:=()
def tw16945057727150306211:=()
def tw16480398858248378581:=()
def tw15493176985349596315:=()
def tw1041599943221428659:=()
def tw8172054633188144902:=()
def tw16478772525492566990:=()
def tw7060207578425955258:=()
def tw2382199949045421496:=()
def tw18328593524948140272:=()
def tw15033733931232946465:=()
def tw883339436216931859:=()
def tw12437189078999293534:=()
def tw5831115034780531266:=()
def tw9130077158550014539:=()
def tw2665191443138280883:=()
def tw15822216336270015310:=()
def tw6303069063116647022:=()
def tw13826890220613711863:=()
def tw8684821663484259383:=()
def tw7505280692094168776:=()
def tw15609579978581350920:=()
def tw13183138113754150838:=()
def tw14361431764312296451:=()
def tw15829964131722407581:=()
def tw4070167157075962499:=()
def tw2017904036517152936:=()
def tw4592832358290578745:=()
def tw15696011999716186441:=()
def tw16539662577745926809:=()
def tw14438433271079587418:=()
def tw15212614109789917142:=()
def tw7801575893278816858:=()
def tw8972108956082204737:=()
def tw15018640212804225498:=()
def tw12286815848136655623:=()
def tw2556789934989572642:=()
def tw955698384504570247:=()
def tw17531280232046178890:=()
def tw2088917195607883789:=()
def tw342652563907788367:=()
def tw17564230430881381673:=()
def tw5200194011370073311:=()
def tw5474532182123948533:=()
def tw3632245514727813537:=()
def tw17768677303089740754:=()
def tw11678316912497321999:=()
def tw4308915282553728272:=()
def tw17178039677626020399:=()
def tw1857727677759002852:=()
def tw4639650108393507267:=()
def tw3814213799781243127:=()
def tw11827328088909388400:=()
def tw4112964253661429807:=()
def tw1718671835381741971:=()
def tw7521156260734668941:=()
def tw12453818889990825322:=()
def tw207750575086771927:=()
def tw216163516245358525:=()
def tw11869653738697737282:=()
def tw14697067467449341093:=()
def tw11024577388656426528:=()
def tw16249505134569717387:=()
def tw10173673780400316779:=()
def tw3444317448319398696:=()
def tw484819742921532176:=()
def tw12910686153356849302:=()
def tw13875012008740910453:=()
def tw11071263537532176223:=()
def tw1407493274706077973:=()
def tw15600292846997242007:=()
def tw18440925806989168231:=()
def tw17087657300275504124:=()
def tw2757816926721587278:=()
def tw12926949763161633940:=()
def tw2344152646793508292:=()
def tw2877428758858583083:=()
def tw8995435731472366321:=()
def tw15162743564215337331:=()
def tw17398459677202241022:=()
def tw14818532617772733182:=()
def tw1795471830777401754:=()
def tw16870181010562814285:=()
def tw14736268432745126235:=()
def tw11023249504242967765:=()
def tw9832126330506826198:=()
def tw1545914817549282371:=()
def tw18071071980324022929:=()
def tw1915678684011772634:=()
def tw13299950736109182135:=()
def tw7830470595571719423:=()
def tw7573879895184673582:=()
def tw7415585449495395473:=()
def tw5053572166184955105:=()
def tw237322870434174225:=()
def tw821167156690918847:=()
def tw10195671799436135432:=()
def tw828307118479613914:=()
def tw7880123806737445353:=()
def tw8715247125903128794:=()
def tw7948223212612298257:=()
def tw13390187790253602234:=()
def tw6217439281642189855:=()
def tw9127364416862219112:=()
def tw680743039480366144:=()
def tw4676210305360920265:=()
def tw6066782392883871677:=()
def tw3178177242833888310:=()
def tw15307606200557306734:=()
def tw11988118403630819256:=()
def tw4279708482883128920:=()
def tw14489796596666474521:=()
def tw14467672419891196368:=()
def tw1496795800369641870:=()
def tw11486581214232271139:=()
def tw14088521521957479086:=()
def tw1425544711910589976:=()
def tw14568136988472323504:=()
def tw11080811094762399205:=()
def tw6573169511553487369:=()
def tw7888987826618359652:=()
def tw10316237203182288893:=()
def tw8794746979830367994:=()
def tw3867144331865077662:=()
def tw6215876726903654351:=()
def tw15519063201565343938:=()
def tw7628542022412619214:=()
def tw932710207593630298:=()
def tw3236173283342977960:=()
def tw8010267399362026515:=()
def tw5396215651523924218:=()
def tw13307352936278322853:=()
def tw7436868471296439178:=()
def tw5656169655247424929:=()
def tw8222510605269156699:=()
def tw394071834844758514:=()
def tw14354527781085580851:=()
def tw13426889216776921653:=()
def tw9059156990249433598:=()
def tw6018778197812932440:=()
def tw1234152198392654234:=()
def tw8236569704976469152:=()
def tw10161146854515875851:=()
def tw8442031832465575182:=()
def tw7250158112066127730:=()
def tw14492281728588139234:=()
def tw7309424251406790523:=()
def tw9105358809798845667:=()
def tw7719717671424282807:=()
def tw15580941315360233987:=()
def tw11540517629628737676:=()
def tw10683882023638774716:=()
def tw15518047106471965694:=()
def tw936255876780285189:=()
def tw18135814022888327403:=()
def tw7835260342438135878:=()
def tw9029225478387396750:=()
def tw18177543988240434185:=()
def tw14806242779973146702:=()
def tw9802554973680702213:=()
def tw4460769156614730226:=()
def tw14015121877786933659:=()
def tw17780438762012426990:=()
def tw3319253769249366603:=()
def tw7073688255863147190:=()
def tw7086945096452342796:=()
def tw1559900647955396446:=()
def tw2754941581014634364:=()
def tw11746836758176655021:=()
def tw8203798701476602452:=()
def tw12858586654552308903:=()
def tw17427789461230573316:=()
def tw7513466210716596923:=()
def tw9505994019853854419:=()
def tw12519541570481559825:=()
def tw5486304586739676101:=()
def tw11726951149780041440:=()
def tw4861216498471345017:=()
def tw347706285661637061:=()
def tw9435846929667299054:=()
def tw10202516041781017324:=()
def tw2781757784316979405:=()
def tw16645231478122429251:=()
def tw1405445902334885398:=()
def tw16200070657005601257:=()
def tw2526890625735689539:=()
def tw16896028558793514310:=()
def tw15598412265804558619:=()
def tw3930302485495728823:=()
def tw5472686075686421360:=()
def tw13498039839981465619:=()
def tw10459244514428980773:=()
def tw11600976155502732732:=()
def tw17320842521723187269:=()
def tw14107373738600349159:=()
def tw18024077008834119730:=()
def tw2919911488471381095:=()
def tw12446080874612108391:=()
def tw6846630984553998756:=()
def tw10006290147152827671:=()
def tw1928701284915608797:=()
def tw9235362510214949652:=()
def tw7611626927809330263:=()
def tw9700308365084101980:=()
def tw18135889792810227119:=()
def tw1808510807793864430:=()
def tw14954880666197296975:=()
def tw13778156711427092684:=()
def tw11137741099856952942:=()
def tw10734881495252612109:=()
def tw1271066515820577907:=()
def tw12564429877825638712:=()
def tw18161172195678962663:=()
def tw9285280289993754239:=()
def tw490411877961391452:=()
def tw5031261680638920032:=()
def tw8599954199492515040:=()
def tw11424987103351200736:=()
def tw15298467362903927055:=()
def tw1823921518059674785:=()
def tw2937375551154894882:=()
def tw5025920953639010063:=()
def tw9154363769597878964:=()
def tw15507936708928875585:=()
def tw13540613651974548698:=()
def tw16112124242200676129:=()
def tw1835332402933745482:=()
def tw2872275555631528301:=()
def tw6327252234082924206:=()
def tw3691462821144861061:=()
def tw11334128624104996035:=()
def tw141674136507732186:=()
def tw13049458245685261823:=()
def tw323191637099016401:=()
def tw495013311611762936:=()
def tw12223947226425051616:=()
def tw16212124241016652238:=()
def tw14720383709034582923:=()
def tw9356590930399528791:=()
def tw1109305539868008834:=()
def tw9580736916508185740:=()
def tw14434489005769664163:=()
def tw11843408383990773655:=()
def tw4869039602590676927:=()
def tw10400484757704779523:=()
def tw1930673304090898014:=()
def tw3781808632162117472:=()
def tw11171606098942903783:=()
def tw13484564282929231083:=()
def tw15700407187828282720:=()
def tw11449650727180859523:=()
def tw252236377319240995:=()
def tw14500060388245881787:=()
def tw18328858962750673876:=()
def tw7738636562943597738:=()
def tw17057576919988212403:=()
def tw16997485045753529637:=()
def tw13761555548033118321:=()
def tw11025441804737814068:=()
def tw11852552190120980377:=()
def tw18118569798746948374:=()
def tw3588538070280597322:=()
def tw3660385310850718916:=()
def tw5776800270287421128:=()
def tw2319710303014463484:=()
def tw8374239180955634927:=()
def tw8085413821210586447:=()
def tw7183411089764905739:=()
def tw10677926316259192113:=()
def tw9889766560111353225:=()
def tw2559667253019099708:=()
def tw15936657040413320:=()
def tw4894084788475885117:=()
def tw445605574687117765:=()
end PySem.W.Fast
set_option maxHeartbeats 800000
namespace L2
def lamP:Option Nat:=none
def lamL:Int:=145
def lamC:Int:=65
def lamQ:PySem.Str:="cheaper.<locals>.<lambda>"
end L2
namespace L2
open PySem PySem.Spec PyProof.Rows
abbrev Key:=Sum Int Str
def x0q:Key→Value→Bool
 |.inl k,v=>Value.isInt k v
 |.inr x,v=>Value.isStrOf x v
def keyH (w:World):Key→Int
 |.inl k=>hashInt k
 |.inr x=>hashStr w x
theorem z2p:∀{k:Key}{v:Value},x0q k v=true→(∃i t,k=Sum.inl i∧v=Value.int i t)∨(∃x t,k=Sum.inr x∧v=Value.str x t)
 |.inl i,v,h=>by
  obtain⟨t,e⟩:=Value.isInt_shape (k:=i) (v:=v) h
  exact .inl ⟨i,t,rfl,e⟩
 |.inr x,v,h=>by
  obtain⟨t,e⟩:=Value.isStrOf_shape (x:=x) (v:=v) h
  exact .inr ⟨x,t,rfl,e⟩
theorem x1m (i:Int)(t:Tok):x0q (.inl i) (.int i t)=true:=by simp[x0q,Value.isInt]
theorem x1z (x:Str)(t:Tok):x0q (.inr x) (.str x t)=true:=by simp[x0q,Value.isStrOf]
theorem key_ll (a b:Int):decide ((Sum.inl a:Key)=Sum.inl b)=(a == b):=by
 by_cases e:a=b
 ·subst e;simp
 ·have h:¬(Sum.inl a:Key)=Sum.inl b:=fun q=>e (Sum.inl.inj q)
  rw[decide_eq_false h]
  exact(beq_eq_false_iff_ne.mpr e).symm
theorem key_rr (a b:Str):decide ((Sum.inr a:Key)=Sum.inr b)=decide (a=b):=by
 by_cases e:a=b
 ·subst e;simp
 ·have h:¬(Sum.inr a:Key)=Sum.inr b:=fun q=>e (Sum.inr.inj q)
  rw[decide_eq_false h,decide_eq_false e]
theorem key_lr (a:Int)(b:Str):decide ((Sum.inl a:Key)=Sum.inr b)=false:=decide_eq_false (fun q=>nomatch q)
theorem key_rl (a:Str)(b:Int):decide ((Sum.inr a:Key)=Sum.inl b)=false:=decide_eq_false (fun q=>nomatch q)
def z2o (prog:Program)(w:World):PySem.KeyKind prog w Key where
 is:=x0q
 hash:=keyH w
 inj:=fun v a b ha hb=>by
  rcases z2p ha with ⟨i,t,rfl,rfl⟩|⟨x,t,rfl,rfl⟩
  ·rcases z2p hb with ⟨j,u,rfl,e⟩|⟨y,u,rfl,e⟩
   ·injection e with e1 _;rw[e1]
   ·exact nomatch e
  ·rcases z2p hb with ⟨j,u,rfl,e⟩|⟨y,u,rfl,e⟩
   ·exact nomatch e
   ·injection e with e1 _;rw[e1]
 byValue:=fun k v h=>by
  rcases z2p h with ⟨i,t,rfl,rfl⟩|⟨x,t,rfl,rfl⟩<;>rfl
 pyHash:=fun hv h=>by
  rcases z2p hv with ⟨i,t,rfl,rfl⟩|⟨x,t,rfl,rfl⟩
  ·exact wpAny_pyHash_int h
  ·exact wpAny_pyHash_str h
 eqBool:=fun hu hv h=>by
  rcases z2p hu with ⟨i,t,rfl,rfl⟩|⟨x,t,rfl,rfl⟩
  ·rcases z2p hv with ⟨j,u,rfl,rfl⟩|⟨y,u,rfl,rfl⟩
   ·rw[key_ll]at h;exact wpAny_eqBool_int h
   ·rw[key_lr]at h;exact SeqAt.EqAt.int_str i t y u _ _ _ _ h
  ·rcases z2p hv with ⟨j,u,rfl,rfl⟩|⟨y,u,rfl,rfl⟩
   ·rw[key_rl]at h;exact SeqAt.EqAt.str_int x t j u _ _ _ _ h
   ·rw[key_rr]at h;exact wpAny_eqBool_str h
 «strs»:=fun k x t v h=>by
  rcases z2p h with ⟨i,u,rfl,e⟩|⟨y,u,rfl,e⟩
  ·exact nomatch e
  ·injection e with e1 _
   subst e1
   cases v<;>rfl
theorem y6v (prog:Program)(w:World)(i:Int)(t:Tok):(z2o prog w).is (.inl i) (.int i t)=true:=x1m i t
theorem y7f (prog:Program)(w:World)(x:Str)(t:Tok):(z2o prog w).is (.inr x) (.str x t)=true:=x1z x t
end L2
namespace L2
open PySem PySem.Spec PyProof.Rows
inductive V where
 |non|bl (b:Bool)|int (i:Int)|str (x:Str)|byt (b:Array UInt8)|flt (b:UInt64)|ref (a:Addr)|ty (n:String)
 deriving DecidableEq
def RelV:V→Value→Prop
 |.non,u=>u=Value.none
 |.bl b,u=>u=Value.bool b
 |.int i,u=>∃t,u=Value.int i t
 |.str x,u=>∃t,u=Value.str x t
 |.byt b,u=>∃t,u=Value.bytes b t
 |.flt b,u=>∃t,u=Value.float b t
 |.ref a,u=>u=Value.ref a
 |.ty n,u=>u=Value.type n
abbrev Vals:List V→List Value→Prop:=Paired RelV
theorem Vals.length {xs:List V}{us:List Value}(r:Vals xs us):xs.length=us.length:=Paired.length r
theorem Vals.get:∀{xs:List V}{us:List Value}{i:Nat}{x:V},Vals xs us→xs[i]? = some x→∃u,us[i]? = some u∧RelV x u
 |_,_,_,_,.nil,e=>by simp at e
 |_,_,0,_,.cons r _,e=>by simp at e;subst e;exact⟨_,rfl,r⟩
 |_,_,i+1,x,.cons _ t,e=>by
  obtain⟨u,h1,h2⟩:=Vals.get (i:=i) (x:=x) t (by simpa using e)
  exact⟨u,by simpa using h1,h2⟩
theorem Vals.set {x:V}{u:Value}(r:RelV x u):∀{xs:List V}{us:List Value}(i:Nat),Vals xs us→Vals (xs.set i x) (us.set i u)
 |_,_,_,.nil=>.nil
 |_,_,0,.cons _ t=>.cons r t
 |_,_,i+1,.cons q t=>.cons q (Vals.set r i t)
theorem Vals.append:∀{xs ys:List V}{us ws:List Value},Vals xs us→Vals ys ws→Vals (xs++ys) (us++ws)
 |_,_,_,_,.nil,s=>s
 |_,_,_,_,.cons r t,s=>.cons r (Vals.append t s)
theorem Vals.take:∀{xs:List V}{us:List Value}(n:Nat),Vals xs us→Vals (xs.take n) (us.take n)
 |_,_,0,_=>.nil
 |_,_,_+1,.nil=>.nil
 |_,_,n+1,.cons r t=>.cons r (Vals.take n t)
theorem Vals.drop:∀{xs:List V}{us:List Value}(n:Nat),Vals xs us→Vals (xs.drop n) (us.drop n)
 |_,_,0,r=>r
 |_,_,_+1,.nil=>.nil
 |_,_,n+1,.cons _ t=>Vals.drop n t
theorem Vals.none_of:∀{xs:List V}{us:List Value}{i:Nat},Vals xs us→xs[i]? = none→us[i]? = none:=fun {xs us i} r e=>by
 have h1:=r.length
 have h2:xs.length≤i:=List.getElem?_eq_none_iff.mp e
 exact List.getElem?_eq_none_iff.mpr (by omega)
def RelO:Option V→Option Value→Prop
 |some v,some u=>RelV v u
 |none,none=>True
 |_,_=>False
def KV {κ:Type}:List (κ×V)→List (κ×Value)→Prop:=Paired fun(p:κ×V) (q:κ×Value)=>p.1=q.1∧RelV p.2 q.2
def kV:Key→V
 |.inl i=>.int i
 |.inr x=>.str x
inductive HO where
 |lst (xs:List V)
 |tup (xs:List V)
 |dK (kvs:List (Key×V))|dT (kvs:List (List Key×V))
 |set (S:Int→Bool)(n:Nat)
 |ins (C dx:Addr)(fs:List (Str×V))
 |own (x:Addr)
 |xd (fs:List (Str×V))
 |met (f x:Addr)
 |rng (lo hi:Int)
 |frz (o:Obj)(u:HO)
 |lam
 |ext (φ:Heap→Prop)
abbrev Hp:=Addr→Option HO
def LamOk (H:Hp):Prop:=∀p,lamP=some p→H p=some .lam
def upd (H:Hp)(a:Addr)(o:HO):Hp:=fun b=>if b=a then some o else H b
theorem z0g {H:Hp}{a:Addr}{o:HO}:upd H a o a=some o:=by unfold upd;rw[if_pos rfl]
theorem z0i {H:Hp}{a b:Addr}{o:HO}(h:b≠a):upd H a o b=H b:=by unfold upd;rw[if_neg h]
theorem x3l {H:Hp}{a:Addr}{o u:HO}:upd (upd H a o) a u=upd H a u:=by
 funext b;unfold upd;split<;>rfl
theorem ne_of {H:Hp}{a b:Addr}{o u:HO}(h:H a=some o)(h':H b=some u)(d:o≠u):a≠b:=by
 intro e;subst e;rw[h]at h';exact d (Option.some.inj h')
theorem z0n {H:Hp}{a b:Addr}{o:HO}(h:H a=some o)(h':H b=none):a≠b:=by
 intro e;subst e;rw[h]at h';cases h'
section
variable (P:Program)(w:World)
def ObjOk (H:Hp)(h:Heap)(a:Addr):HO→Prop
 |.lst xs=>xs.length≤sizeLine∧∃(its:List Value) (n:Nat),Vals xs its∧h.get? a=some { cls:=.type "list",data:=.seq its.toArray n }
 |.tup xs=>xs.length≤sizeLine∧∃its:List Value,Vals xs its∧IsTup h a its.toArray
 |.dK kvs=>kvs.length≤sizeLine∧(a == sysModules)=false∧∃vs,KV kvs vs∧h.DictOf (z2o P w) a vs
 |.dT kvs=>kvs.length≤sizeLine∧(a == sysModules)=false∧∃xs:List (List Key×Addr×Value),
   Paired (fun(p:List Key×V) (q:List Key×Addr×Value)=>p.1=q.1∧H q.2.1=some (.tup (p.1.map kV))∧RelV p.2 q.2.2) kvs xs ∧
   ∃o es ep,h.get? a=some o∧o.ExactDict∧o.data=.dict es ep∧es.toList=xs.map (entryOfKey (tupleKind (z2o P w)))∧(xs.map (·.1)).Nodup
 |.set S n=>h.SetOf (intKind P w) a S n
 |.ins C dx fs=>H dx=some (.own a)∧fs.length≤1000∧dx≠a∧h.get? a=some (PySem.W.instObj C dx) ∧
   ∃mA,h.Ns1 dx mA∧(∀f,RelO (fs.lookup f) (mA f))∧PySem.Within mA (fs.map (·.1))
 |.own _=>∃o,h.get? a=some o
 |.xd fs=>∃mA,h.Ns1 a mA∧∀f,RelO (fs.lookup f) (mA f)
 |.rng lo hi=>∃t u v,h.get? a=some { cls:=.type "range",data:=.fields #[.int lo t,.int hi u,.int 1 v] }
 |.frz o u=>h.get? a=some o∧ObjOk H h a u
 |.lam=>∃ps:Array Value,h.get? a=some { cls:=.none,data:=.fields ps }∧(ps = #[] ∨ ∃c',ps = #[rawInt lamL,rawInt lamC,.ref c']∧H c' = some (.own a)∧h.CodeRec (.ref c') lamQ)
 |.met f x=>h.get? a=some (PySem.W.methodObj (.ref f) (.ref x))
 |.ext φ=>φ h∧(∃o,h.get? a=some o)∧∀h1 h2:Heap,φ h1→(∀o,h1.get? a=some o→h2.get? a=some o)→φ h2
def HOk (H:Hp)(h:Heap):Prop:=∀a o,H a=some o→ObjOk P w H h a o
end
section
variable {P:Program}{w:World}{H H':Hp}{h h':Heap}{a:Addr}{o:HO}
theorem ObjOk.lt (x:ObjOk P w H h a o):a<h.objs.size:=by
 cases o with
 |lst xs=>obtain⟨_,_,_,_,e⟩:=x;exact Heap.lt_size e
 |tup xs=>obtain⟨_,_,_,p⟩:=x;exact p.lt
 |dK kvs=>obtain⟨_,_,_,_,o,_,_,e,_⟩:=x;exact Heap.lt_size e
 |dT kvs=>obtain⟨_,_,_,_,o,_,_,e,_⟩:=x;exact Heap.lt_size e
 |set S n=>obtain⟨o,_,_,_,e,_⟩:=x;exact Heap.lt_size e
 |ins C dx fs=>obtain⟨_,_,_,e,_⟩:=x;exact Heap.lt_size e
 |own y=>obtain⟨_,e⟩:=x;exact Heap.lt_size e
 |xd fs=>obtain⟨_,⟨_,_,_,e,_⟩,_⟩:=x;exact Heap.lt_size e
 |rng lo hi=>obtain⟨_,_,_,e⟩:=x;exact Heap.lt_size e
 |frz ob u=>obtain⟨e,_⟩:=x;exact Heap.lt_size e
 |lam=>obtain⟨_,e,_⟩:=x;exact Heap.lt_size e
 |met f y=>exact Heap.lt_size (show h.get? a=some _ from x)
 |ext φ=>obtain⟨_,⟨_,e⟩,_⟩:=x;exact Heap.lt_size e
theorem Paired.mapP {α β:Type}{F G:α→β→Prop}:∀{l₁:List α}{l₂:List β},Paired F l₁ l₂→(∀a b,F a b→G a b)→Paired G l₁ l₂
 |_,_,.nil,_=>.nil
 |_,_,.cons r t,f=>.cons (f _ _ r) (Paired.mapP t f)
theorem ObjOk.stay (x:ObjOk P w H h a o)(k:∀b u,(b=a∨H b=some (.own a))→h.get? b=some u→h'.get? b=some u)
  (ho:∀b,H b=some (.own a)→H' b=some (.own a))(ht:∀b xs,H b=some (.tup xs)→H' b=some (.tup xs)):ObjOk P w H' h' a o:=by
 induction o with
 |lst xs=>obtain⟨z,its,n,r,e⟩:=x;exact⟨z,its,n,r,k _ _ (.inl rfl) e⟩
 |tup xs=>obtain⟨z,its,r,ob,e,c⟩:=x;exact⟨z,its,r,ob,k _ _ (.inl rfl) e,c⟩
 |dK kvs=>obtain⟨z,y,vs,r,ob,es,ep,e,c⟩:=x;exact⟨z,y,vs,r,ob,es,ep,k _ _ (.inl rfl) e,c⟩
 |dT kvs =>
  obtain⟨z,y,xs,r,ob,es,ep,e,c⟩:=x
  exact⟨z,y,xs,Paired.mapP r fun p q z=>⟨z.1,ht _ _ z.2.1,z.2.2⟩,ob,es,ep,k _ _ (.inl rfl) e,c⟩
 |set S n=>obtain⟨ob,es,ep,t,e,c⟩:=x;exact⟨ob,es,ep,t,k _ _ (.inl rfl) e,c⟩
 |ins C dx fs =>
  obtain⟨d,z,ne,e,mA,⟨od,es,ep,e2,c⟩,r⟩:=x
  exact⟨ho _ d,z,ne,k _ _ (.inl rfl) e,mA,⟨od,es,ep,k _ _ (.inr d) e2,c⟩,r⟩
 |own y=>obtain⟨ob,e⟩:=x;exact⟨ob,k _ _ (.inl rfl) e⟩
 |xd fs=>obtain⟨mA,⟨od,es,ep,e,c⟩,r⟩:=x;exact⟨mA,⟨od,es,ep,k _ _ (.inl rfl) e,c⟩,r⟩
 |rng lo hi=>obtain⟨t,u,v,e⟩:=x;exact⟨t,u,v,k _ _ (.inl rfl) e⟩
 |frz ob u ih=>obtain⟨e,q⟩:=x;exact⟨k _ _ (.inl rfl) e,ih q⟩
 |lam =>
  obtain⟨ps,e,r⟩:=x
  refine⟨ps,k a _ (.inl rfl) e,r.imp id fun⟨c',e1,e2,c,o,vs,t,q,e3,e4⟩=>?_⟩
  cases q
  exact⟨c',e1,ho _ e2,c',o,vs,t,rfl,k _ _ (.inr e2) e3,e4⟩
 |met f y =>
  have e:h.get? a=some (PySem.W.methodObj (.ref f) (.ref y)):=x
  show h'.get? a=some (PySem.W.methodObj (.ref f) (.ref y))
  exact k a _ (.inl rfl) e
 |ext φ=>obtain⟨p,⟨o,e⟩,st⟩:=x;exact⟨st _ _ p fun o q=>k _ _ (.inl rfl) q,⟨o,k _ _ (.inl rfl) e⟩,st⟩
theorem HOk.lt (x:HOk P w H h)(e:H a=some o):a<h.objs.size:=(x a o e).lt
theorem HOk.fresh (x:HOk P w H h)(e:h.objs.size≤a):H a=none:=by
 cases q:H a with
 |none=>rfl
 |some u=>exact absurd (Nat.lt_of_lt_of_le (x.lt q) e) (Nat.lt_irrefl _)
theorem HOk.kept (x:HOk P w H h)(k:∀b u,h.get? b=some u→h'.get? b=some u):HOk P w H h':=fun a o e =>
 (x a o e).stay (fun b u _ q=>k b u q) (fun _ q=>q) fun _ _ q=>q
theorem HOk.laid (x:HOk P w H h)(k:∀b u,h.get? b=some u→h'.get? b=some u)(hp:h.objs.size≤a)(new:ObjOk P w (upd H a o) h' a o):HOk P w (upd H a o) h':=fun b u e=>by
 have hn:=x.fresh hp
 by_cases hb:b=a
 ·subst hb;rw[z0g]at e;cases e;exact new
 ·rw[z0i hb]at e
  exact(x b u e).stay (fun c v _ q=>k c v q) (fun c q=>by rw[z0i (z0n q hn)];exact q) fun c xs q=>by rw[z0i (z0n q hn)];exact q
end
def Rd (H:Hp)(a:Addr)(u:HO):Prop:=H a=some u ∨ ∃o,H a=some (.frz o u)
theorem Rd.ok {P:Program}{w:World}{H:Hp}{h:Heap}{a:Addr}{u:HO}(r:Rd H a u)(x:HOk P w H h):ObjOk P w H h a u:=by
 rcases r with r|⟨o,r⟩
 ·exact x a u r
 ·obtain⟨_,q⟩:=x a _ r
  exact q
def Mut:Option HO→Prop
 |some (.lst _)=>True
 |some (.dK _)=>True
 |some (.dT _)=>True
 |some (.set _ _)=>True
 |some (.ins _ _ _)=>True
 |some (.ext _)=>True
 |_=>False
section
variable {P:Program}{w:World}{H:Hp}{h h':Heap}{x e:Addr}{o':HO}
theorem HOk.write (ok:HOk P w H h)(mu:Mut (H x))(he:e=x∨H e=some (.own x))(k:∀b u,b≠e→h.get? b=some u→h'.get? b=some u)(heo:∃u,h'.get? e=some u)
  (new:ObjOk P w (upd H x o') h' x o'):HOk P w (upd H x o') h':=fun b u q=>by
 have nown:∀c y,H c=some (.own y)→c≠x:=fun c y r z=>by subst z;rw[r]at mu;exact mu
 have ntup:∀c xs,H c=some (.tup xs)→c≠x:=fun c xs r z=>by subst z;rw[r]at mu;exact mu
 by_cases hb:b=x
 ·subst hb;rw[z0g]at q;cases q;exact new
 ·rw[z0i hb]at q
  by_cases hbe:b=e
  ·have q':H b=some (.own x):=by
    rcases he with z|z
    ·exact absurd (hbe.trans z) hb
    ·rw[hbe];exact z
   rw[q]at q';cases q'
   obtain⟨v,hv⟩:=heo
   exact⟨v,by rw[hbe];exact hv⟩
  ·refine(ok b u q).stay (fun c v hc r=>k c v ?_ r) (fun c r=>by rw[z0i (nown c b r)];exact r) fun c xs r=>by rw[z0i (ntup c xs r)];exact r
   rcases hc with rfl|hc
   ·exact hbe
   ·rintro rfl
    rcases he with z|z
    ·exact nown c b hc z
    ·rw[hc]at z;cases z;exact hb rfl
end
structure Un (fs ex:List Addr)(H H':Hp)(h h':Heap):Prop where
 keep:∀b o,h.get? b=some o→H b=none→b∉fs→b∉ex→h'.get? b=some o
 slot:∀b o,h.get? b=some o→H b=none→b∈fs→b∉ex→∃sl,h'.get? b=some { o with slots:=sl }
 free:∀b o,h.get? b=some o→H b=none→b∉ex→H' b=none
 there:∀b o,h.get? b=some o→b∉ex→∃o',h'.get? b=some o'
 tups:∀b xs,H b=some (.tup xs)→H' b=some (.tup xs)
 frzs:∀b o u,H b=some (.frz o u)→H' b=some (.frz o u)
 tbls:∀b,H b=some .lam→H' b=some .lam
section
variable {fs fs' ex ex':List Addr}{H H1 H2:Hp}{h h1 h2 h':Heap}{a x e:Addr}{o:HO}
theorem Un.any (u:Un fs ex H H1 h h1){b:Addr}{ob:Obj}(q:h.get? b=some ob)(n:H b=none)(hx:b∉ex):∃sl,h1.get? b=some { ob with slots:=sl }:=by
 by_cases hb:b∈fs
 ·exact u.slot b ob q n hb hx
 ·exact⟨ob.slots,u.keep b ob q n hb hx⟩
theorem Un.kept (k:∀b u,h.get? b=some u→h'.get? b=some u):Un fs ex H H h h' :=
 ⟨fun b ob q _ _ _=>k b ob q,fun b ob q _ _ _=>⟨ob.slots,k b ob q⟩,fun _ _ _ n _=>n,fun b ob q _=>⟨ob,k b ob q⟩,fun _ _ q=>q,fun _ _ _ q=>q,fun _ q=>q⟩
theorem Un.refl:Un fs ex H H h h:=Un.kept fun _ _ q=>q
theorem Un.laid (k:∀b u,h.get? b=some u→h'.get? b=some u)(hp:h.objs.size≤a)(hn:H a=none):Un fs ex H (upd H a o) h h' where
 keep:=fun b u q _ _ _=>k b u q
 slot:=fun b u q _ _ _=>⟨u.slots,k b u q⟩
 free:=fun b u q n _=>by rw[z0i (Nat.ne_of_lt (Nat.lt_of_lt_of_le (Heap.lt_size q) hp))];exact n
 there:=fun b u q _=>⟨u,k b u q⟩
 tups:=fun b xs q=>by rw[z0i (z0n q hn)];exact q
 frzs:=fun b u xs q=>by rw[z0i (z0n q hn)];exact q
 tbls:=fun b q=>by rw[z0i (z0n q hn)];exact q
theorem Un.write (mu:Mut (H x))(he:e=x∨H e=some (.own x))(k:∀b u,b≠e→h.get? b=some u→h'.get? b=some u)(heo:∃u,h'.get? e=some u):Un fs ex H (upd H x o) h h':=by
 have hx:∀b,H b=none→b≠x:=fun b n z=>by subst z;rw[n]at mu;exact mu
 have hb:∀b,H b=none→b≠e:=fun b n z=>by
  subst z
  rcases he with r|r
  ·exact hx b n r
  ·rw[n]at r;cases r
 have hm:∀b u,H b=some u→¬Mut (some u)→b≠x:=fun b u q nm z=>by subst z;rw[q]at mu;exact nm mu
 refine⟨fun b u q n _ _=>k b u (hb b n) q,fun b u q n _ _=>⟨u.slots,k b u (hb b n) q⟩,fun b u q n _=>by rw[z0i (hx b n)];exact n,fun b u q _=>?_,
  fun b xs q=>by rw[z0i (hm b _ q fun z=>z)];exact q,fun b u xs q=>by rw[z0i (hm b _ q fun z=>z)];exact q,fun b q=>by rw[z0i (hm b _ q fun z=>z)];exact q⟩
 by_cases hbe:b=e
 ·subst hbe;exact heo
 ·exact⟨u,k b u hbe q⟩
end
def trk (h:Heap)(H:Hp):List Addr:=(List.range h.objs.size).filter fun a=>(H a).isSome
def hidT (h:Heap)(H:Hp):Heap:=PySem.W.hideAll h (trk h H)
theorem hidT_size (h:Heap)(H:Hp):(hidT h H).objs.size=h.objs.size:=PySem.W.hideAll_size _ _
theorem hidT_get {h:Heap}{H:Hp}{b:Addr}{o:Obj}(e:h.get? b=some o)(n:H b=none):(hidT h H).get? b=some o :=
 PySem.W.hideAll_get _ e fun hm=>by
  have q:(H b).isSome=true:=(List.mem_filter.mp hm).2
  rw[n]at q;simp at q
theorem of_hidT {h:Heap}{H:Hp}{b:Addr}{o:Obj}(e:(hidT h H).get? b=some o):h.get? b=some o∧H b=none:=by
 have e':h.get? b=some o:=PySem.W.of_hideAll (trk h H) e
 refine⟨e',?_⟩
 cases q:H b with
 |none=>rfl
 |some x =>
  have hm:b∈trk h H:=List.mem_filter.mpr ⟨List.mem_range.mpr (Heap.lt_size e'),by simp[q]⟩
  have z:(hidT h H).get? b=none:=PySem.W.hideAll_none (trk h H) hm
  rw[z]at e;cases e
def allNews (g h:Heap)(L:Addr):List (Addr×Obj):=(List.range h.objs.size).filterMap fun a=>if a=L∨(g.get? a).isSome=true then none else(h.get? a).map fun o=>(a,o)
def rest (g h:Heap)(L d:Addr):List (Addr×Obj):=(allNews g h L).filter fun p=>decide (p.1≠d)
end L2
namespace L2
open PySem PySem.Spec PyProof.Rows
structure Mod (K:PySem.W.Frag)(mg:Str→Option Value)(base:Heap):Prop where
 kin:K.In base
 glob:base.Ns mainGlobals mg
 blt:∃mb,base.Ns builtinsNs mb∧∀x:Str,x ≠ "__name__"→mb x=bootBuiltins x
 nolimit:base.NoLimit
 bmain:∃bm ob,mg "__builtins__" = some (.ref bm)∧bm≠builtinsNs∧base.get? bm=some ob∧ob.cls=.type "module"∧ob.dict=some builtinsNs∧ob.data=.plain
structure Cx where
 prog:Program
 w:World
 K:PySem.W.Frag
 mg:Str→Option Value
 base:Heap
 A:Around
 N:List Str
 s₀:Shared
 H₀:Hp
 env:Env
 outer:List Env
 stack:List Env
 ex:List Addr
 fn:Str→Bool
 calm:Bool
 pn:List (Addr×Obj)
 xe:Value→Shared→Prop
def frs (l:List Env):List Addr:=l.filterMap (·.frame)
abbrev Cx.fs (X:Cx):List Addr:=frs X.outer
def Vis (sc:Scope)(x:Str):Prop:=sc.names.lookup x=some .local∨sc.names.lookup x=some .cell∨sc.names.lookup x=some .free
def Loc (sc:Scope)(x:Str):Prop:=sc.names.lookup x=some .local∨sc.names.lookup x=some .cell
def Look (env:Env)(h:Heap)(m:Str→Option Value)(x:Str)(u:Value):Prop :=
 (env.kindOf x=some .local∧m x=some u)∨((env.kindOf x=some .cell∨env.kindOf x=some .free)∧∃c,env.cells.lookup x=some c∧h.IsCell c (some u))
structure Cx.Ok (X:Cx):Prop where
 mod:Mod X.K X.mg X.base
 kind:X.env.scope.kind=.function
 glob:X.env.globals=mainGlobals
 blt:X.env.builtins=builtinsNs
 above:X.s₀.heap.objs.size≤X.env.locals
 inj:∀x y c,X.env.cells.lookup x=some c→X.env.cells.lookup y=some c→x=y
 has:∀x,(X.env.kindOf x=some .cell∨X.env.kindOf x=some .free)→∃c,X.env.cells.lookup x=some c
 cab:∀x c,X.fn x=true→X.env.cells.lookup x=some c→X.s₀.heap.objs.size≤c
 hd:X.calm=true→X.A.handled=none
 frames:X.A.frames=some X.stack
 stk:X.stack=X.outer∨(X.stack=X.env::X.outer∧X.env.frame=some X.env.locals)
 exf:∀b∈X.ex,b≠X.env.locals∧∀x c,X.env.cells.lookup x=some c→c≠b
 bs:∀b o,X.base.get? b=some o→X.s₀.heap.get? b=some o∧X.H₀ b=none
 bsz:X.base.objs.size≤X.s₀.heap.objs.size
 noex:∀b o,X.base.get? b=some o→b∉X.ex
 exfs:∀b∈X.ex,b∉X.fs
 funs:X.s₀.heap.FunFrames X.base X.outer
 frf:∀b∈X.fs,X.H₀ b=none
 lam:LamOk X.H₀
structure Inv (X:Cx)(pins:List (Addr×Obj))(σ:List (Option V))(H:Hp)(s:Shared):Prop where
 ok:X.Ok
 os:s.os=X.s₀.os
 bare:AllBare s.gens
 base:Un X.fs X.ex X.H₀ H X.s₀.heap s.heap
 loc:∃m,s.heap.Ns X.env.locals m∧∀(i:Nat) (x:Str) (v:V),X.N[i]? = some x→σ[i]? = some (some v)→Vis X.env.scope x→∃u,RelV v u∧Look X.env s.heap m x u
 cell:∀x c,X.env.cells.lookup x=some c→∃v,s.heap.IsCell c v
 free:H X.env.locals=none
 freeC:∀x c,X.env.cells.lookup x=some c→H c=none
 pin:∀p∈X.pn++pins,s.heap.get? p.1=some p.2∧H p.1=none∧p.1≠X.env.locals∧p.1∉X.fs∧∀v,p.2.data≠.cell v
 hok:HOk X.prog X.w H s.heap
 len:σ.length=X.N.length
section
variable {X:Cx}{pins:List (Addr×Obj)}{σ:List (Option V)}{H H':Hp}{s:Shared}{h':Heap}
theorem Cx.Ok.nofr (ok:X.Ok){b:Addr}{o:Obj}(e:X.base.get? b=some o):b∉X.fs:=fun hb=>by
 have:=(ok.funs.mem hb).1
 rw[e]at this;cases this
theorem Inv.bs (I:Inv X pins σ H s):∀b o,X.base.get? b=some o→s.heap.get? b=some o∧H b=none:=fun b o e =>
 ⟨I.base.keep b o (I.ok.bs b o e).1 (I.ok.bs b o e).2 (I.ok.nofr e) (I.ok.noex b o e),I.base.free b o (I.ok.bs b o e).1 (I.ok.bs b o e).2 (I.ok.noex b o e)⟩
theorem Inv.bk (I:Inv X pins σ H s):∀b o,X.base.get? b=some o→s.heap.get? b=some o:=fun b o e=>(I.bs b o e).1
theorem Inv.mod (I:Inv X pins σ H s):Mod X.K X.mg X.base:=I.ok.mod
theorem Inv.kIn (I:Inv X pins σ H s):X.K.In s.heap:=I.ok.mod.kin.keeps I.bk
theorem Inv.fr (I:Inv X pins σ H s):∃m,Fr X.base X.env.locals s.heap m :=
 let ⟨m,hn,_⟩:=I.loc
 ⟨m,hn,I.bk,Nat.le_trans I.ok.bsz I.ok.above⟩
theorem Inv.lt (I:Inv X pins σ H s):X.env.locals<s.heap.objs.size:=let ⟨_,hn,_⟩:=I.loc;hn.lt
theorem Inv.sz (I:Inv X pins σ H s):X.s₀.heap.objs.size≤s.heap.objs.size:=Nat.le_trans I.ok.above (Nat.le_of_lt I.lt)
theorem Inv.nofs (I:Inv X pins σ H s){a:Addr}(h:s.heap.objs.size≤a):a∉X.fs:=fun hb=>by
 obtain⟨_,o,ho,_⟩:=I.ok.funs.mem hb
 exact absurd (Nat.lt_of_lt_of_le (Heap.lt_size ho) (Nat.le_trans I.sz h)) (Nat.lt_irrefl _)
theorem Inv.cne (I:Inv X pins σ H s):∀x c,X.env.cells.lookup x=some c→c≠X.env.locals:=fun x c e z=>by
 obtain⟨v,o,ho,hd⟩:=I.cell x c e
 obtain⟨m,⟨o',es,ep,ho',hd',_⟩,_⟩:=I.loc
 rw[z,ho']at ho;cases ho;rw[hd']at hd;cases hd
theorem Inv.funs (I:Inv X pins σ H s):s.heap.FunFrames X.base X.outer:=by
 have all:∀(l:List Env),(∀b∈frs l,b∈X.fs)→X.s₀.heap.FunFrames X.base l→s.heap.FunFrames X.base l:=by
  intro l
  induction l with
  |nil=>intro _ _;trivial
  |cons env r ih =>
   intro hs hl
   obtain⟨hk,⟨L,o,hf,hn,ho,hd⟩,hr⟩:=hl
   have hL:L∈X.fs:=hs L (by unfold frs;rw[List.filterMap_cons,hf];exact List.mem_cons_self)
   obtain⟨sl,e⟩:=I.base.slot L o ho (I.ok.frf L hL) hL fun z=>I.ok.exfs L z hL
   exact⟨hk,⟨L,_,hf,hn,e,hd⟩,ih (fun b hb=>hs b (by unfold frs;rw[List.filterMap_cons,hf];exact List.mem_cons_of_mem _ hb)) hr⟩
 exact all X.outer (fun _ hb=>hb) I.ok.funs
theorem Inv.stack (I:Inv X pins σ H s):s.heap.FunFrames X.base X.stack:=by
 rcases I.ok.stk with e|⟨e,hf⟩
 ·rw[e];exact I.funs
 ·rw[e]
  obtain⟨m,hn,_⟩:=I.loc
  refine .cons (by rw[I.ok.kind];decide) hf hn ?_ I.funs
  exact Heap.get?_none_of_le (Nat.le_trans I.ok.bsz I.ok.above)
theorem Inv.stkSub (I:Inv X pins σ H s):∀b∈frs X.stack,b∈X.env.locals::X.fs:=fun b hb=>by
 rcases I.ok.stk with e|⟨e,hf⟩
 ·rw[e]at hb;exact List.mem_cons_of_mem _ hb
 ·rw[e]at hb
  unfold frs at hb
  rw[List.filterMap_cons,hf]at hb
  exact hb
theorem Inv.stkFree (I:Inv X pins σ H s):∀b∈frs X.stack,H b=none:=fun b hb=>by
 rcases List.mem_cons.mp (I.stkSub b hb) with e|hb
 ·rw[e];exact I.free
 ·obtain⟨_,o,ho,_⟩:=I.ok.funs.mem hb
  exact I.base.free b o ho (I.ok.frf b hb) fun z=>I.ok.exfs b z hb
theorem Inv.step {g':Array GenState}{t':Nat}{d':Drawn}{ch:List Addr}(I:Inv X pins σ H s)
  (hch:∀b∈ch,(b∈X.ex∨X.s₀.heap.objs.size≤b)∧b≠X.env.locals∧(∀x c,X.env.cells.lookup x=some c→c≠b)∧∀p∈X.pn++pins,p.1≠b)
  (keep:∀b o,b≠X.env.locals→b∉X.fs→b∉ch→s.heap.get? b=some o→H b=none→h'.get? b=some o)
  (slot:∀b o,b≠X.env.locals→b∈X.fs→b∉ch→s.heap.get? b=some o→H b=none→∃sl,h'.get? b=some { o with slots:=sl })(free:∀b o,b∉ch→s.heap.get? b=some o→H b=none→H' b=none)
  (there:∀b o,b∉ch→s.heap.get? b=some o→∃o',h'.get? b=some o')
  (tups:∀b xs,H b=some (.tup xs)→H' b=some (.tup xs))(frzs:∀b o u,H b=some (.frz o u)→H' b=some (.frz o u))(tbls:∀b,H b=some .lam→H' b=some .lam)
  (ns:∀m,s.heap.Ns X.env.locals m→h'.Ns X.env.locals m)(hok:HOk X.prog X.w H' h')(hg:AllBare g') :
  Inv X pins σ H' { s with heap:=h',gens:=g',drawn:=d',toks:=t' }:=by
 have neL:∀b o,X.s₀.heap.get? b=some o→b≠X.env.locals:=fun b o e=>Nat.ne_of_lt (Nat.lt_of_lt_of_le (Heap.lt_size e) I.ok.above)
 have neC:∀b o,X.s₀.heap.get? b=some o→b∉X.ex→b∉ch:=fun b o e hx hb=>by
  rcases(hch b hb).1 with z|z
  ·exact hx z
  ·exact absurd (Nat.lt_of_lt_of_le (Heap.lt_size e) z) (Nat.lt_irrefl _)
 have cellK:∀x c,X.env.cells.lookup x=some c→∀v,s.heap.IsCell c v→h'.IsCell c v:=fun x c e v ⟨o,ho,hd⟩=>by
  have nch:c∉ch:=fun z=>(hch c z).2.2.1 x c e rfl
  by_cases hc:c∈X.fs
  ·obtain⟨sl,q⟩:=slot c o (I.cne x c e) hc nch ho (I.freeC x c e)
   exact⟨_,q,hd⟩
  ·exact⟨o,keep c o (I.cne x c e) hc nch ho (I.freeC x c e),hd⟩
 refine⟨I.ok,I.os,hg,⟨fun b o e n hb hx=>?_,fun b o e n hb hx=>?_,fun b o e n hx=>?_,fun b o e hx=>?_,fun b xs e=>tups b xs (I.base.tups b xs e),fun b o xs e=>frzs b o xs (I.base.frzs b o xs e),fun b e=>tbls b (I.base.tbls b e)⟩,?_,fun x c e=>?_,?_,fun x c e=>?_,fun p hp=>?_,hok,I.len⟩
 ·exact keep b o (neL b o e) hb (neC b o e hx) (I.base.keep b o e n hb hx) (I.base.free b o e n hx)
 ·obtain⟨sl,e1⟩:=I.base.slot b o e n hb hx
  obtain⟨sl',e2⟩:=slot b _ (neL b o e) hb (neC b o e hx) e1 (I.base.free b o e n hx)
  exact⟨sl',e2⟩
 ·obtain⟨o',e1⟩:=I.base.there b o e hx
  exact free b o' (neC b o e hx) e1 (I.base.free b o e n hx)
 ·obtain⟨o',e1⟩:=I.base.there b o e hx
  exact there b o' (neC b o e hx) e1
 ·obtain⟨m,hn,hl⟩:=I.loc
  refine⟨m,ns m hn,fun i x v e1 e2 e3=>?_⟩
  obtain⟨u,r,l⟩:=hl i x v e1 e2 e3
  refine⟨u,r,?_⟩
  rcases l with l|⟨k,c,e,z⟩
  ·exact .inl l
  ·exact .inr ⟨k,c,e,cellK x c e _ z⟩
 ·obtain⟨v,z⟩:=I.cell x c e
  exact⟨v,cellK x c e v z⟩
 ·obtain⟨m,⟨o,_,_,ho,_⟩,_⟩:=I.loc
  exact free _ o (fun z=>(hch _ z).2.1 rfl) ho I.free
 ·obtain⟨v,o,ho,hd⟩:=I.cell x c e
  exact free c o (fun z=>(hch c z).2.2.1 x c e rfl) ho (I.freeC x c e)
 ·obtain⟨e,n,ne,nf,d⟩:=I.pin p hp
  have nch:p.1∉ch:=fun z=>(hch p.1 z).2.2.2 p hp rfl
  exact⟨keep p.1 p.2 ne nf nch e n,free p.1 p.2 nch e n,ne,nf,d⟩
theorem Inv.un {t':Nat}(I:Inv X pins σ H s)(u:Un X.fs [] H H' s.heap h')(hok:HOk X.prog X.w H' h'):Inv X pins σ H' { s with heap:=h',toks:=t' }:=by
 obtain⟨m,⟨o,es,ep,ho,r⟩,_⟩:=id I.loc
 obtain⟨sl,hL⟩:=u.any ho I.free (by simp)
 exact I.step (g':=s.gens) (d':=s.drawn) (ch:=[]) (fun _ z=>nomatch z) (fun b o _ hb _ e n=>u.keep b o e n hb (by simp)) (fun b o _ hb _ e n=>u.slot b o e n hb (by simp)) (fun b o _ e n=>u.free b o e n (by simp)) (fun b o _ e=>u.there b o e (by simp)) u.tups u.frzs u.tbls (fun m' hm=>by
  obtain⟨o',es',ep',ho',r'⟩:=hm
  rw[ho]at ho';cases ho'
  exact⟨_,es',ep',hL,r'⟩) hok I.bare
theorem Inv.call {g':Array GenState}{t':Nat}{d':Drawn}{ch:List Addr}(I:Inv X pins σ H s)(u:Un (frs X.stack) ch H H' s.heap h')(hok:HOk X.prog X.w H' h')(hg:AllBare g')
  (hch:∀b∈ch,(b∈X.ex∨X.s₀.heap.objs.size≤b)∧b≠X.env.locals∧(∀x c,X.env.cells.lookup x=some c→c≠b)∧∀p∈X.pn++pins,p.1≠b) :
  Inv X pins σ H' { s with heap:=h',gens:=g',drawn:=d',toks:=t' }:=by
 obtain⟨m,⟨o,es,ep,ho,r⟩,_⟩:=id I.loc
 obtain⟨sl,hL⟩:=u.any ho I.free fun z=>(hch _ z).2.1 rfl
 exact I.step (ch:=ch) hch (fun b o hL hb hc e n=>u.keep b o e n (fun z=>(List.mem_cons.mp (I.stkSub b z)).elim hL hb) hc) (fun b o _ _ hc e n=>u.any e n hc) (fun b o hc e n=>u.free b o e n hc) (fun b o hc e=>u.there b o e hc) u.tups u.frzs u.tbls (fun m' hm=>by
  obtain⟨o',es',ep',ho',r'⟩:=hm
  rw[ho]at ho';cases ho'
  exact⟨_,es',ep',hL,r'⟩) hok hg
theorem Inv.turned {t':Nat}{it:Addr}(I:Inv X pins σ H s)(k:∀b o,b≠it→s.heap.get? b=some o→h'.get? b=some o)(hn:H it=none)(hL:it≠X.env.locals)
  (h1:it∈X.ex∨X.s₀.heap.objs.size≤it)(h2:∀x c,X.env.cells.lookup x=some c→c≠it)(h3:∀p∈X.pn++pins,p.1≠it):Inv X pins σ H { s with heap:=h',toks:=t' }:=by
 have nit:∀b u,H b=some u→b≠it:=fun b u e z=>by rw[z,hn]at e;cases e
 refine I.step (g':=s.gens) (d':=s.drawn) (ch:=[it]) (fun b hb=>?_) (fun b o _ _ hc e _=>k b o (fun z=>hc (by simp[z])) e) (fun b o _ _ hc e _=>⟨o.slots,k b o (fun z=>hc (by simp[z])) e⟩) (fun _ _ _ _ n=>n)
  (fun b o hc e=>⟨o,k b o (fun z=>hc (by simp[z])) e⟩) (fun _ _ e=>e) (fun _ _ _ e=>e) (fun b e=>e) (fun m hm=>?_) (fun b u e=>?_) I.bare
 ·have e:b=it:=by simpa using hb
  subst e
  exact⟨h1,hL,h2,h3⟩
 ·obtain⟨o,es,ep,ho,r⟩:=hm
  exact⟨o,es,ep,k _ o (Ne.symm hL) ho,r⟩
 ·refine(I.hok b u e).stay (fun c v hc q=>k c v ?_ q) (fun _ q=>q) fun _ _ q=>q
  rcases hc with z|z
  ·rw[z];exact nit b u e
  ·exact nit c _ z
theorem Inv.tok (I:Inv X pins σ H s)(t:Nat):Inv X pins σ H { s with toks:=t }:=I.un (h':=s.heap) (t':=t) Un.refl I.hok
theorem Inv.kept {t':Nat}(I:Inv X pins σ H s)(k:∀b u,s.heap.get? b=some u→h'.get? b=some u):Inv X pins σ H { s with heap:=h',toks:=t' }:=I.un (Un.kept k) (I.hok.kept k)
theorem Inv.laid {a:Addr}{o:HO}{t':Nat}(I:Inv X pins σ H s)(k:∀b u,s.heap.get? b=some u→h'.get? b=some u)(hp:s.heap.objs.size≤a)(new:ObjOk X.prog X.w (upd H a o) h' a o) :
  Inv X pins σ (upd H a o) { s with heap:=h',toks:=t' }:=I.un (Un.laid k hp (I.hok.fresh hp)) (I.hok.laid k hp new)
theorem Inv.write {x e:Addr}{o:HO}{t':Nat}(I:Inv X pins σ H s)(mu:Mut (H x))(he:e=x∨H e=some (.own x))(k:∀b u,b≠e→s.heap.get? b=some u→h'.get? b=some u)(heo:∃u,h'.get? e=some u)
  (new:ObjOk X.prog X.w (upd H x o) h' x o):Inv X pins σ (upd H x o) { s with heap:=h',toks:=t' }:=I.un (Un.write mu he k heo) (I.hok.write mu he k heo new)
theorem Inv.pins_of {pins':List (Addr×Obj)}(I:Inv X pins σ H s)(h:∀p∈pins',s.heap.get? p.1=some p.2∧H p.1=none∧p.1≠X.env.locals∧p.1∉X.fs∧∀v,p.2.data≠.cell v):Inv X pins' σ H s :=
 ⟨I.ok,I.os,I.bare,I.base,I.loc,I.cell,I.free,I.freeC,fun p hp=>(List.mem_append.mp hp).elim (fun z=>I.pin p (List.mem_append_left _ z)) (h p),I.hok,I.len⟩
theorem y4b {N:List Str}(hN:N.Nodup){i j:Nat}{x:Str}(a:N[i]? = some x)(b:N[j]? = some x):i=j:=by
 obtain⟨h1,e1⟩:=List.getElem?_eq_some_iff.mp a
 obtain⟨h2,e2⟩:=List.getElem?_eq_some_iff.mp b
 exact(List.getElem_inj hN).mp (e1.trans e2.symm)
theorem y5y {M:Model}{A:Around}{E:Value→Shared→Prop}{i:Nat}{x:Str}{v:V}{u:Value}{Q:Unit→Shared→Prop}(I:Inv X pins σ H s)(hN:X.N.Nodup)(hi:X.N[i]? = some x)(hx:Loc X.env.scope x)(r:RelV v u)
  (h:∀s',Inv X pins (σ.set i (some v)) H s'→(∃a,Heap.SameBut a s.heap s'.heap∧(a=X.env.locals∨X.env.cells.lookup x=some a))→Q () s')(hf:X.fn x=true∨X.env.scope.names.lookup x=some .local:=by first|exact .inl rfl|exact .inr rfl|assumption):wpAny M A (storeName X.env x u) Q E s:=by
 obtain⟨m,hn,hl⟩:=id I.loc
 have hcls:(X.env.scope.kind == .class||(X.env.scope.kind == .module&&X.env.locals != X.env.globals))=false:=by rw[I.ok.kind];rfl
 have hiσ:i<σ.length:=by rw[I.len];exact(List.getElem?_eq_some_iff.mp hi).1
 have cne:=I.cne
 have tracked:∀{a:Addr}{h':Heap},(∃o,s.heap.get? a=some o∧H a=none)→Heap.SameBut a s.heap h'→HOk X.prog X.w H h':=fun {a h'} ha hs b ob e=>by
  obtain⟨_,_,hfree⟩:=ha
  refine(I.hok b ob e).stay (fun c w' hc q=>(hs.2 c ?_).trans q) (fun _ q=>q) fun _ _ q=>q
  rintro rfl
  rcases hc with rfl|hc
  ·rw[hfree]at e;cases e
  ·rw[hfree]at hc;cases hc
 rcases hx with hk|hk
 ·refine wpAny_storeName_local hk hn (fun h' hn' hs=>?_) hcls
  obtain⟨oL,_,_,hoL,_⟩:=id hn
  refine h _ ⟨I.ok,I.os,I.bare,⟨fun b o e n hb hx=>?_,fun b o e n hb hx=>?_,I.base.free,fun b o e hx=>?_,I.base.tups,I.base.frzs,I.base.tbls⟩,⟨_,hn',fun j y v' e1 e2 e3=>?_⟩,fun y c e=>?_,I.free,I.freeC,fun p hp=>?_,tracked ⟨oL,hoL,I.free⟩ hs,by simpa using I.len⟩ ⟨_,hs,.inl rfl⟩
  ·exact(hs.2 b (Nat.ne_of_lt (Nat.lt_of_lt_of_le (Heap.lt_size e) I.ok.above))).trans (I.base.keep b o e n hb hx)
  ·obtain⟨sl,e1⟩:=I.base.slot b o e n hb hx
   exact⟨sl,(hs.2 b (Nat.ne_of_lt (Nat.lt_of_lt_of_le (Heap.lt_size e) I.ok.above))).trans e1⟩
  ·obtain⟨o',e1⟩:=I.base.there b o e hx
   exact⟨o',(hs.2 b (Nat.ne_of_lt (Nat.lt_of_lt_of_le (Heap.lt_size e) I.ok.above))).trans e1⟩
  ·by_cases hj:j=i
   ·subst hj
    rw[hi]at e1;cases e1
    rw[List.getElem?_set_self hiσ]at e2
    cases e2
    exact⟨u,r,.inl ⟨hk,by simp⟩⟩
   ·rw[List.getElem?_set_ne (Ne.symm hj)]at e2
    obtain⟨u',r',q⟩:=hl j y v' e1 e2 e3
    refine⟨u',r',?_⟩
    rcases q with ⟨k,e⟩|⟨k,c,e,z⟩
    ·refine .inl ⟨k,?_⟩
     have:y≠x:=fun e=>hj (y4b hN e1 (e ▸ hi))
     simp[this,e]
    ·exact .inr ⟨k,c,e,z.sameBut hs (cne y c e)⟩
  ·obtain⟨w',z⟩:=I.cell y c e
   exact⟨w',z.sameBut hs (cne y c e)⟩
  ·obtain⟨e,n,ne,nf,d⟩:=I.pin p hp
   exact⟨(hs.2 p.1 ne).trans e,n,ne,nf,d⟩
 ·have hfn:X.fn x=true:=by
   rcases hf with z|z
   ·exact z
   ·rw[z]at hk;cases hk
  obtain⟨c,hc⟩:=I.ok.has x (.inl hk)
  obtain⟨w',z⟩:=I.cell x c hc
  refine wpAny_storeName_cell I.ok.kind hk hc z (fun h' hc' hs=>?_)
  obtain⟨oc,hoc,hocd⟩:=id z
  refine h { s with heap:=h' } ⟨I.ok,I.os,I.bare,⟨fun b o e n hb hx=>?_,fun b o e n hb hx=>?_,I.base.free,fun b o e hx=>?_,I.base.tups,I.base.frzs,I.base.tbls⟩,⟨m,hn.sameBut hs (Ne.symm (cne x c hc)),fun j y v' e1 e2 e3=>?_⟩,fun y c' e=>?_,I.free,I.freeC,fun p hp=>?_,tracked ⟨oc,hoc,I.freeC x c hc⟩ hs,by simpa using I.len⟩ ⟨c,hs,.inr hc⟩
  ·exact(hs.2 b (Nat.ne_of_lt (Nat.lt_of_lt_of_le (Heap.lt_size e) (I.ok.cab x c hfn hc)))).trans (I.base.keep b o e n hb hx)
  ·obtain⟨sl,e1⟩:=I.base.slot b o e n hb hx
   exact⟨sl,(hs.2 b (Nat.ne_of_lt (Nat.lt_of_lt_of_le (Heap.lt_size e) (I.ok.cab x c hfn hc)))).trans e1⟩
  ·obtain⟨o',e1⟩:=I.base.there b o e hx
   exact⟨o',(hs.2 b (Nat.ne_of_lt (Nat.lt_of_lt_of_le (Heap.lt_size e) (I.ok.cab x c hfn hc)))).trans e1⟩
  ·by_cases hj:j=i
   ·subst hj
    rw[hi]at e1;cases e1
    rw[List.getElem?_set_self hiσ]at e2
    cases e2
    exact⟨u,r,.inr ⟨.inl hk,c,hc,hc'⟩⟩
   ·rw[List.getElem?_set_ne (Ne.symm hj)]at e2
    obtain⟨u',r',q⟩:=hl j y v' e1 e2 e3
    refine⟨u',r',?_⟩
    rcases q with q|⟨k,c',e,z'⟩
    ·exact .inl q
    ·refine .inr ⟨k,c',e,z'.sameBut hs ?_⟩
     rintro rfl
     exact hj (y4b hN e1 (I.ok.inj _ _ _ e hc ▸ hi))
  ·by_cases hcc:c' = c
   ·subst hcc;exact⟨_,hc'⟩
   ·obtain⟨w2,z2⟩:=I.cell y c' e
    exact⟨w2,z2.sameBut hs hcc⟩
  ·obtain⟨e,n,ne,nf,d⟩:=I.pin p hp
   refine⟨(hs.2 p.1 ?_).trans e,n,ne,nf,d⟩
   intro q
   rw[q,hoc]at e
   have q':oc=p.2:=Option.some.inj e
   exact d w' (by rw[←q'];exact hocd)
theorem z8h {M:Model}{A:Around}{E:Value→Shared→Prop}{i:Nat}{x:Str}{v:V}{u:Value}{Q:Unit→Shared→Prop}(I:Inv X pins σ H s)(hN:X.N.Nodup)(hi:X.N[i]? = some x)(hx:Loc X.env.scope x)(r:RelV v u)
  (h:∀s',Inv X pins (σ.set i (some v)) H s'→Q () s')(hf:X.fn x=true∨X.env.scope.names.lookup x=some .local:=by first|exact .inl rfl|exact .inr rfl|assumption):wpAny M A (storeName X.env x u) Q E s :=
 y5y I hN hi hx r (fun s' I' _=>h s' I') hf
theorem Inv.call' {s':Shared}{ch:List Addr}(I:Inv X pins σ H s)(ho:s'.os=s.os)(u:Un (frs X.stack) ch H H' s.heap s'.heap)(hok:HOk X.prog X.w H' s'.heap)(hg:AllBare s'.gens)
  (hch:∀b∈ch,(b∈X.ex∨X.s₀.heap.objs.size≤b)∧b≠X.env.locals∧(∀x c,X.env.cells.lookup x=some c→c≠b)∧∀p∈X.pn++pins,p.1≠b):Inv X pins σ H' s':=by
 obtain⟨h',g',d',t',o'⟩:=s'
 have e:o' = s.os:=ho
 subst e
 exact I.call (g':=g') (t':=t') (d':=d') u hok hg hch
end
abbrev XK:=Value→Option Addr→Hp→Prop
abbrev St:=List (Option V)
abbrev VK:=V→Hp→Prop
abbrev TE:=St→Hp→VK→Prop
abbrev TT:=St→Hp→(Bool→Hp→Prop)→Prop
abbrev TA:=St→Hp→(List V→Hp→Prop)→Prop
structure Ends where
 nx:St→Hp→Prop
 rt:VK
 bk:St→Hp→Prop:=fun _ _=>False
 ct:St→Hp→Prop:=fun _ _=>False
abbrev TS:=Ends→St→Hp→Prop
def EP (X:Cx)(pins:List (Addr×Obj))(σ:St)(Q:VK)(u:Value)(s':Shared):Prop:=∃v H',Inv X pins σ H' s'∧RelV v u∧Q v H'
def TP (X:Cx)(pins:List (Addr×Obj))(σ:St)(Q:Bool→Hp→Prop)(b:Bool)(s':Shared):Prop:=∃H',Inv X pins σ H' s'∧Q b H'
def AP (X:Cx)(pins:List (Addr×Obj))(σ:St)(Q:List V→Hp→Prop)(us:List Value)(s':Shared):Prop:=∃vs H',Inv X pins σ H' s'∧Vals vs us∧Q vs H'
def SP (X:Cx)(pins:List (Addr×Obj))(D:Ends)(f:Flow)(s':Shared):Prop :=
 match f with
 |.next=>∃σ' H',Inv X pins σ' H' s'∧D.nx σ' H'
 |.brk=>∃σ' H',Inv X pins σ' H' s'∧D.bk σ' H'
 |.cont=>∃σ' H',Inv X pins σ' H' s'∧D.ct σ' H'
 |.ret u=>∃v σ' H',Inv X pins σ' H' s'∧RelV v u∧D.rt v H'
def PE (X:Cx)(e:Expr)(t:TE):Prop :=
 ∀(pins:List (Addr×Obj)) (s:Shared) (σ:St) (H:Hp) (Q:VK),Inv X pins σ H s→t σ H Q→wpAny (model X.prog X.w) X.A (eval e X.env) (EP X pins σ Q) X.xe s
def PT (X:Cx)(e:Expr)(t:TT):Prop :=
 ∀(pins:List (Addr×Obj)) (s:Shared) (σ:St) (H:Hp) (Q:Bool→Hp→Prop),Inv X pins σ H s→t σ H Q→wpAny (model X.prog X.w) X.A (isTrue e X.env (eval e X.env)) (TP X pins σ Q) X.xe s
def PW (X:Cx)(e:Expr)(t:TT):Prop :=
 ∀(whole:Sem Value) (pins:List (Addr×Obj)) (s:Shared) (σ:St) (H:Hp) (Q:Bool→Hp→Prop),Inv X pins σ H s→t σ H Q→wpAny (model X.prog X.w) X.A (isTrue e X.env whole) (TP X pins σ Q) X.xe s
theorem PW.pt {X:Cx}{e:Expr}{t:TT}(h:PW X e t):PT X e t:=h _
def PA (X:Cx)(es:List Expr)(t:TA):Prop :=
 ∀(pos:Pos) (pins:List (Addr×Obj)) (s:Shared) (σ:St) (H:Hp) (Q:List V→Hp→Prop),Inv X pins σ H s→t σ H Q→wpAny (model X.prog X.w) X.A (spliced (backTo pos (starEach es X.env))) (AP X pins σ Q) X.xe s
def PS (X:Cx)(st:Stmt)(t:TS):Prop :=
 ∀(pins:List (Addr×Obj)) (s:Shared) (σ:St) (H:Hp) (D:Ends),Inv X pins σ H s→t D σ H→wpAny (model X.prog X.w) X.A (exec st X.env) (SP X pins D) X.xe s
def PSs (X:Cx)(st:List Stmt)(t:TS):Prop :=
 ∀(pins:List (Addr×Obj)) (s:Shared) (σ:St) (H:Hp) (D:Ends),Inv X pins σ H s→t D σ H→wpAny (model X.prog X.w) X.A (execs st X.env) (SP X pins D) X.xe s
theorem thn {α:Type}{t:Sem α}{Q Q':α→Shared→Prop}{M:Model}{A:Around}{E:Value→Shared→Prop}{s:Shared}(h:wpAny M A t Q E s)(hQ:∀a s,Q a s→Q' a s):wpAny M A t Q' E s:=wpAny_mono h hQ fun _ _ x=>x
end L2
namespace L2
open PySem PySem.Spec PyProof.Rows
section
variable {X:Cx}
def tVar (i:Nat):TE:=fun σ H Q=>∃v,σ[i]? = some (some v)∧Q v H
def tC (v:V):TE:=fun _ H Q=>Q v H
theorem y1m {i:Nat}{x:Str}{pos:Pos}(hN:X.N[i]? = some x)(hv:Vis X.env.scope x)(hd:(x == ("__debug__":Str))=false:=by decide)(hcd:(x == ("__classdict__":Str))=false:=by decide):PE X (.Name x pos) (tVar i):=by
 intro pins s σ H Q I h
 obtain⟨v,e,h⟩:=h
 obtain⟨m,hn,hl⟩:=I.loc
 obtain⟨u,r,l⟩:=hl i x v hN e hv
 have fin:EP X pins σ Q u s:=⟨v,H,I,r,h⟩
 rcases l with ⟨hk,hm⟩|⟨hk,c,hc,hcell⟩
 ·exact wpAny_Name (wpAny_loadName_local I.ok.kind hk hn hm fin) hd
 ·rcases hk with hk|hk
  ·exact wpAny_Name (wpAny_loadName_cell I.ok.kind hk hc hcell fin) hd
  ·exact wpAny_Name (wpAny_loadName_free I.ok.kind hk hc hcell fin hcd) hd
theorem z1h {i j pos}:PE X (.Constant (.int i) j pos) (tC (.int i)):=fun _ _ _ H _ I h=>wpAny_Constant_int ⟨.int i,H,I.tok _,⟨_,rfl⟩,h⟩
theorem y1w {b j pos}:PE X (.Constant (.bool b) j pos) (tC (.bl b)):=fun _ _ _ H _ I h=>Constant_bool ⟨.bl b,H,I,rfl,h⟩
theorem z6h {j pos}:PE X (.Constant .none j pos) (tC .non):=fun _ _ _ H _ I h=>Constant_none ⟨.non,H,I,rfl,h⟩
theorem z1t {x j pos}:PE X (.Constant (.str x) j pos) (tC (.str x)):=fun _ _ _ H _ I h=>Calls.Constant_str ⟨.str x,H,I.tok _,⟨_,rfl⟩,h⟩
def Gl (X:Cx)(x:Str):Prop:=X.env.kindOf x=some .globalImplicit
theorem z7g {E:Value→Shared→Prop}{pins:List (Addr×Obj)}{s:Shared}{σ:St}{H:Hp}{x:Str}{u:Value}{pos:Pos}{Q:Value→Shared→Prop}(I:Inv X pins σ H s)(hg:Gl X x)(hm:X.mg x=some u)(h:Q u s)
  (hd:(x == ("__debug__":Str))=false:=by decide):wpAny (model X.prog X.w) X.A (eval (.Name x pos) X.env) Q E s :=
 Calls.Name_function_global I.ok.kind hg (Calls.loadGlobal_global (by rw[I.ok.glob];exact I.mod.glob.keeps I.bk) hm h) hd
theorem z9d {E:Value→Shared→Prop}{pins:List (Addr×Obj)}{s:Shared}{σ:St}{H:Hp}{x:Str}{u:Value}{pos:Pos}{Q:Value→Shared→Prop}(I:Inv X pins σ H s)(hg:Gl X x)(hm:X.mg x=none)(hv:bootBuiltins x=some u)(h:Q u s)
  (hn:x ≠ "__name__":=by decide)(hd:(x == ("__debug__":Str))=false:=by decide):wpAny (model X.prog X.w) X.A (eval (.Name x pos) X.env) Q E s:=by
 obtain⟨mb,h1,h2⟩:=I.mod.blt
 exact Calls.Name_function_global I.ok.kind hg (Calls.loadGlobal_builtin (by rw[I.ok.glob];exact I.mod.glob.keeps I.bk) hm (by rw[I.ok.blt];exact h1.keeps I.bk) ((h2 x hn).trans hv) h) hd
theorem z8s {x:Str}{v:V}{u:Value}{pos:Pos}(hg:Gl X x)(hm:X.mg x=some u)(r:RelV v u)(hd:(x == ("__debug__":Str))=false:=by decide):PE X (.Name x pos) (tC v) :=
 fun _ _ _ H _ I h=>z7g I hg hm ⟨v,H,I,r,h⟩ hd
theorem pe_bltn {x:Str}{v:V}{u:Value}{pos:Pos}(hg:Gl X x)(hm:X.mg x=none)(hv:bootBuiltins x=some u)(r:RelV v u)(hn:x ≠ "__name__":=by decide)(hd:(x == ("__debug__":Str))=false:=by decide):PE X (.Name x pos) (tC v) :=
 fun _ _ _ H _ I h=>z9d I hg hm hv ⟨v,H,I,r,h⟩ hn hd
variable {a b:Expr}{ta tb:TE}{pos:Pos}
def PC (X:Cx)(op:CmpOp)(a b:Expr)(t:TE):Prop :=
 ∀(pins:List (Addr×Obj)) (s:Shared) (σ:St) (H:Hp) (Q:VK),Inv X pins σ H s→t σ H Q →
  wpAny (model X.prog X.w) X.A (eval a X.env) (fun v s₁=>wpAny (model X.prog X.w) X.A (eval b X.env) (fun u s₂=>wpAny (model X.prog X.w) X.A (compareOp op v u) (EP X pins σ Q) X.xe s₂) X.xe s₁) X.xe s
theorem nobehind (b:Expr){op:CmpOp}(h:op≠.In)(h2:op≠.NotIn):behindInMarks op b=false:=by
 have e1:(op == CmpOp.In)=false:=by cases op<;>first|rfl|exact absurd rfl h
 have e2:(op == CmpOp.NotIn)=false:=by cases op<;>first|rfl|exact absurd rfl h2
 cases b<;>simp[behindInMarks,e1,e2]
def tB (t:TE):TT:=fun σ H Q=>t σ H fun x H1=>∃c,x=.bl c∧Q c H1
theorem y5x {op:CmpOp}{t:TE}(h:PC X op a b t)(h1:behindInMarks op b=false:=by first|exact nobehind _ (by decide) (by decide)|rfl):PT X (.Compare a [op] [b] pos) (tB t):=by
 intro pins s σ H Q I hw
 refine wpAny_isTrue_Compare1 (thn (h pins s σ H _ I hw) fun v s1 h1=>thn h1 fun u s2 h2=>thn h2 fun c s3 ⟨x,H1,I1,r1,q1⟩=>?_) h1
 obtain⟨d,rfl,q⟩:=q1
 cases r1
 exact wpAny_truthy_bool ⟨H1,I1,q⟩
theorem z4u {e:Expr}{t:TE}(h:PE X e t)(he:∀whole,isTrue e X.env whole=(do let v ←whole;standAt e.pos;holding [v] (truthy v)):=by intro _;rfl):PT X e (tB t):=by
 intro pins s σ H Q I hw
 refine isTrue_plain (thn (h pins s σ H _ I hw) fun v s1 ⟨x,H1,I1,r1,q1⟩=>?_) (he _)
 obtain⟨d,rfl,q⟩:=q1
 cases r1
 exact wpAny_truthy_bool ⟨H1,I1,q⟩
variable {tA tB':TT}{rest:List Expr}
def tAnd (t u:TT):TT:=fun σ H Q=>t σ H fun c H1=>if c=true then u σ H1 Q else Q false H1
def tOr (t u:TT):TT:=fun σ H Q=>t σ H fun c H1=>if c=true then Q true H1 else u σ H1 Q
def tNot (t:TT):TT:=fun σ H Q=>t σ H fun c H1=>Q (!c) H1
theorem z8t (ha:PT X a tA):PW X (.BoolOp .And [a] pos) tA:=by
 intro wh pins s σ H Q I h
 refine isTrue_and (thn (ha pins s σ H Q I h) fun c s1 e=>?_)
 cases c with
 |true=>exact isTrue_and_nil e
 |false=>exact e
theorem y1u (ha:PT X a tA):PW X (.BoolOp .Or [a] pos) tA:=by
 intro wh pins s σ H Q I h
 refine isTrue_or (thn (ha pins s σ H Q I h) fun c s1 e=>?_)
 cases c with
 |false=>exact isTrue_or_nil e
 |true=>exact e
theorem y2o (ha:PT X a tA)(hb:PW X (.BoolOp .And (b::rest) pos) tB'):PW X (.BoolOp .And (a::b::rest) pos) (tAnd tA tB'):=by
 intro wh pins s σ H Q I h
 refine isTrue_and (thn (ha pins s σ H _ I h) fun c s1 ⟨H1,I1,q1⟩=>?_)
 cases c with
 |true=>exact hb wh pins s1 σ H1 Q I1 q1
 |false=>exact⟨H1,I1,q1⟩
theorem y6n (ha:PT X a tA)(hb:PW X (.BoolOp .Or (b::rest) pos) tB'):PW X (.BoolOp .Or (a::b::rest) pos) (tOr tA tB'):=by
 intro wh pins s σ H Q I h
 refine isTrue_or (thn (ha pins s σ H _ I h) fun c s1 ⟨H1,I1,q1⟩=>?_)
 cases c with
 |true=>exact⟨H1,I1,q1⟩
 |false=>exact hb wh pins s1 σ H1 Q I1 q1
theorem z8a (ha:PT X a tA):PT X (.UnaryOp .Not a pos) (tNot tA):=by
 intro pins s σ H Q I h
 exact isTrue_not (ha pins s σ H (fun c H1=>Q (!c) H1) I h)
def tAndV (ta tb:TE):TE:=fun σ H Q=>ta σ H fun x H1=>∃c,x=.bl c∧if c=true then tb σ H1 Q else Q (.bl false) H1
def tNotV (ta:TE):TE:=fun σ H Q=>ta σ H fun x H1=>∃c,x=.bl c∧Q (.bl (!c)) H1
theorem pe_one {op}{t:TE}(h:PE X a t):PE X (.BoolOp op [a] pos) t:=fun pins s σ H Q I hw=>BoolOp_one (h pins s σ H Q I hw)
theorem pe_and (ha:PE X a ta)(hb:PE X (.BoolOp .And (b::rest) pos) tb):PE X (.BoolOp .And (a::b::rest) pos) (tAndV ta tb):=by
 intro pins s σ H Q I h
 refine BoolOp_and (thn (ha pins s σ H _ I h) fun v s1 ⟨x,H1,I1,r1,q1⟩=>?_)
 obtain⟨c,rfl,q1⟩:=q1
 cases r1
 refine wpAny_truthy_bool ?_
 cases c with
 |true=>exact hb pins s1 σ H1 Q I1 q1
 |false=>exact⟨.bl false,H1,I1,rfl,q1⟩
theorem pe_not (ha:PE X a ta):PE X (.UnaryOp .Not a pos) (tNotV ta):=by
 intro pins s σ H Q I h
 refine UnaryOp_ (thn (ha pins s σ H _ I h) fun v s1 ⟨x,H1,I1,r1,q1⟩=>?_)
 obtain⟨c,rfl,q1⟩:=q1
 cases r1
 exact not_of (wpAny_truthy_bool ⟨.bl (!c),H1,I1,rfl,q1⟩)
def tIf (t:TT)(ta tb:TE):TE:=fun σ H Q=>t σ H fun c H1=>if c=true then ta σ H1 Q else tb σ H1 Q
theorem z5x {c:Expr}(hc:PT X c tA)(ha:PE X a ta)(hb:PE X b tb):PE X (.IfExp c a b pos) (tIf tA ta tb):=by
 intro pins s σ H Q I h
 refine wpAny_IfExp (thn (hc pins s σ H _ I h) fun d s1 ⟨H1,I1,q1⟩=>?_)
 cases d with
 |true=>exact ha pins s1 σ H1 Q I1 q1
 |false=>exact hb pins s1 σ H1 Q I1 q1
end
end L2
namespace L2
open PySem PySem.Spec PyProof.Rows
def SqL (K:PySem.W.Frag)(H:Hp)(a:Addr)(xs:List V):Prop :=
 Rd H a (.lst xs) ∨
  ∃(o:Obj) (its:Array Value) (n:Nat),K.lookup a=some o∧o.cls=.type "list"∧o.dict=none∧o.data=.seq its n∧its.size≤sizeLine∧Vals xs its.toList
def SqT (K:PySem.W.Frag)(H:Hp)(a:Addr)(xs:List V):Prop :=
 Rd H a (.tup xs) ∨
  ∃(o:Obj) (its:Array Value) (n:Nat),K.lookup a=some o∧o.cls=.type "tuple"∧o.data=.seq its n∧its.size≤sizeLine∧Vals xs its.toList
def absV:Value→Option V
 |.none=>some .non
 |.bool b=>some (.bl b)
 |.int i _=>some (.int i)
 |.str x _=>some (.str x)
 |.bytes b _=>some (.byt b)
 |.float b _=>some (.flt b)
 |.ref a=>some (.ref a)
 |.type n=>some (.ty n)
 |_=>none
theorem RelV.abs {x:V}{u:Value}(r:RelV x u):absV u=some x:=by
 cases x with
 |non=>cases r;rfl
 |bl _=>cases r;rfl
 |int _=>obtain⟨t,rfl⟩:=r;rfl
 |str _=>obtain⟨t,rfl⟩:=r;rfl
 |byt _=>obtain⟨t,rfl⟩:=r;rfl
 |flt _=>obtain⟨t,rfl⟩:=r;rfl
 |ref _=>cases r;rfl
 |ty _=>cases r;rfl
theorem RelV.inj {x y:V}{u:Value}(r:RelV x u)(q:RelV y u):x=y:=Option.some.inj (r.abs.symm.trans q.abs)
theorem Vals.inj:∀{xs ys:List V}{us:List Value},Vals xs us→Vals ys us→xs=ys
 |_,_,_,.nil,.nil=>rfl
 |_,_,_,.cons r t,.cons r' t'=>by rw[r.inj r',Vals.inj t t']
section
variable {X:Cx}{pins:List (Addr×Obj)}{σ:St}{H:Hp}{s:Shared}{a:Addr}{xs ys:List V}
theorem SqL.of {K:PySem.W.Frag}(h:H a=some (.lst xs)):SqL K H a xs:=.inl (.inl h)
theorem SqT.of {K:PySem.W.Frag}(h:H a=some (.tup xs)):SqT K H a xs:=.inl (.inl h)
theorem Inv.list (I:Inv X pins σ H s)(h:SqL X.K H a xs):∃its:List Value,Vals xs its∧PlainL s.heap a its.toArray∧xs.length≤sizeLine:=by
 rcases h with h|⟨o,its,n,hk,hc,hd,hs,hz,r⟩
 ·obtain⟨z,its,n,r,e⟩:=h.ok I.hok
  exact⟨its,r,⟨_,n,e,rfl,rfl,rfl⟩,z⟩
 ·refine⟨its.toList,r,⟨o,n,I.kIn a o hk,hc,hd,by simpa using hs⟩,?_⟩
  have e:=r.length
  simp only[Array.length_toList]at e
  omega
theorem Inv.tuple (I:Inv X pins σ H s)(h:SqT X.K H a xs):∃its:List Value,Vals xs its∧IsTup s.heap a its.toArray∧xs.length≤sizeLine:=by
 rcases h with h|⟨o,its,n,hk,hc,hs,hz,r⟩
 ·obtain⟨z,its,r,p⟩:=h.ok I.hok
  exact⟨its,r,p,z⟩
 ·refine⟨its.toList,r,⟨o,I.kIn a o hk,hc,n,by simpa using hs⟩,?_⟩
  have e:=r.length
  simp only[Array.length_toList]at e
  omega
theorem Inv.list_inj (I:Inv X pins σ H s)(h:SqL X.K H a xs)(h':SqL X.K H a ys):xs=ys:=by
 obtain⟨its,r,⟨o,n,e,_,_,d⟩,_⟩:=I.list h
 obtain⟨its',r',⟨o',n',e',_,_,d'⟩,_⟩:=I.list h'
 rw[e]at e';cases e'
 rw[d]at d'
 injection d' with d1 _
 have:its=its':=by simpa using congrArg Array.toList d1
 subst this
 exact r.inj r'
end
abbrev Cx.wish (X:Cx)(E:Value→Shared→Prop):Cx:={ X with xe:=E }
abbrev Cx.nox (X:Cx):Cx:=X.wish fun _ _=>False
theorem Cx.Ok.wish {X:Cx}(ok:X.Ok)(E:Value→Shared→Prop):(X.wish E).Ok :=
 ⟨ok.mod,ok.kind,ok.glob,ok.blt,ok.above,ok.inj,ok.has,ok.cab,ok.hd,ok.frames,ok.stk,ok.exf,ok.bs,ok.bsz,ok.noex,ok.exfs,ok.funs,ok.frf,ok.lam⟩
theorem Cx.Ok.unwish {X:Cx}{E:Value→Shared→Prop}(ok:(X.wish E).Ok):X.Ok :=
 ⟨ok.mod,ok.kind,ok.glob,ok.blt,ok.above,ok.inj,ok.has,ok.cab,ok.hd,ok.frames,ok.stk,ok.exf,ok.bs,ok.bsz,ok.noex,ok.exfs,ok.funs,ok.frf,ok.lam⟩
section
variable {X:Cx}{pins:List (Addr×Obj)}{σ:St}{H:Hp}{s:Shared}{E:Value→Shared→Prop}
theorem Inv.wish (I:Inv X pins σ H s)(E:Value→Shared→Prop):Inv (X.wish E) pins σ H s:=⟨I.ok.wish E,I.os,I.bare,I.base,I.loc,I.cell,I.free,I.freeC,I.pin,I.hok,I.len⟩
theorem Inv.unwish (I:Inv (X.wish E) pins σ H s):Inv X pins σ H s:=⟨I.ok.unwish,I.os,I.bare,I.base,I.loc,I.cell,I.free,I.freeC,I.pin,I.hok,I.len⟩
theorem SP.unwish {D:Ends}{f:Flow}{s':Shared}(h:SP (X.wish E) pins D f s'):SP X pins D f s':=by
 cases f with
 |next=>obtain⟨σ',H',I,q⟩:=h;exact⟨σ',H',I.unwish,q⟩
 |brk=>obtain⟨σ',H',I,q⟩:=h;exact⟨σ',H',I.unwish,q⟩
 |cont=>obtain⟨σ',H',I,q⟩:=h;exact⟨σ',H',I.unwish,q⟩
 |ret u=>obtain⟨v,σ',H',I,r,q⟩:=h;exact⟨v,σ',H',I.unwish,r,q⟩
theorem PSs.nox {st:List Stmt}{t:TS}(h:PSs X.nox st t):PSs X st t:=fun pins s σ H D I hw =>
 wpAny_mono (h pins s σ H D (I.wish _) hw) (fun _ _ q=>q.unwish) fun _ _ z=>False.elim z
end
section
variable {X:Cx}{st:Stmt}{rest:List Stmt}{t u:TS}{e:Expr}{te:TE}{pos:Pos}
def tNext:TS:=fun D σ H=>D.nx σ H
def tSeq (t u:TS):TS:=fun D σ H=>t { D with nx:=u D } σ H
theorem z1w:PSs X [] tNext:=fun _ _ σ H _ I h=>wpAny_execs_nil ⟨σ,H,I,h⟩
theorem z0k (h1:PS X st t)(h2:PSs X rest u):PSs X (st::rest) (tSeq t u):=by
 intro pins s σ H D I h
 refine wpAny_execs_cons (thn (h1 pins s σ H { D with nx:=u D } I h) fun f s1 q=>?_)
 cases f with
 |next =>
  obtain⟨σ',H',I',q⟩:=q
  exact h2 pins s1 σ' H' D I' q
 |ret v=>exact q
 |brk=>exact q
 |cont=>exact q
theorem z0q (h1:PS X st t):PSs X [st] t:=by
 intro pins s σ H D I h
 refine wpAny_execs_cons (thn (h1 pins s σ H D I h) fun f s1 q=>?_)
 cases f with
 |next=>exact wpAny_execs_nil q
 |ret v=>exact q
 |brk=>exact q
 |cont=>exact q
theorem Inv.quiet {pins:List (Addr×Obj)}{σ:St}{H:Hp}{s:Shared}(I:Inv X pins σ H s):interactive X.env=false:=by simp[interactive,I.ok.kind]
def tDrop (te:TE):TS:=fun D σ H=>te σ H fun _ H1=>D.nx σ H1
theorem z2t (he:PE X e te)(hs:swapsWith e none pos.line X.env=pure false:=by rfl):PS X (.Expr e pos) (tDrop te):=by
 intro pins s σ H D I h
 exact wpAny_Expr_any (thn (he pins s σ H _ I h) fun v s1 ⟨x,H1,I1,r1,q1⟩=>⟨σ,H1,I1,q1⟩) I.quiet hs
def tRet (te:TE):TS:=fun D σ H=>te σ H D.rt
theorem z3t (he:PE X e te):PS X (.Return (some e) pos) (tRet te):=by
 intro pins s σ H D I h
 exact wpAny_Return_some (thn (he pins s σ H _ I h) fun v s1 ⟨x,H1,I1,r1,q1⟩=>⟨x,σ,H1,I1,r1,q1⟩)
def tIfS (c:TT)(t u:TS):TS:=fun D σ H=>c σ H fun b H1=>if b=true then t D σ H1 else u D σ H1
theorem z3u {c:Expr}{a b:List Stmt}{tc:TT}(hc:PT X c tc)(ha:PSs X a t)(hb:PSs X b u):PS X (.If c a b pos) (tIfS tc t u):=by
 intro pins s σ H D I h
 refine wpAny_If (thn (hc pins s σ H _ I h) fun d s1 ⟨H1,I1,q1⟩=>?_)
 cases d with
 |true=>exact ha pins s1 σ H1 D I1 q1
 |false=>exact hb pins s1 σ H1 D I1 q1
def z9x:TS:=fun _ _ _=>False
theorem z8b:PS X st z9x:=fun _ _ _ _ _ _ h=>h.elim
theorem y4o {sts:List Stmt}:PSs X sts z9x:=fun _ _ _ _ _ _ h=>h.elim
end
abbrev TG:=V→St→Hp→(St→Hp→Prop)→Prop
abbrev TGs:=List V→St→Hp→(St→Hp→Prop)→Prop
def PG (X:Cx)(target:Expr)(t:TG):Prop :=
 ∀(pins:List (Addr×Obj)) (s:Shared) (σ:St) (H:Hp) (v:V) (u:Value) (Q:St→Hp→Prop),Inv X pins σ H s→RelV v u→t v σ H Q →
  wpAny (model X.prog X.w) X.A (assign target X.env u) (fun _ s'=>∃σ' H',Inv X pins σ' H' s'∧Q σ' H') X.xe s
def PGs (X:Cx)(ts:List Expr)(t:TGs):Prop :=
 ∀(pins:List (Addr×Obj)) (s:Shared) (σ:St) (H:Hp) (vs:List V) (us:List Value) (Q:St→Hp→Prop),Inv X pins σ H s→Vals vs us→t vs σ H Q →
  wpAny (model X.prog X.w) X.A (assignInOrder ((assignEach ts X.env).map (·.2)) us) (fun _ s'=>∃σ' H',Inv X pins σ' H' s'∧Q σ' H') X.xe s
abbrev TSet:=V→V→V→Hp→(Hp→Prop)→Prop
def PSet (X:Cx)(t:TSet):Prop :=
 ∀(pins:List (Addr×Obj)) (s:Shared) (σ:St) (H:Hp) (o i v:V) (ov iv u:Value) (Q:Hp→Prop),Inv X pins σ H s→RelV o ov→RelV i iv→RelV v u→t o i v H Q →
  wpAny (model X.prog X.w) X.A (setItem ov iv u) (fun _ s'=>∃H',Inv X pins σ H' s'∧Q H') X.xe s
abbrev TIp:=V→V→Hp→VK→Prop
def PIp (X:Cx)(op:Operator)(t:TIp):Prop :=
 ∀(pins:List (Addr×Obj)) (s:Shared) (σ:St) (H:Hp) (x y:V) (v u:Value) (Q:VK),Inv X pins σ H s→RelV x v→RelV y u→t x y H Q →
  wpAny (model X.prog X.w) X.A (inplaceOp op v u) (EP X pins σ Q) X.xe s
section
variable {X:Cx}{pos:Pos}
def y2e (i:Nat):TG:=fun v σ H Q=>Q (σ.set i (some v)) H
theorem z4o {i:Nat}{x:Str}(hN:X.N.Nodup)(hi:X.N[i]? = some x)(hx:Loc X.env.scope x)(hf:X.fn x=true∨X.env.scope.names.lookup x=some .local:=by first|exact .inl rfl|exact .inr rfl|assumption):PG X (.Name x pos) (y2e i):=by
 intro pins s σ H v u Q I r h
 exact wpAny_assign_Name (z8h I hN hi hx r (fun s' I'=>⟨_,H,I',h⟩) hf)
def gNil:TGs:=fun vs σ H Q=>vs=[]∧Q σ H
def gCons (t:TG)(u:TGs):TGs:=fun vs σ H Q=>∃v r,vs=v::r∧t v σ H fun σ' H'=>u r σ' H' Q
theorem y1p:PGs X [] gNil:=by
 intro pins s σ H vs us Q I r h
 obtain⟨e,h⟩:=h
 subst e
 cases r
 exact assignInOrder_nil ⟨σ,H,I,h⟩
theorem z5i {e:Expr}{es:List Expr}{t:TG}{u:TGs}(h1:PG X e t)(h2:PGs X es u)
  (hs:(assignEach (e::es) X.env).map (·.2)=assign e X.env::(assignEach es X.env).map (·.2):=by rfl):PGs X (e::es) (gCons t u):=by
 intro pins s σ H vs us Q I r h
 obtain⟨v,vr,e1,h⟩:=h
 subst e1
 cases r with
 |cons r rr =>
  rw[hs]
  refine assignInOrder_cons (thn (h1 pins s σ H _ _ _ I r h) fun _ s1 ⟨σ1,H1,I1,q1⟩=>?_)
  exact h2 pins s1 σ1 H1 _ _ Q I1 rr q1
def gTup (K:PySem.W.Frag)(n:Nat)(t:TGs):TG:=fun v σ H Q=>∃a xs,v=.ref a∧SqT K H a xs∧xs.length=n∧t xs σ H Q
theorem y5v {es:List Expr}{k:Nat}{t:TGs}{n:Nat}(hc:X.calm=true)(h:PGs X es t)
  (hn:(assignEach es X.env).length=n:=by rfl)(hst:(assignEach es X.env).findIdx? (·.1)=none:=by rfl):PG X (.Tuple es k pos) (gTup X.K n t):=by
 intro pins s σ H v u Q I r hw
 obtain⟨a,xs,e1,hq,hl,hw⟩:=hw
 subst e1
 cases r
 obtain⟨its,rv,ht,hz⟩:=I.tuple hq
 refine assign_Tuple_tuple (I.ok.hd hc) ht (by simp[hn,←hl,rv.length]) hst fun h' hx=>?_
 have I1:Inv X pins σ H { s with heap:=h' }:=I.kept (t':=s.toks) fun b o e=>hx b o (Nat.ne_of_lt (Heap.lt_size e)) e
 exact h pins _ σ H xs _ Q I1 (by simpa using rv) hw
def gSub (to ti:TE)(t:TSet):TG:=fun v σ H Q=>to σ H fun o H1=>ti σ H1 fun i H2=>t o i v H2 fun H3=>Q σ H3
theorem pg_sub {o i:Expr}{to ti:TE}{t:TSet}(ho:PE X o to)(hi:PE X i ti)(hs:PSet X t)
  (ha:∀v,assign (.Subscript o i pos) X.env v=(do
   let ov ←holding [v] (eval o X.env)
   let iv ←holding [v,ov] (eval i X.env)
   standAt pos
   holding [v,ov,iv] (setItem ov iv v)
   release [v,ov,iv] []):=by intro _;rfl):PG X (.Subscript o i pos) (gSub to ti t):=by
 intro pins s σ H v u Q I r h
 rw[ha]
 refine wpAny_bind (wpAny_holding (thn (ho pins s σ H _ I h) fun ov s1 ⟨x,H1,I1,r1,q1⟩=>?_))
 refine wpAny_bind (wpAny_holding (thn (hi pins s1 σ H1 _ I1 q1) fun iv s2 ⟨y,H2,I2,r2,q2⟩=>?_))
 refine wpAny_bind (wpAny_standAt (wpAny_bind (wpAny_holding (thn (hs pins s2 σ H2 x y v ov iv u _ I2 r1 r2 r q2) fun _ s3 ⟨H3,I3,q3⟩=>?_))))
 exact wpAny_release ⟨σ,H3,I3,q3⟩
def tAsg (te:TE)(g:TG):TS:=fun D σ H=>te σ H fun x H1=>g x σ H1 D.nx
theorem ps_asg {tg e:Expr}{te:TE}{g:TG}(he:PE X e te)(hg:PG X tg g)(hs:swapsWithSole [tg] e pos.line X.env=pure false:=by rfl)(hw:swappedStores [tg] e X.env=pure none:=by rfl)
  (h1:(assignEach [tg] X.env).map (·.2)=[assign tg X.env]:=by rfl):PS X (.Assign [tg] e pos) (tAsg te g):=by
 intro pins s σ H D I h
 refine wpAny_Assign_stores (thn (he pins s σ H _ I h) fun v s1 ⟨x,H1,I1,r1,q1⟩=>?_) hs hw
 rw[h1]
 exact thn (hg pins s1 σ H1 x v _ I1 r1 q1) fun _ s2 q=>q
theorem z2g {i:Nat}{x:Str}{e:Expr}{te:TE}{pos':Pos}(hN:X.N.Nodup)(hi:X.N[i]? = some x)(hx:Loc X.env.scope x)(he:PE X e te)(hs:swapsWith e (some (.Name x pos')) pos.line X.env=pure false:=by rfl)(hf:X.fn x=true∨X.env.scope.names.lookup x=some .local:=by first|exact .inl rfl|exact .inr rfl|assumption) :
  PS X (.Assign [.Name x pos'] e pos) (tAsg te (y2e i)):=by
 intro pins s σ H D I h
 refine wpAny_Assign_Name (thn (he pins s σ H _ I h) fun v s1 ⟨y,H1,I1,r1,q1⟩=>?_) hs
 exact z8h I1 hN hi hx r1 (fun s2 I2=>⟨_,H1,I2,q1⟩) hf
def tAug (i:Nat)(te:TE)(ti:TIp):TS:=fun D σ H=>∃x,σ[i]? = some (some x)∧te σ H fun y H1=>ti x y H1 fun z H2=>D.nx (σ.set i (some z)) H2
theorem ps_aug {i:Nat}{x:Str}{e:Expr}{te:TE}{op:Operator}{ti:TIp}{pos':Pos}(hN:X.N.Nodup)(hi:X.N[i]? = some x)(hx:Loc X.env.scope x)(he:PE X e te)(ho:PIp X op ti)(hf:X.fn x=true∨X.env.scope.names.lookup x=some .local:=by first|exact .inl rfl|exact .inr rfl|assumption) :
  PS X (.AugAssign (.Name x pos') op e pos) (tAug i te ti):=by
 intro pins s σ H D I h
 obtain⟨v,e1,h⟩:=h
 obtain⟨m,hn,hl⟩:=I.loc
 have vis:Vis X.env.scope x:=by rcases hx with k|k;exact .inl k;exact .inr (.inl k)
 obtain⟨u,r,l⟩:=hl i x v hi e1 vis
 refine wpAny_AugAssign_Name ?_
 have go:wpAny (model X.prog X.w) X.A (eval e X.env) (fun w s₂=>wpAny (model X.prog X.w) X.A (inplaceOp op u w) (fun r s₃=>wpAny (model X.prog X.w) X.A (storeName X.env x r) (fun _=>SP X pins D .next) X.xe s₃) X.xe s₂) X.xe s:=by
  refine thn (he pins s σ H _ I h) fun w s1 ⟨y,H1,I1,r1,q1⟩=>?_
  refine thn (ho pins s1 σ H1 v y u w _ I1 r r1 q1) fun z s2 ⟨zv,H2,I2,r2,q2⟩=>?_
  exact z8h I2 hN hi hx r2 (fun s3 I3=>⟨_,H2,I3,q2⟩) hf
 rcases l with ⟨hk,hm⟩|⟨hk,c,hc,hcell⟩
 ·exact wpAny_loadName_local I.ok.kind hk hn hm go
 ·rcases hk with hk|hk
  ·exact wpAny_loadName_cell I.ok.kind hk hc hcell go
  ·rcases hx with k|k
   ·have:X.env.scope.names.lookup x=some .free:=hk
    rw[k]at this;cases this
   ·have:X.env.scope.names.lookup x=some .free:=hk
    rw[k]at this;cases this
def ipI (f:Int→Int→Int):TIp:=fun x y H Q=>∃i j,x=.int i∧y=.int j∧Q (.int (f i j)) H
theorem ip_add:PIp X .Add (ipI fun i j=>i+j):=by
 intro pins s σ H x y v u Q I r1 r2 h
 obtain⟨i,j,e1,e2,q⟩:=h
 subst e1;subst e2
 obtain⟨t,rfl⟩:=r1
 obtain⟨t',rfl⟩:=r2
 exact iadd_int ⟨.int _,H,I.tok _,⟨_,rfl⟩,q⟩
end
section
variable {X:Cx}{pos:Pos}
def tWhile (c:TT)(tb:TS):TS:=fun D σ H=>∃W:Nat→St→Hp→Prop,(∃m,W m σ H)∧∀m σ H,W m σ H →
 c σ H fun b H1=>if b=true then ∃N:St→Hp→Prop,(∀σ' H',N σ' H'→∃m',m' < m∧W m' σ' H')∧tb { D with nx:=N,ct:=N,bk:=D.nx } σ H1 else D.nx σ H1
theorem ps_while {c:Expr}{body:List Stmt}{tc:TT}{tb:TS}(hp:PassesOwn (model X.prog X.w) X.A X.env X.xe)(hc:PT X c tc)(hb:PSs X body tb):PS X (.While c body [] pos) (tWhile tc tb):=by
 intro pins s σ H D I h
 obtain⟨W,⟨m0,w0⟩,turn⟩:=h
 refine wpAny_While (codeAny_whileLoop (fun n s'=>∃σ' H',Inv X pins σ' H' s'∧W n σ' H') ?_ m0 ⟨σ,H,I,w0⟩)
 rintro n s1 ⟨σ1,H1,I1,w1⟩
 refine wpAny_passesOwn hp (thn (hc pins s1 σ1 H1 _ I1 (turn n σ1 H1 w1)) fun b s2 ⟨H2,I2,q2⟩=>?_)
 cases b with
 |true =>
  obtain⟨N,hN,q2⟩:=q2
  rw[if_pos rfl]
  refine wpAny_passesOwn hp (thn (hb pins s2 σ1 H2 _ I2 q2) fun f s3 q3=>?_)
  cases f with
  |next =>
   obtain⟨σ3,H3,I3,n3⟩:=q3
   obtain⟨m',hm,w3⟩:=hN σ3 H3 n3
   exact⟨m',hm,σ3,H3,I3,w3⟩
  |cont =>
   obtain⟨σ3,H3,I3,n3⟩:=q3
   obtain⟨m',hm,w3⟩:=hN σ3 H3 n3
   exact⟨m',hm,σ3,H3,I3,w3⟩
  |brk=>exact q3
  |ret v=>exact q3
 |false =>
  rw[if_neg Bool.false_ne_true]
  exact wpAny_execs_nil ⟨σ1,H2,I2,q2⟩
end
structure It where
 go:Nat→Hp→Prop
 yld:Nat→Hp→V→Hp→Prop
 stop:Nat→Hp→Prop
def FpOk (X:Cx)(pins:List (Addr×Obj))(H:Hp)(b:Addr):Prop :=
 H b=none∧b≠X.env.locals∧b∉X.fs∧(b∈X.ex∨X.s₀.heap.objs.size≤b)∧(∀x c,X.env.cells.lookup x=some c→c≠b)∧∀p∈X.pn++pins,p.1≠b
theorem Inv.fpOk {X:Cx}{pins:List (Addr×Obj)}{σ:St}{H H':Hp}{s:Shared}{b:Addr}(I:Inv X pins σ H s)(hb:s.heap.objs.size≤b)(hn:H' b=none):FpOk X pins H' b:=by
 refine⟨hn,Nat.ne_of_gt (Nat.lt_of_lt_of_le I.lt hb),I.nofs hb,.inr (Nat.le_trans I.sz hb),fun x c e z=>?_,fun p hp z=>?_⟩
 ·obtain⟨v,q⟩:=I.cell x c e
  exact absurd (Nat.lt_of_lt_of_le q.lt (by rw[z];exact hb)) (Nat.lt_irrefl _)
 ·exact absurd (Nat.lt_of_lt_of_le (Heap.lt_size (I.pin p hp).1) (by rw[z];exact hb)) (Nat.lt_irrefl _)
structure Turn (P:Program)(w:World)(K:PySem.W.Frag)(tg:Expr)(J:It)(fp:List Addr)(it:Addr)(tn:Nat→Heap→Prop):Prop where
 mem:it∈fp
 obj:∀i h,tn i h→∀b∈fp,∃o,h.get? b=some o∧∀v,o.data≠.cell v
 keep:∀i h h',tn i h→(∀b∈fp,∀o,h.get? b=some o→h'.get? b=some o)→tn i h'
 item:∀(X:Cx),X.prog=P→X.w=w→X.K=K→X.calm=true→∀(i:Nat) (pins:List (Addr×Obj)) (s:Shared) (σ:St) (H:Hp) (E:Value→Shared→Prop),Inv X pins σ H s→(∀b∈fp,FpOk X pins H b)→tn i s.heap→J.go i H →
  wpAny (model P w) X.A (pyNext (.ref it)) (fun r s1=>∃u,r=some u ∧
   wpAny (model P w) X.A (letOwnedTupleGo tg (.ref it) u) (fun _ s2=>∃x H',Inv X pins σ H' s2∧RelV x u∧J.yld i H x H'∧tn (i+1) s2.heap∧∀b∈fp,H' b=none) E s1) E s
 done:∀(X:Cx),X.prog=P→X.w=w→X.K=K→X.calm=true→∀(i:Nat) (pins:List (Addr×Obj)) (s:Shared) (σ:St) (H:Hp) (E:Value→Shared→Prop),Inv X pins σ H s→(∀b∈fp,FpOk X pins H b)→tn i s.heap→J.stop i H →
  wpAny (model P w) X.A (pyNext (.ref it)) (fun r s1=>r=none∧Inv X pins σ H s1) E s
 self:∀(A:Around) (i:Nat) (s:Shared) (Q:Value→Shared→Prop) (E:Value→Shared→Prop),tn i s.heap→Q (.ref it) s→wpAny (model P w) A (pyIter (.ref it)) Q E s
abbrev TI:=St→Hp→(It→Hp→Prop)→Prop
def PIE (X:Cx)(pins:List (Addr×Obj))(σ:St)(tg:Expr)(R:It→Hp→Prop)(itv:Value)(s2:Shared):Prop :=
 ∃(it:Addr) (fp:List Addr) (tn:Nat→Heap→Prop) (J:It) (H':Hp),itv=.ref it∧Inv X pins σ H' s2∧Turn X.prog X.w X.K tg J fp it tn∧tn 0 s2.heap∧(∀b∈fp,FpOk X pins H' b)∧R J H'
def PI (X:Cx)(tg iter:Expr)(wi:TI):Prop :=
 ∀(pins:List (Addr×Obj)) (s:Shared) (σ:St) (H:Hp) (R:It→Hp→Prop),Inv X pins σ H s→wi σ H R →
  wpAny (model X.prog X.w) X.A (eval iter X.env) (fun v s1=>wpAny (model X.prog X.w) X.A (pyIter v) (PIE X pins σ tg R) X.xe s1) X.xe s
theorem go_of {M:Model}{A:Around}{E:Value→Shared→Prop}{s:Shared}{tg:Expr}{it:Addr}{u:Value}{o:Obj}{n:String}{vs:Array Value}{Q:Unit→Shared→Prop}(ho:s.heap.get? it=some o)(hc:o.cls=.type n)(hd:o.data=.fields vs)
  (hn:["enumerate","zip","dict_itemiterator","dict_reverseitemiterator","odict_iterator","itertools.zip_longest","itertools.pairwise"].contains n=false)(hQ:Q () s):wpAny M A (letOwnedTupleGo tg (.ref it) u) Q E s:=by
 unfold letOwnedTupleGo
 cases tg<;>first
  |exact wpAny_pure hQ
  |(cases u<;>first
    |exact wpAny_pure hQ
    |(refine wpAny_bind (wpAny_load ho ?_)
      rw[hc,hd]
      show wpAny M A (if (["enumerate","zip","dict_itemiterator","dict_reverseitemiterator","odict_iterator","itertools.zip_longest","itertools.pairwise"].contains n&&vs[0]? == some (rawInt _))=true then _ else _) Q E s
      rw[if_neg (by intro h;rw[hn,Bool.false_and]at h;cases h)]
      exact wpAny_pure hQ))
def Itl (K:PySem.W.Frag)(a:Addr):It :=
 ⟨fun i H=>∃xs x,SqL K H a xs∧xs[i]? = some x,fun i H x H'=>H' = H∧∀xs,SqL K H a xs→xs[i]? = some x,fun i H=>∃xs,SqL K H a xs∧xs.length≤i⟩
def Itr (lo:Int)(n:Nat):It:=⟨fun i _=>i<n,fun i H x H'=>H' = H∧x=.int (lo+i),fun i _=>n≤i⟩
theorem x3g {P:Program}{w:World}{K:PySem.W.Frag}{tg:Expr}(a it:Addr):Turn P w K tg (Itl K a) [it] it (fun i h=>h.IsListIter it a i) where
 mem:=by simp
 obj:=fun i h st b hb=>by
  have e:b=it:=by simpa using hb
  subst e
  obtain⟨o,e,c,d⟩:=st
  exact⟨o,e,fun v z=>by rw[d]at z;cases z⟩
 keep:=fun i h h' st k=>st.at fun o e=>k it (by simp) o e
 item:=by
  intro X hP hw hK hc i pins s σ H E I hf st hg
  subst hP hw hK
  obtain⟨xs,x,hq,hx⟩:=hg
  obtain⟨its,rv,p,hz⟩:=I.list hq
  obtain⟨u,hu,ru⟩:=rv.get hx
  obtain⟨f0,f1,f2,f3,f4,f5⟩:=hf it (by simp)
  refine wpAny_pyNext_list_item st p.isList (x:=u) (by simpa using hu) fun h' st' sb=>?_
  have I1:Inv X pins σ H { s with heap:=h' }:=I.turned (t':=s.toks) (fun b o hb e=>(sb.2 b hb).trans e) f0 f1 f3 f4 f5
  obtain⟨o,e,c,d⟩:=id st'
  exact⟨u,rfl,go_of (s:={ s with heap:=h' }) e c d (by decide) ⟨x,H,I1,ru,⟨rfl,fun ys hy=>by rw[I.list_inj hy hq];exact hx⟩,st',fun b hb=>(hf b hb).1⟩⟩
 done:=by
  intro X hP hw hK hc i pins s σ H E I hf st hg
  subst hP hw hK
  obtain⟨xs,hq,hx⟩:=hg
  obtain⟨its,rv,p,hz⟩:=I.list hq
  obtain⟨f0,f1,f2,f3,f4,f5⟩:=hf it (by simp)
  have hl:=rv.length
  exact wpAny_pyNext_list_end (I.ok.hd hc) st p.isList (by simp;omega) fun h' eb=>⟨rfl,I.turned (t':=s.toks) (fun b o hb e=>eb b o hb e) f0 f1 f3 f4 f5⟩
 self:=fun _ _ _ _ _ st h=>wpAny_pyIter_listiter st h
theorem x0e {P:Program}{w:World}{K:PySem.W.Frag}{tg:Expr}(it:Addr)(lo:Int)(n:Nat):Turn P w K tg (Itr lo n) [it] it (fun i h=>IsRangeIter h it (lo+(i:Nat) * 1) ((n:Int) - (i:Nat)) 1) where
 mem:=by simp
 obj:=fun i h st b hb=>by
  have e:b=it:=by simpa using hb
  subst e
  exact⟨_,st,fun v z=>by
   have z':Data.fields _=Data.cell v:=z
   cases z'⟩
 keep:=fun i h h' st k=>k it (by simp) _ st
 item:=by
  intro X hP hw hK hc i pins s σ H E I hf st hg
  subst hP hw hK
  obtain⟨f0,f1,f2,f3,f4,f5⟩:=hf it (by simp)
  have W:=Walks.range (prog:=X.prog) (w:=X.w) (I.ok.hd hc) it lo 1 n
  refine W.item i s _ _ hg st fun v h' tk hv st' kk=>?_
  obtain⟨t,rfl⟩:=hv
  have I1:Inv X pins σ H { s with heap:=h',toks:=tk }:=I.turned (fun b o hb e=>kk b o (by simpa using hb) e) f0 f1 f3 f4 f5
  refine⟨_,rfl,go_of (s:={ s with heap:=h',toks:=tk }) (n:="range_iterator") st' rfl rfl (by decide) ⟨.int (lo+i),H,I1,⟨t,?_⟩,⟨rfl,rfl⟩,st',fun b hb=>(hf b hb).1⟩⟩
  rw[Int.mul_one]
 done:=by
  intro X hP hw hK hc i pins s σ H E I hf st hg
  subst hP hw hK
  obtain⟨f0,f1,f2,f3,f4,f5⟩:=hf it (by simp)
  exact wpAny_pyNext_range_end (I.ok.hd hc) st (by have:n≤i:=hg;omega) fun h' eb=>⟨rfl,I.turned (t':=s.toks) (fun b o hb e=>eb b o hb e) f0 f1 f3 f4 f5⟩
 self:=fun _ _ _ _ _ st h=>wpAny_pyIter_rangeiter st h
end L2
namespace L2
open PySem PySem.Spec PyProof.Rows
section
variable {X:Cx}{tg:Expr}
def iList (K:PySem.W.Frag)(tl:TE):TI:=fun σ H R=>tl σ H fun x H1=>∃a,x=.ref a∧(∃xs,SqL K H1 a xs)∧R (Itl K a) H1
theorem z8k {l:Expr}{tl:TE}(hl:PE X l tl):PI X tg l (iList X.K tl):=by
 intro pins s σ H R I h
 refine thn (hl pins s σ H _ I h) fun v s1 ⟨x,H1,I1,r1,q1⟩=>?_
 obtain⟨a,e,⟨xs,hq⟩,q⟩:=q1
 subst e
 cases r1
 obtain⟨its,rv,p,hz⟩:=I1.list hq
 refine wpAny_pyIter_list p.isList ?_
 refine⟨s1.heap.objs.size,[s1.heap.objs.size],_,_,H1,rfl,I1.kept (t':=s1.toks) fun b o e=>Heap.get?_push_of_some _ e,x3g a _,⟨_,Heap.get?_push_size _ rfl,rfl,rfl⟩,fun b hb=>?_,q⟩
 have e:b=s1.heap.objs.size:=by simpa using hb
 subst e
 exact I1.fpOk (Nat.le_refl _) (I1.hok.fresh (Nat.le_refl _))
theorem range_it {pins:List (Addr×Obj)}{σ:St}{H:Hp}{s:Shared}{R:It→Hp→Prop}{E:Value→Shared→Prop}{lo hi:Int}{t u v:Tok}{tk:Nat}(I:Inv X pins σ H s)(h1:-(2 ^ 62)≤lo)(h2:lo<2 ^ 62)(h3:-(2 ^ 62)≤hi)(h4:hi<2 ^ 62)
  (q:R (Itr lo (hi - lo).toNat) H):wpAny (model X.prog X.w) X.A (pyIter (.ref s.heap.objs.size)) (PIE X pins σ tg R) E { s with heap:=s.heap.push { cls:=.type "range",data:=.fields #[.int lo t,.int hi u,.int 1 v] },toks:=tk }:=by
 refine wpAny_pyIter_range (IsRange.new ..) (small_one h1 h2 h3 h4) ?_
 have I1:Inv X pins σ H { s with heap:=s.heap.push { cls:=.type "range",data:=.fields #[.int lo t,.int hi u,.int 1 v] },toks:=tk }:=I.kept fun b o e=>Heap.get?_push_of_some _ e
 refine⟨(s.heap.push { cls:=.type "range",data:=.fields #[.int lo t,.int hi u,.int 1 v] }).objs.size,[(s.heap.push { cls:=.type "range",data:=.fields #[.int lo t,.int hi u,.int 1 v] }).objs.size],_,_,H,rfl,
  I1.kept (t':=tk) fun b o e=>Heap.get?_push_of_some _ e,x0e _ lo (hi - lo).toNat,?_,fun b hb=>?_,q⟩
 ·have e1:lo+((0:Nat):Int) * 1=lo:=by simp
  have e2:(((hi - lo).toNat:Nat):Int) - ((0:Nat):Int)=Builtin.Range.rangeSize lo hi 1:=by rw[rangeSize_one];split<;>omega
  show IsRangeIter _ _ (lo+((0:Nat):Int) * 1) ((((hi - lo).toNat:Nat):Int) - ((0:Nat):Int)) 1
  rw[e1,e2]
  exact Heap.get?_push_size _ rfl
 ·have e:b=(s.heap.push { cls:=.type "range",data:=.fields #[.int lo t,.int hi u,.int 1 v] }).objs.size:=by simpa using hb
  subst e
  exact I1.fpOk (Nat.le_refl _) (I1.hok.fresh (Nat.le_refl _))
def iRng1 (ta:TA):TI:=fun σ H R=>ta σ H fun vs H1=>∃j:Int,vs=[.int j]∧-(2 ^ 62)≤j∧j<2 ^ 62∧R (Itr 0 j.toNat) H1
theorem y5z {a:Expr}{ta:TA}{p pos:Pos}(hg:Gl X "range")(hm:X.mg "range" = none)(ha:PA X [a] ta)(hs:starEach [a] X.env=[(false,eval a X.env)]:=by rfl):PI X tg (.Call (.Name "range" p) [a] [] pos) (iRng1 ta):=by
 intro pins s σ H R I h
 refine Call_ (z9d I hg hm boot_range (PyProof.Rows.callWith_type1 (thn (ha pos pins s σ H _ I h) fun us s1 ⟨vs,H1,I1,r1,q1⟩=>?_) hs rfl))
 obtain⟨j,e,q1,q2,q⟩:=q1
 subst e
 cases r1 with
 |cons r rr =>
  cases rr
  obtain⟨t,rfl⟩:=r
  exact call_range_1 (range_it I1 (by omega) (by omega) q1 q2 (by simpa using q))
def tFor (wi:TI)(g:TG)(tb:TS):TS:=fun D σ H=>wi σ H fun J H1=>∃W:Nat→Nat→St→Hp→Prop,(∃m,W 0 m σ H1)∧∀i m σ H,W i m σ H →
 (J.stop i H∧D.nx σ H)∨(J.go i H∧∃N:St→Hp→Prop,(∀σ' H',N σ' H'→∃m',m' < m∧W (i+1) m' σ' H')∧∀x H',J.yld i H x H'→g x σ H' fun σ2 H2=>tb { D with nx:=N,ct:=N,bk:=D.nx } σ2 H2)
def y2v (fp:List Addr)(h:Heap):List (Addr×Obj):=fp.filterMap fun b=>(h.get? b).map fun o=>(b,o)
theorem z6t {fp:List Addr}{h:Heap}{b:Addr}{o:Obj}(hb:b∈fp)(e:h.get? b=some o):(b,o)∈y2v fp h:=List.mem_filterMap.mpr ⟨b,hb,by rw[e];rfl⟩
theorem of_pinsAt {fp:List Addr}{h:Heap}{p:Addr×Obj}(hp:p∈y2v fp h):p.1∈fp∧h.get? p.1=some p.2:=by
 obtain⟨b,hb,e⟩:=List.mem_filterMap.mp hp
 cases q:h.get? b with
 |none=>rw[q]at e;cases e
 |some o =>
  rw[q]at e
  have e':(b,o)=p:=Option.some.inj e
  subst e'
  exact⟨hb,q⟩
theorem Inv.pinned {pins:List (Addr×Obj)}{σ:St}{H:Hp}{s:Shared}{fp:List Addr}(I:Inv X pins σ H s)(hf:∀b∈fp,FpOk X pins H b)(ho:∀b∈fp,∃o,s.heap.get? b=some o∧∀v,o.data≠.cell v):Inv X (pins++y2v fp s.heap) σ H s :=
 I.pins_of fun p hp=>(List.mem_append.mp hp).elim (fun z=>I.pin p (List.mem_append_right _ z)) fun z=>by
  obtain⟨hb,e⟩:=of_pinsAt z
  obtain⟨f0,f1,f2,_⟩:=hf p.1 hb
  obtain⟨o,e',d⟩:=ho p.1 hb
  rw[e]at e';cases e'
  exact⟨e,f0,f1,f2,d⟩
theorem Inv.unpinned {pins pl:List (Addr×Obj)}{σ:St}{H:Hp}{s:Shared}(I:Inv X (pins++pl) σ H s):Inv X pins σ H s:=I.pins_of fun p hp=>I.pin p (List.mem_append_right _ (List.mem_append_left _ hp))
theorem z9c {iter:Expr}{body:List Stmt}{wi:TI}{g:TG}{tb:TS}{pos:Pos}(hp:PassesOwn (model X.prog X.w) X.A X.env X.xe)(hc:X.calm=true)(hi:PI X tg iter wi)(hg:PG X tg g)(hb:PSs X body tb)
  (hs:∀x,foldedSetIterable iter X.env x=pure x:=by intro _;rfl):PS X (.For tg iter body [] pos) (tFor wi g tb):=by
 intro pins s σ H D I h
 refine wpAny_For (thn (hi pins s σ H _ I h) fun v s1 h1=>thn h1 fun itv s2 h2=>?_) hs
 obtain⟨it,fp,tn,J,H2,e,I2,T,st2,f2,W,⟨m0,w0⟩,turn⟩:=h2
 subst e
 have stat:∀{H':Hp},(∀b∈fp,H' b=none)→∀b∈fp,FpOk X pins H' b:=fun hn b hb=>⟨hn b hb,(f2 b hb).2⟩
 refine codeAny_forLoop_any (fun n s'=>∃i σ' H',Inv X pins σ' H' s'∧tn i s'.heap∧(∀b∈fp,H' b=none)∧W i n σ' H') ?_ m0 ⟨0,σ,H2,I2,st2,fun b hb=>(f2 b hb).1,w0⟩
 rintro n s3 ⟨i,σ3,H3,I3,st3,fr3,w3⟩
 rcases turn i n σ3 H3 w3 with ⟨stop,qn⟩|⟨go,N,hN,step⟩
 ·refine wpAny_passesOwn hp (thn (T.done X rfl rfl rfl hc i pins s3 σ3 H3 X.xe I3 (stat fr3) st3 stop) fun r s4 ⟨hr,I4⟩=>?_)
  subst hr
  exact wpAny_execs_nil ⟨σ3,H3,I4,qn⟩
 ·refine wpAny_passesOwn hp (thn (T.item X rfl rfl rfl hc i pins s3 σ3 H3 X.xe I3 (stat fr3) st3 go) fun r s4 ⟨u,hr,h4⟩=>?_)
  subst hr
  refine wpAny_passesOwn hp (thn h4 fun _ s5 ⟨x,H5,I5,r5,y5,st5,fr5⟩=>?_)
  have I5':=I5.pinned (stat fr5) (T.obj _ _ st5)
  refine wpAny_passesOwn hp (thn (hg _ s5 σ3 H5 x u _ I5' r5 (step x H5 y5)) fun _ s6 ⟨σ6,H6,I6,q6⟩=>?_)
  refine wpAny_passesOwn hp (thn (hb _ s6 σ6 H6 _ I6 q6) fun f s7 q7=>?_)
  have again:∀{σ7:St}{H7:Hp},Inv X (pins++y2v fp s5.heap) σ7 H7 s7→N σ7 H7→∃m,m<n∧∃i σ' H',Inv X pins σ' H' s7∧tn i s7.heap∧(∀b∈fp,H' b=none)∧W i m σ' H':=fun {σ7 H7} I7 n7=>by
   obtain⟨m',hm,w7⟩:=hN σ7 H7 n7
   refine⟨m',hm,i+1,σ7,H7,I7.unpinned,T.keep _ _ _ st5 fun b hb o e=>(I7.pin (b,o) (List.mem_append_right _ (List.mem_append_right _ (z6t hb e)))).1,fun b hb=>?_,w7⟩
   obtain⟨o,e,d⟩:=T.obj _ _ st5 b hb
   exact(I7.pin (b,o) (List.mem_append_right _ (List.mem_append_right _ (z6t hb e)))).2.1
  cases f with
  |next=>obtain⟨σ7,H7,I7,n7⟩:=q7;exact again I7 n7
  |cont=>obtain⟨σ7,H7,I7,n7⟩:=q7;exact again I7 n7
  |brk=>obtain⟨σ7,H7,I7,q7⟩:=q7;exact⟨σ7,H7,I7.unpinned,q7⟩
  |ret v=>obtain⟨x7,σ7,H7,I7,r7,q7⟩:=q7;exact⟨x7,σ7,H7,I7.unpinned,r7,q7⟩
end
theorem for_list {K:PySem.W.Frag}{a:Addr}{xs:List V}{g:TG}{tb:TS}{D:Ends}{σ:St}{H:Hp}(Pv:Nat→St→Hp→Prop)(h0:Pv 0 σ H)(hl:∀i σ H,i≤xs.length→Pv i σ H→SqL K H a xs)
  (hs:∀i x σ H,xs[i]? = some x→Pv i σ H→g x σ H fun σ2 H2=>tb { D with nx:=Pv (i+1),ct:=Pv (i+1),bk:=D.nx } σ2 H2)(hd:∀σ H,Pv xs.length σ H→D.nx σ H) :
  ∃W:Nat→Nat→St→Hp→Prop,(∃m,W 0 m σ H)∧∀i m σ H,W i m σ H →
   ((Itl K a).stop i H∧D.nx σ H)∨((Itl K a).go i H∧∃N:St→Hp→Prop,(∀σ' H',N σ' H'→∃m',m' < m∧W (i+1) m' σ' H')∧∀x H',(Itl K a).yld i H x H'→g x σ H' fun σ2 H2=>tb { D with nx:=N,ct:=N,bk:=D.nx } σ2 H2):=by
 refine⟨fun i m σ H=>m=xs.length - i∧i≤xs.length∧Pv i σ H,⟨xs.length,by simp,Nat.zero_le _,h0⟩,?_⟩
 rintro i m σ H ⟨rfl,hi,p⟩
 have q:=hl i σ H hi p
 by_cases hlt:i<xs.length
 ·refine .inr ⟨⟨xs,xs[i],q,by simp[hlt]⟩,Pv (i+1),fun σ' H' p'=>⟨xs.length - (i+1),by omega,rfl,hlt,p'⟩,fun x H' y=>?_⟩
  obtain⟨e,y⟩:=y
  subst e
  exact hs i x σ _ (y xs q) p
 ·have e:i=xs.length:=by omega
  subst e
  exact .inl ⟨⟨xs,q,Nat.le_refl _⟩,hd σ H p⟩
theorem for_range {lo:Int}{n:Nat}{g:TG}{tb:TS}{D:Ends}{σ:St}{H:Hp}(Pv:Nat→St→Hp→Prop)(h0:Pv 0 σ H)
  (hs:∀i σ H,i<n→Pv i σ H→g (.int (lo+i)) σ H fun σ2 H2=>tb { D with nx:=Pv (i+1),ct:=Pv (i+1),bk:=D.nx } σ2 H2)(hd:∀σ H,Pv n σ H→D.nx σ H) :
  ∃W:Nat→Nat→St→Hp→Prop,(∃m,W 0 m σ H)∧∀i m σ H,W i m σ H →
   ((Itr lo n).stop i H∧D.nx σ H)∨((Itr lo n).go i H∧∃N:St→Hp→Prop,(∀σ' H',N σ' H'→∃m',m' < m∧W (i+1) m' σ' H')∧∀x H',(Itr lo n).yld i H x H'→g x σ H' fun σ2 H2=>tb { D with nx:=N,ct:=N,bk:=D.nx } σ2 H2):=by
 refine⟨fun i m σ H=>m=n - i∧i≤n∧Pv i σ H,⟨n,by simp,Nat.zero_le _,h0⟩,?_⟩
 rintro i m σ H ⟨rfl,hi,p⟩
 by_cases hlt:i<n
 ·refine .inr ⟨hlt,Pv (i+1),fun σ' H' p'=>⟨n - (i+1),by omega,rfl,hlt,p'⟩,fun x H' y=>?_⟩
  obtain⟨e,y⟩:=y
  subst e y
  exact hs i σ _ hlt p
 ·have e:i=n:=by omega
  subst e
  exact .inl ⟨Nat.le_refl _,hd σ H p⟩
end L2
namespace L2
open PySem PySem.Spec PyProof.Rows
abbrev R2:=V→V→Hp→VK→Prop
def OpR (X:Cx)(f:Value→Value→Sem Value)(r:R2):Prop :=
 ∀(pins:List (Addr×Obj)) (s:Shared) (σ:St) (H:Hp) (x y:V) (v u:Value) (Q:VK),Inv X pins σ H s→RelV x v→RelV y u→r x y H Q →
  wpAny (model X.prog X.w) X.A (f v u) (EP X pins σ Q) X.xe s
def UnR (X:Cx)(f:Value→Sem Value)(r:V→Hp→VK→Prop):Prop :=
 ∀(pins:List (Addr×Obj)) (s:Shared) (σ:St) (H:Hp) (x:V) (v:Value) (Q:VK),Inv X pins σ H s→RelV x v→r x H Q →
  wpAny (model X.prog X.w) X.A (f v) (EP X pins σ Q) X.xe s
def z7d (X:Cx)(f:Value)(r:List V→Hp→VK→Prop):Prop :=
 ∀(pins:List (Addr×Obj)) (s:Shared) (σ:St) (H:Hp) (xs:List V) (us:List Value) (Q:VK),Inv X pins σ H s→Vals xs us→r xs H Q →
  wpAny (model X.prog X.w) X.A (call f us) (EP X pins σ Q) X.xe s
def TruR (X:Cx)(r:V→Hp→(Bool→Hp→Prop)→Prop):Prop :=
 ∀(pins:List (Addr×Obj)) (s:Shared) (σ:St) (H:Hp) (x:V) (v:Value) (Q:Bool→Hp→Prop),Inv X pins σ H s→RelV x v→r x H Q →
  wpAny (model X.prog X.w) X.A (truthy v) (TP X pins σ Q) X.xe s
def tOp (r:R2)(ta tb:TE):TE:=fun σ H Q=>ta σ H fun x H1=>tb σ H1 fun y H2=>r x y H2 Q
def tUn (r:V→Hp→VK→Prop)(ta:TE):TE:=fun σ H Q=>ta σ H fun x H1=>r x H1 Q
def rI (C:Int→Int→Prop)(g:Int→Int→V):R2:=fun x y H Q=>∃i j,x=.int i∧y=.int j∧C i j∧Q (g i j) H
def rI0 (g:Int→Int→V):R2:=fun x y H Q=>∃i j,x=.int i∧y=.int j∧Q (g i j) H
def rU (g:Int→V):V→Hp→VK→Prop:=fun x H Q=>∃i,x=.int i∧Q (g i) H
section
variable {X:Cx}{a b c:Expr}{ta tb tc:TE}{pos:Pos}
theorem binT (ha:PE X a ta)(hb:PE X b tb){pins:List (Addr×Obj)}{s:Shared}{σ:St}{H:Hp}{R:V→V→Hp→Prop}(I:Inv X pins σ H s)
  (h:ta σ H fun x H1=>tb σ H1 fun y H2=>R x y H2){Q:Value→Shared→Prop}{f:Value→Value→Sem Value}
  (hf:∀v u s2 x y H2,Inv X pins σ H2 s2→RelV x v→RelV y u→R x y H2→wpAny (model X.prog X.w) X.A (f v u) Q X.xe s2) :
  wpAny (model X.prog X.w) X.A (eval a X.env) (fun v s₁=>wpAny (model X.prog X.w) X.A (eval b X.env) (fun u s₂=>wpAny (model X.prog X.w) X.A (f v u) Q X.xe s₂) X.xe s₁) X.xe s:=by
 refine thn (ha pins s σ H _ I h) fun v s1 ⟨x,H1,I1,r1,q1⟩=>?_
 refine thn (hb pins s1 σ H1 _ I1 q1) fun u s2 ⟨y,H2,I2,r2,q2⟩=>?_
 exact hf v u s2 x y H2 I2 r1 r2 q2
theorem y7i {op:Operator}{r:R2}(ho:OpR X (binaryOp op) r)(ha:PE X a ta)(hb:PE X b tb):PE X (.BinOp a op b pos) (tOp r ta tb):=by
 intro pins s σ H Q I h
 exact wpAny_BinOp (binT ha hb I h fun v u s2 x y H2 I2 rx ry q=>ho pins s2 σ H2 x y v u Q I2 rx ry q)
theorem x0b {op:UnaryOp}{r:V→Hp→VK→Prop}(ho:UnR X (unaryOp op) r)(ha:PE X a ta):PE X (.UnaryOp op a pos) (tUn r ta):=by
 intro pins s σ H Q I h
 exact UnaryOp_ (thn (ha pins s σ H _ I h) fun v s1 ⟨x,H1,I1,r1,q1⟩=>ho pins s1 σ H1 x v Q I1 r1 q1)
theorem opI {f:Value→Value→Sem Value}{C:Int→Int→Prop}{g:Int→Int→Int}
  (rule:∀(i j:Int) (t u:Tok) (s:Shared) (Q:Value→Shared→Prop) (E:Value→Shared→Prop),C i j→Q (.int (g i j) s.toks) { s with toks:=s.toks+1 }→wpAny (model X.prog X.w) X.A (f (.int i t) (.int j u)) Q E s) :
  OpR X f (rI C fun i j=>.int (g i j)):=by
 intro pins s σ H x y v u Q I rx ry h
 obtain⟨i,j,rfl,rfl,hc,q⟩:=h
 obtain⟨t,rfl⟩:=rx
 obtain⟨t',rfl⟩:=ry
 exact rule i j t t' s _ _ hc ⟨.int (g i j),H,I.tok _,⟨_,rfl⟩,q⟩
theorem opI0 {f:Value→Value→Sem Value}{g:Int→Int→Int}
  (rule:∀(i j:Int) (t u:Tok) (s:Shared) (Q:Value→Shared→Prop) (E:Value→Shared→Prop),Q (.int (g i j) s.toks) { s with toks:=s.toks+1 }→wpAny (model X.prog X.w) X.A (f (.int i t) (.int j u)) Q E s) :
  OpR X f (rI0 fun i j=>.int (g i j)):=by
 intro pins s σ H x y v u Q I rx ry h
 obtain⟨i,j,rfl,rfl,q⟩:=h
 obtain⟨t,rfl⟩:=rx
 obtain⟨t',rfl⟩:=ry
 exact rule i j t t' s _ _ ⟨.int (g i j),H,I.tok _,⟨_,rfl⟩,q⟩
theorem opB0 {f:Value→Value→Sem Value}{g:Int→Int→Bool}
  (rule:∀(i j:Int) (t u:Tok) (s:Shared) (Q:Value→Shared→Prop) (E:Value→Shared→Prop),Q (.bool (g i j)) s→wpAny (model X.prog X.w) X.A (f (.int i t) (.int j u)) Q E s) :
  OpR X f (rI0 fun i j=>.bl (g i j)):=by
 intro pins s σ H x y v u Q I rx ry h
 obtain⟨i,j,rfl,rfl,q⟩:=h
 obtain⟨t,rfl⟩:=rx
 obtain⟨t',rfl⟩:=ry
 exact rule i j t t' s _ _ ⟨.bl (g i j),H,I,rfl,q⟩
def CMul (i j:Int):Prop:=(-(2 ^ 64)<i∧i<2 ^ 64)∨(-(2 ^ 64)<j∧j<2 ^ 64)
theorem CMul.ok {i j:Int}(h:CMul i j):IntMulOk i j:=by
 rcases h with ⟨h1,h2⟩|⟨h1,h2⟩
 ·exact .of_left (intBits_le_64 h1 h2)
 ·exact .of_right (intBits_le_64 h1 h2)
theorem z2q:OpR X (binaryOp .Add) (rI0 fun i j=>.int (i+j)):=opI0 fun _ _ _ _ _ _ _ q=>add_int q
theorem op_sub:OpR X (binaryOp .Sub) (rI0 fun i j=>.int (i - j)):=opI0 fun _ _ _ _ _ _ _ q=>sub_int q
theorem z7t:OpR X (binaryOp .Mult) (rI CMul fun i j=>.int (i * j)):=opI fun _ _ _ _ _ _ _ hc q=>mul_int q hc.ok
theorem z1k:OpR X (binaryOp .Mod) (rI (fun _ j=>0<j) fun i j=>.int (i % j)):=opI fun i j _ _ _ _ _ hc q=>by
 have h1:(0:Int)<j:=hc
 exact mod_int' (by omega) (by rw[Int.fmod_eq_emod_of_nonneg i (by omega)];exact q)
theorem unI {f:Value→Sem Value}{g:Int→Int}
  (rule:∀(i:Int) (t:Tok) (s:Shared) (Q:Value→Shared→Prop) (E:Value→Shared→Prop),Q (.int (g i) s.toks) { s with toks:=s.toks+1 }→wpAny (model X.prog X.w) X.A (f (.int i t)) Q E s) :
  UnR X f (rU fun i=>.int (g i)):=by
 intro pins s σ H x v Q I rx h
 obtain⟨i,rfl,q⟩:=h
 obtain⟨t,rfl⟩:=rx
 exact rule i t s _ _ ⟨.int (g i),H,I.tok _,⟨_,rfl⟩,q⟩
theorem y2g:UnR X (unaryOp .USub) (rU fun i=>.int (-i)):=unI fun _ _ _ _ _ q=>neg_int q
end
def scal:V→V→Bool
 |.non,.non=>true | .non,.int _=>true | .int _,.non=>true | .non,.bl _=>true | .bl _,.non=>true | .non,.str _=>true | .str _,.non=>true
 |.int _,.int _=>true | .bl _,.bl _=>true | .str _,.str _=>true | .byt _,.byt _=>true
 |.int _,.str _=>true | .str _,.int _=>true | .bl _,.str _=>true | .str _,.bl _=>true
 |_,_=>false
def rEq:R2:=fun x y H Q=>scal x y=true∧Q (.bl (decide (x=y))) H
def rNe:R2:=fun x y H Q=>scal x y=true∧Q (.bl (!decide (x=y))) H
theorem dec_int {i j:Int}:decide (V.int i=V.int j)=(i == j):=by
 rw[Bool.eq_iff_iff]
 simp
theorem dec_bl {i j:Bool}:decide (V.bl i=V.bl j)=(i == j):=by
 rw[Bool.eq_iff_iff]
 simp
theorem x1f {i j:Str}:decide (V.str i=V.str j)=(i == j):=by
 rw[Bool.eq_iff_iff]
 simp
theorem x2t {i j:Array UInt8}:decide (V.byt i=V.byt j)=(i.toList == j.toList):=by
 rw[Bool.eq_iff_iff]
 cases i
 cases j
 simp
section
variable {X:Cx}{a b c:Expr}{ta tb tc:TE}{pos:Pos}
theorem z1v {pins:List (Addr×Obj)}{σ:St}{H:Hp}{s:Shared}{Q:VK}{k k':Bool}(I:Inv X pins σ H s)(q:Q (.bl k) H)(e:k=k'):EP X pins σ Q (.bool k') s:=by
 subst e
 exact⟨.bl k,H,I,rfl,q⟩
theorem z3c:OpR X (compareOp .Eq) rEq:=by
 intro pins s σ H x y v u Q I rx ry h
 obtain⟨hs,q⟩:=h
 cases x with
 |non =>
  cases rx
  cases y with
  |non=>cases ry;exact PySem.EqNone.eq_none_none (z1v I q (by simp))
  |bl j=>cases ry;exact PySem.EqNone.eq_none_bool (z1v I q (by simp))
  |int j=>obtain⟨t',rfl⟩:=ry;exact PySem.EqNone.eq_none_int (z1v I q (by simp))
  |str j=>obtain⟨t',rfl⟩:=ry;exact PySem.EqNone.eq_none_str (z1v I q (by simp))
  |_=>exact absurd (show false=true from hs) Bool.false_ne_true
 |bl i =>
  cases rx
  cases y with
  |non=>cases ry;exact PySem.EqNone.eq_bool_none (z1v I q (by simp))
  |bl j=>cases ry;exact eq_bool (z1v I q dec_bl)
  |str j=>obtain⟨t',rfl⟩:=ry;exact PySem.EqMixed.eq_bool_str (z1v I q (by simp))
  |_=>exact absurd (show false=true from hs) Bool.false_ne_true
 |int i =>
  obtain⟨t,rfl⟩:=rx
  cases y with
  |non=>cases ry;exact PySem.EqNone.eq_int_none (z1v I q (by simp))
  |int j=>obtain⟨t',rfl⟩:=ry;exact eq_int (z1v I q dec_int)
  |str j=>obtain⟨t',rfl⟩:=ry;exact PySem.EqMixed.eq_int_str (z1v I q (by simp))
  |_=>exact absurd (show false=true from hs) Bool.false_ne_true
 |str i =>
  obtain⟨t,rfl⟩:=rx
  cases y with
  |non=>cases ry;exact PySem.EqNone.eq_str_none (z1v I q (by simp))
  |bl j=>cases ry;exact PySem.EqMixed.eq_str_bool (z1v I q (by simp))
  |int j=>obtain⟨t',rfl⟩:=ry;exact PySem.EqMixed.eq_str_int (z1v I q (by simp))
  |str j=>obtain⟨t',rfl⟩:=ry;exact eq_str (z1v I q x1f)
  |_=>exact absurd (show false=true from hs) Bool.false_ne_true
 |byt i =>
  obtain⟨t,rfl⟩:=rx
  cases y with
  |byt j=>obtain⟨t',rfl⟩:=ry;exact PySem.W.eq_bytes (z1v I q x2t)
  |_=>exact absurd (show false=true from hs) Bool.false_ne_true
 |_=>cases y<;>exact absurd (show false=true from hs) Bool.false_ne_true
theorem y1j:OpR X (compareOp .NotEq) rNe:=by
 intro pins s σ H x y v u Q I rx ry h
 obtain⟨hs,q⟩:=h
 cases x with
 |non =>
  cases rx
  cases y with
  |non=>cases ry;exact PySem.EqNone.ne_none_none (z1v I q (by simp))
  |bl j=>cases ry;exact PySem.EqNone.ne_none_bool (z1v I q (by simp))
  |int j=>obtain⟨t',rfl⟩:=ry;exact PySem.EqNone.ne_none_int (z1v I q (by simp))
  |str j=>obtain⟨t',rfl⟩:=ry;exact PySem.EqNone.ne_none_str (z1v I q (by simp))
  |_=>exact absurd (show false=true from hs) Bool.false_ne_true
 |bl i =>
  cases rx
  cases y with
  |non=>cases ry;exact PySem.EqNone.ne_bool_none (z1v I q (by simp))
  |bl j=>cases ry;exact ne_bool (z1v I q (congrArg not dec_bl))
  |str j=>obtain⟨t',rfl⟩:=ry;exact PySem.EqMixed.ne_bool_str (z1v I q (by simp))
  |_=>exact absurd (show false=true from hs) Bool.false_ne_true
 |int i =>
  obtain⟨t,rfl⟩:=rx
  cases y with
  |non=>cases ry;exact PySem.EqNone.ne_int_none (z1v I q (by simp))
  |int j=>obtain⟨t',rfl⟩:=ry;exact ne_int (z1v I q (congrArg not dec_int))
  |str j=>obtain⟨t',rfl⟩:=ry;exact PySem.EqMixed.ne_int_str (z1v I q (by simp))
  |_=>exact absurd (show false=true from hs) Bool.false_ne_true
 |str i =>
  obtain⟨t,rfl⟩:=rx
  cases y with
  |non=>cases ry;exact PySem.EqNone.ne_str_none (z1v I q (by simp))
  |bl j=>cases ry;exact PySem.EqMixed.ne_str_bool (z1v I q (by simp))
  |int j=>obtain⟨t',rfl⟩:=ry;exact PySem.EqMixed.ne_str_int (z1v I q (by simp))
  |str j=>obtain⟨t',rfl⟩:=ry;exact ne_str (z1v I q (congrArg not x1f))
  |_=>exact absurd (show false=true from hs) Bool.false_ne_true
 |byt i =>
  obtain⟨t,rfl⟩:=rx
  cases y with
  |byt j=>obtain⟨t',rfl⟩:=ry;exact PySem.W.ne_bytes (z1v I q (congrArg not x2t))
  |_=>exact absurd (show false=true from hs) Bool.false_ne_true
 |_=>cases y<;>exact absurd (show false=true from hs) Bool.false_ne_true
theorem y4a:OpR X (compareOp .Lt) (rI0 fun i j=>.bl (decide (i<j))):=opB0 fun _ _ _ _ _ _ _ q=>lt_int q
theorem op_gt:OpR X (compareOp .Gt) (rI0 fun i j=>.bl (decide (j<i))):=opB0 fun _ _ _ _ _ _ _ q=>gt_int q
theorem op_ge:OpR X (compareOp .GtE) (rI0 fun i j=>.bl (decide (j≤i))):=opB0 fun _ _ _ _ _ _ _ q=>ge_int q
theorem op_isN:OpR X (compareOp .Is) (fun x y H Q=>y=.non∧Q (.bl (decide (x=.non))) H):=by
 intro pins s σ H x y v u Q I rx ry h
 obtain⟨rfl,q⟩:=h
 cases ry
 refine is_none_gen (z1v I q ?_)
 cases x<;>first
  |(cases rx;rfl)
  |(obtain⟨t,rfl⟩:=rx;rfl)
theorem y6x:OpR X (compareOp .IsNot) (fun x y H Q=>y=.non∧Q (.bl (!decide (x=.non))) H):=by
 intro pins s σ H x y v u Q I rx ry h
 obtain⟨rfl,q⟩:=h
 cases ry
 refine isnot_none_gen (z1v I q ?_)
 cases x<;>first
  |(cases rx;rfl)
  |(obtain⟨t,rfl⟩:=rx;rfl)
theorem z0u (b:Expr){op:CmpOp}(h:op≠.In:=by decide)(h2:op≠.NotIn:=by decide):behindInMarks op b=false:=by
 have e1:(op == CmpOp.In)=false:=by cases op<;>first|rfl|exact absurd rfl h
 have e2:(op == CmpOp.NotIn)=false:=by cases op<;>first|rfl|exact absurd rfl h2
 cases b<;>simp[behindInMarks,e1,e2]
theorem x2m {op:CmpOp}{r:R2}(ho:OpR X (compareOp op) r)(ha:PE X a ta)(hb:PE X b tb)(hm:behindInMarks op b=false):PE X (.Compare a [op] [b] pos) (tOp r ta tb):=by
 intro pins s σ H Q I h
 exact wpAny_Compare1 (binT ha hb I h fun v u s2 x y H2 I2 rx ry q=>ho pins s2 σ H2 x y v u Q I2 rx ry q) hm
def tTest (t:TE):TT:=fun σ H Q=>t σ H fun x H'=>∃k,x=.bl k∧Q k H'
theorem z1y {op:CmpOp}{r:R2}(ho:OpR X (compareOp op) r)(ha:PE X a ta)(hb:PE X b tb)(hm:behindInMarks op b=false):PT X (.Compare a [op] [b] pos) (tTest (tOp r ta tb)):=by
 intro pins s σ H Q I h
 refine wpAny_isTrue_Compare1 (thn (ha pins s σ H _ I h) fun v s1 ⟨x,H1,I1,r1,q1⟩=>thn (hb pins s1 σ H1 _ I1 q1) fun u s2 ⟨y,H2,I2,r2,q2⟩ =>
  thn (ho pins s2 σ H2 x y v u _ I2 r1 r2 q2) fun c s3 ⟨z,H3,I3,r3,k,e,q3⟩=>?_) hm
 subst e
 cases r3
 exact wpAny_truthy_bool ⟨H3,I3,q3⟩
def tChain (r r':R2)(ta tb tc:TE):TE:=fun σ H Q=>ta σ H fun x H1=>tb σ H1 fun y H2=>r x y H2 fun z H3=>∃k,z=.bl k ∧
 (if k=true then tc σ H3 fun w' H4=>r' y w' H4 Q else Q (.bl false) H3)
theorem pe_chain {op op':CmpOp}{r r':R2}(ho:OpR X (compareOp op) r)(ho':OpR X (compareOp op') r')(ha:PE X a ta)(hb:PE X b tb)(hc:PE X c tc)
  (hm:lastMarks [op,op'] [b,c]=false:=by with_unfolding_all rfl):PE X (.Compare a [op,op'] [b,c] pos) (tChain r r' ta tb tc):=by
 intro pins s σ H Q I h
 refine Compare_chain (thn (ha pins s σ H _ I h) fun v s1 ⟨x,H1,I1,r1,q1⟩=>chain_link (thn (hb pins s1 σ H1 _ I1 q1) fun u s2 ⟨y,H2,I2,r2,q2⟩ =>
  thn (ho pins s2 σ H2 x y v u _ I2 r1 r2 q2) fun d s3 ⟨z,H3,I3,r3,k,e,q3⟩=>?_)) hm
 subst e
 cases r3
 refine wpAny_truthy_bool ?_
 cases k with
 |false=>exact ite_ff ⟨.bl false,H3,I3,rfl,q3⟩
 |true=>exact ite_tt (chain_last (thn (hc pins s3 σ H3 _ I3 q3) fun w' s4 ⟨z',H4,I4,r4,q4⟩=>ho' pins s4 σ H4 y z' u w' Q I4 r2 r4 q4))
def TruV (K:PySem.W.Frag)(x:V)(H:Hp)(k:Bool):Prop :=
 match x with
 |.non=>k=false
 |.bl b=>k=b
 |.int i=>k=(i != 0)
 |.str y=>y.length≤sizeLine∧k=((y.length:Int) != 0)
 |.byt y=>y.size≤sizeLine∧k=((y.size:Int) != 0)
 |.ref p=>(∃xs,SqL K H p xs∧k = !xs.isEmpty)∨(∃xs,SqT K H p xs∧k = !xs.isEmpty) ∨ ∃kvs,H p=some (.dK kvs)∧k = !kvs.isEmpty
 |_=>False
theorem y9u {κ:Type}{kvs:List (κ×V)}{vs:List (κ×Value)}(r:KV kvs vs):(!vs.isEmpty) = !kvs.isEmpty:=by
 cases r<;>rfl
theorem y2i {xs:List V}{its:List Value}(r:Vals xs its):(!its.toArray.isEmpty) = !xs.isEmpty:=by
 cases r<;>simp
theorem y1b:(sizeLine:Nat)<2 ^ 63:=by rw[sizeLine_eq];decide
theorem tru_ok:TruR X (fun x H Q=>∃k,TruV X.K x H k∧Q k H):=by
 intro pins s σ H x v Q I rx h
 obtain⟨k,e,q⟩:=h
 have hl:=y1b
 have hs:sizeLine=16777216:=sizeLine_eq
 cases x with
 |non =>
  cases rx
  have e':k=false:=e
  subst e'
  exact truthy_none ⟨H,I,q⟩
 |bl b =>
  cases rx
  have e':k=b:=e
  subst e'
  exact wpAny_truthy_bool ⟨H,I,q⟩
 |int i =>
  obtain⟨t,rfl⟩:=rx
  have e':k=(i != 0):=e
  subst e'
  exact PySem.P.truthy_int ⟨H,I,q⟩
 |str y =>
  obtain⟨t,rfl⟩:=rx
  obtain⟨hy,e'⟩:y.length≤sizeLine∧k=((y.length:Int) != 0):=e
  subst e'
  exact PySem.P.truthy_str (by omega) ⟨H,I.tok _,q⟩
 |byt y =>
  obtain⟨t,rfl⟩:=rx
  obtain⟨hy,e'⟩:y.size≤sizeLine∧k=((y.size:Int) != 0):=e
  subst e'
  exact PySem.W.truthy_bytes (by omega) ⟨H,I.tok _,q⟩
 |ref p =>
  cases rx
  have e':(∃xs,SqL X.K H p xs∧k = !xs.isEmpty)∨(∃xs,SqT X.K H p xs∧k = !xs.isEmpty) ∨ ∃kvs,H p=some (.dK kvs)∧k = !kvs.isEmpty:=e
  rcases e' with ⟨xs,hx,e'⟩|⟨xs,hx,e'⟩|⟨kvs,hx,e'⟩
  ·subst e'
   obtain⟨its,r,pl,hz⟩:=I.list hx
   have hlen:=r.length
   exact wpAny_truthy_list pl.isList (by simp only[List.size_toArray];omega) ⟨H,I.tok _,by rw[y2i r];exact q⟩
  ·subst e'
   obtain⟨its,r,pl,hz⟩:=I.tuple hx
   have hlen:=r.length
   exact truthy_tuple pl (by simp only[List.size_toArray];omega) ⟨H,I.tok _,by rw[y2i r];exact q⟩
  ·subst e'
   obtain⟨hz,hS,vs,r,m⟩:kvs.length≤sizeLine∧(p == sysModules)=false∧∃vs,KV kvs vs∧s.heap.DictOf (z2o X.prog X.w) p vs:=I.hok p _ hx
   have hlen:kvs.length=vs.length:=Paired.length r
   exact wpAny_truthy_dict hS m (by omega) ⟨H,I.tok _,by rw[y9u r];exact q⟩
 |_=>exact(show False from e).elim
theorem z6w (ha:PE X a ta)(he:∀whole,isTrue a X.env whole=(do let v ←whole;standAt a.pos;holding [v] (truthy v))) :
  PT X a (fun σ H Q=>ta σ H fun x H'=>∃k,TruV X.K x H' k∧Q k H'):=by
 intro pins s σ H Q I h
 exact isTrue_plain (thn (ha pins s σ H _ I h) fun v s1 ⟨x,H1,I1,r1,q1⟩=>tru_ok pins s1 σ H1 x v Q I1 r1 q1) (he _)
theorem z1n:OpR X (binaryOp .Add) (fun x y H Q=>∃i j,x=.str i∧y=.str j∧i.length+j.length≤sizeLine∧Q (.str (i++j)) H):=by
 intro pins s σ H x y v u Q I rx ry h
 obtain⟨i,j,rfl,rfl,hz,q⟩:=h
 obtain⟨t,rfl⟩:=rx
 obtain⟨t',rfl⟩:=ry
 exact add_str (fun t' tk=>⟨.str (i++j),H,I.tok _,⟨_,rfl⟩,q⟩) hz
theorem z8m {x:V}{us:List Value}(r:Vals [x] us):∃u,us=[u]∧RelV x u:=by
 cases r with
 |cons r1 r2=>cases r2;exact⟨_,rfl,r1⟩
theorem vals2 {x y:V}{us:List Value}(r:Vals [x,y] us):∃u w',us=[u,w']∧RelV x u∧RelV y w':=by
 cases r with
 |cons r1 r2 =>
  cases r2 with
  |cons r3 r4=>cases r4;exact⟨_,_,rfl,r1,r3⟩
theorem x2q:z7d X (.type "int") (fun xs H Q=>(∃i,xs=[.int i]∧Q (.int i) H) ∨ ∃k,xs=[.bl k]∧Q (.int (if k then 1 else 0)) H):=by
 intro pins s σ H xs us Q I r h
 rcases h with ⟨i,rfl,q⟩|⟨k,rfl,q⟩
 ·obtain⟨u,rfl,t,rfl⟩:=z8m r
  exact call_int_int ⟨.int i,H,I,⟨_,rfl⟩,q⟩
 ·obtain⟨u,rfl,r1⟩:=z8m r
  cases r1
  exact call_int_bool ⟨.int (if k then 1 else 0),H,I.tok _,⟨_,rfl⟩,q⟩
end
end L2
namespace L2
open PySem PySem.Spec PyProof.Rows
structure ObjM (h:Heap)(x dx C:Addr)(mA:Str→Option Value):Prop where
 obj:h.get? x=some (PySem.W.instObj C dx)
 ns:h.Ns1 dx mA
 ne:dx≠x
theorem x2d {h:Heap}{dx:Addr}{mA:Str→Option Value}(n:h.Ns1 dx mA):∃od,h.get? dx=some od∧∀name,PySem.W.lookIn name od=some (mA name):=by
 obtain⟨o,es,ep,ho,hd,hk,_,hm⟩:=n
 refine⟨o,ho,fun name=>?_⟩
 have e:=hm name
 unfold nsFind findBy at e
 rw[←Array.find?_toList]at e
 unfold PySem.W.lookIn
 rw[hd]
 dsimp only
 split
 ·rename_i y q
  rw[q]at e
  exact congrArg some e
 ·rename_i q
  rw[q]at e
  have a:es.toList.any (·.refKey)=false:=by
   rw[List.any_eq_false]
   intro y hy
   obtain⟨z,t,hkey⟩:=hk y (Array.mem_toList_iff.mp hy)
   simp[DictEntry.refKey,hkey]
  have a':¬es.toList.any (·.refKey)=true:=by rw[a];exact Bool.false_ne_true
  rw[if_neg a']
  exact congrArg some e
theorem ObjM.look {h:Heap}{x dx C:Addr}{mA:Str→Option Value}(I:ObjM h x dx C mA):∃od,PySem.W.InstAt h x (PySem.W.instObj C dx) C (some od)∧∀name,PySem.W.lookIn name od=some (mA name) :=
 let ⟨od,ho,hl⟩:=x2d I.ns
 ⟨od,⟨I.obj,rfl,rfl,ho⟩,hl⟩
section
variable {prog:Program}{w:World}{A:Around}{E:Value→Shared→Prop}{s:Shared}{K:PySem.W.Frag}{x dx C f:Addr}{mA:Str→Option Value}{name:Str}{v:Value}
end
section
variable {P:Program}{w:World}{H H':Hp}{h h':Heap}{a C dx:Addr}{fs fs':List (Str×V)}
theorem ins_get (hok:HOk P w H h)(e:H a=some (.ins C dx fs)):∃mA,ObjM h a dx C mA∧(∀f,RelO (fs.lookup f) (mA f))∧PySem.Within mA (fs.map (·.1))∧fs.length≤1000∧H dx=some (.own a):=by
 obtain⟨d,z,ne,ob,mA,n,r,q⟩:=(show ObjOk P w H h a (.ins C dx fs) from hok a _ e)
 exact⟨mA,⟨ob,n,ne⟩,r,q,z,d⟩
end
structure Cls (K:PySem.W.Frag)(C:Addr):Prop where
 pg:PySem.W.plainGet K C Str.empty=true
 hd:PySem.W.hasDictIn K C=true
 po:PySem.W.plainOver K C=true
 sa:PySem.W.findIn K (.ref C) "__setattr__" = some (some (.builtin "object.__setattr__"))
theorem Cls.get {K:PySem.W.Frag}{C:Addr}(c:Cls K C)(f:Str):PySem.W.plainGet K C f=true:=c.pg
structure Con (K:PySem.W.Frag)(C:Addr)(f:Str)(v:V)(u:Value):Prop where
 at_:PySem.W.findIn K (.ref C) f=some (some u)
 rel:RelV v u
 get:PySem.W.specialIn K u "__get__" = some none
 cp:PySem.W.copiedNames.contains f=false
structure Meth (K:PySem.W.Frag)(C:Addr)(m:Str)(f:Addr):Prop where
 at_:PySem.W.findIn K (.ref C) m=some (some (.ref f))
 fn:PySem.W.isFn K (.ref f)=true
 kp:PySem.W.keepIn K (.ref f)=true
section
variable {X:Cx}{pins:List (Addr×Obj)}{σ:St}{H:Hp}{s:Shared}{a C dx:Addr}{fs:List (Str×V)}{f:Str}{v:V}{A:Around}{E:Value→Shared→Prop}
theorem attr_of {prog:Program}{w:World}{env:Env}{e:Expr}{f:Str}{pos:Pos}{s:Shared}{Q:Value→Shared→Prop}(hb:attributeBase e f env (eval e env)=eval e env)
  (h:wpAny (model prog w) A (eval e env) (fun o s₁=>wpAny (model prog w) A (getAttr o f true) Q E s₁) E s):wpAny (model prog w) A (eval (.Attribute e f pos) env) Q E s :=
 Attribute_any_ h (by rw[arm_eval_Attribute,hb])
end
section
variable {X:Cx}{o e value:Expr}{f:Str}{pos pos' tpos:Pos}{ta tv:TE}
end
section
variable {X:Cx}{pins:List (Addr×Obj)}{σ:St}{H:Hp}{s:Shared}{A:Around}{E:Value→Shared→Prop}{Q:Value→Shared→Prop}{c:Value}{b:Bool}
inductive TyOf (K:PySem.W.Frag)(H:Hp):V→Value→Prop where
 |non:TyOf K H .non (.type "NoneType")
 |bl (x:Bool):TyOf K H (.bl x) (.type "bool")
 |int (i:Int):TyOf K H (.int i) (.type "int")
 |str (x:Str):TyOf K H (.str x) (.type "str")
 |flt (x:UInt64):TyOf K H (.flt x) (.type "float")
 |lst {a:Addr}{xs:List V}(e:H a=some (.lst xs)):TyOf K H (.ref a) (.type "list")
 |frz {a:Addr}{o:Obj}{xs:List V}(e:H a=some (.frz o (.lst xs))):TyOf K H (.ref a) (.type "list")
 |tup {a:Addr}{xs:List V}(e:H a=some (.tup xs)):TyOf K H (.ref a) (.type "tuple")
 |dK {a:Addr}{kvs:List (Key×V)}(e:H a=some (.dK kvs)):TyOf K H (.ref a) (.type "dict")
 |dT {a:Addr}{kvs:List (List Key×V)}(e:H a=some (.dT kvs)):TyOf K H (.ref a) (.type "dict")
 |ins {a C dx:Addr}{fs:List (Str×V)}(e:H a=some (.ins C dx fs)) (cl:Cls K C) (ha:PySem.W.findIn K (.ref C) "__class__" = some (some (.builtin "object.__class__")))
   (hn:PySem.W.specialIn K (.builtin "object.__class__") "__get__" = some (some (.builtin "getset_descriptor.__get__"))) (htk:PySem.W.takesIn K (.builtin "object.__class__")=some true)
   (hm:PySem.W.mroIn K C (.type "object")=some true):TyOf K H (.ref a) (.ref C)
theorem x3f {x:V}{u t:Value}(I:Inv X pins σ H s)(rx:RelV x u)(ty:TyOf X.K H x t)(e:PySem.W.kitOne X.K t c=some b)(h:∀tk,Q (.bool b) { s with toks:=tk }) :
  wpAny (model X.prog X.w) A (call (.builtin "isinstance") [u,c]) Q E s:=by
 cases ty with
 |non=>cases(show u=Value.none from rx);exact PySem.W.kia_one PySem.W.kitx_none I.kIn True.intro e (fun z=>nomatch z) h
 |bl y=>cases(show u=Value.bool y from rx);exact PySem.W.kia_one PySem.W.kitx_bool I.kIn True.intro e (fun z=>nomatch z) h
 |int i=>obtain⟨t,q⟩:=(show ∃t,u=Value.int i t from rx);cases q;exact PySem.W.kia_one PySem.W.kitx_int I.kIn True.intro e (fun z=>nomatch z) h
 |str y=>obtain⟨t,q⟩:=(show ∃t,u=Value.str y t from rx);cases q;exact PySem.W.kia_one PySem.W.kitx_str I.kIn True.intro e (fun z=>nomatch z) h
 |flt y=>obtain⟨t,q⟩:=(show ∃t,u=Value.float y t from rx);cases q;exact PySem.W.kia_one PySem.W.kitx_float I.kIn True.intro e (fun z=>nomatch z) h
 | @lst a xs ea =>
  cases(show u=Value.ref a from rx)
  obtain⟨_,_,n,_,h1⟩:=(show ObjOk X.prog X.w H s.heap a (.lst xs) from I.hok a _ ea)
  exact PySem.W.kia_one PySem.W.kitx_list I.kIn ⟨_,h1,rfl⟩ e (fun z=>nomatch z) h
 | @frz a ob xs ea =>
  cases(show u=Value.ref a from rx)
  obtain⟨_,_,_,n,_,h1⟩:=(show ObjOk X.prog X.w H s.heap a (.frz ob (.lst xs)) from I.hok a _ ea)
  exact PySem.W.kia_one PySem.W.kitx_list I.kIn ⟨_,h1,rfl⟩ e (fun z=>nomatch z) h
 | @tup a xs ea =>
  cases(show u=Value.ref a from rx)
  obtain⟨_,_,_,p⟩:=(show ObjOk X.prog X.w H s.heap a (.tup xs) from I.hok a _ ea)
  obtain⟨o,h1,h2,_⟩:=p
  exact PySem.W.kia_one PySem.W.kitx_tuple I.kIn ⟨o,h1,h2⟩ e (fun z=>nomatch z) h
 | @dK a kvs ea =>
  cases(show u=Value.ref a from rx)
  obtain⟨_,_,vs,_,p⟩:=(show ObjOk X.prog X.w H s.heap a (.dK kvs) from I.hok a _ ea)
  obtain⟨o,es,ep,h1,h2,_⟩:=p
  exact PySem.W.kia_one PySem.W.kitx_dict I.kIn ⟨o,h1,h2.1⟩ e (fun z=>nomatch z) h
 | @dT a kvs ea =>
  cases(show u=Value.ref a from rx)
  obtain⟨_,_,xs,_,o,es,ep,h1,h2,_⟩:=(show ObjOk X.prog X.w H s.heap a (.dT kvs) from I.hok a _ ea)
  exact PySem.W.kia_one PySem.W.kitx_dict I.kIn ⟨o,h1,h2.1⟩ e (fun z=>nomatch z) h
 | @ins a C dx fs ea cl ha hn htk hm =>
  cases(show u=Value.ref a from rx)
  obtain⟨mA,O,_⟩:=ins_get I.hok ea
  obtain⟨od,J,_⟩:=O.look
  exact PySem.W.kia_one (PySem.W.kitx_own (cl.get _) cl.hd ha hn htk hm) I.kIn J e (fun z=>nomatch z) h
end
end L2
namespace L2
open PySem PySem.Spec PyProof.Rows
structure Room (k:Nat)(A:Around):Prop where
 hd:A.handled=none
 dp:A.depth+3 * k+5<recursionLimit
 un:A.units+16 * k+200<cLine
theorem Room.mono {j k:Nat}{A:Around}(r:Room k A)(h:j≤k):Room j A:=⟨r.hd,by have:=r.dp;omega,by have:=r.un;omega⟩
theorem Room.deeper {k:Nat}{A:Around}(r:Room (k+1) A)(env:Env):Room k (A.deeper env) :=
 ⟨r.hd,by have:=r.dp;show A.depth+1+3 * k+5<_;omega,by have:=r.un;show A.units+3+16 * k+200<_;omega⟩
theorem x0m {A:Around}{C:Addr}{us:List Value}{kw:List (Str×Value)}:(A.under (.builtin "type.__call__" ⟨.ref C::us,kw⟩)).depth=A.depth+1:=by
 first|rfl|simp[Around.under,Code.weight,Code.isCreation,Code.isGuard,Code.isCaller,Code.frames,Code.isFrame,guardIds]
theorem y9t {A:Around}{C:Addr}{us:List Value}{kw:List (Str×Value)}:(A.under (.builtin "type.__call__" ⟨.ref C::us,kw⟩)).units=A.units+1:=by
 first|rfl|simp[Around.under,Code.cUnits,Code.frames,Code.isFrame]
theorem Room.make {k:Nat}{A:Around}(r:Room (k+1) A)(C:Addr)(us:List Value)(kw:List (Str×Value)):Room k (A.under (.builtin "type.__call__" ⟨.ref C::us,kw⟩)) :=
 ⟨r.hd,by have:=r.dp;rw[x0m];omega,by have:=r.un;rw[y9t];omega⟩
theorem Room.depth {k:Nat}{A:Around}(r:Room k A):A.depth<recursionLimit:=by have:=r.dp;omega
def tNil:TA:=fun _ H Q=>Q [] H
def x0p (ta:TE)(tr:TA):TA:=fun σ H Q=>ta σ H fun x H1=>tr σ H1 fun xs H2=>Q (x::xs) H2
section
variable {X:Cx}{e:Expr}{es:List Expr}{te:TE}{t:TA}{pos:Pos}
theorem z0j:PA X [] tNil:=fun _ _ _ _ H Q I h=>Calls.spliced_nil ⟨[],H,I,.nil,h⟩
theorem z0d (ha:PE X e te)(hr:PA X es t)(hs:starEach (e::es) X.env=(false,eval e X.env)::starEach es X.env:=by rfl):PA X (e::es) (x0p te t):=by
 intro pos pins s σ H Q I h
 rw[hs]
 show wpAny _ _ (spliced ((false,eval e X.env)::backTo pos (starEach es X.env))) _ _ s
 refine Calls.spliced_cons (thn (ha pins s σ H _ I h) fun u s1 ⟨x,H1,I1,r1,q1⟩=>?_)
 exact thn (hr pos pins s1 σ H1 _ I1 q1) fun us s2 ⟨xs,H2,I2,r2,q2⟩=>⟨x::xs,H2,I2,.cons r1 r2,q2⟩
def tTup (t:TA):TE:=fun σ H Q=>t σ H fun xs H1=>xs.length≤sizeLine∧∀p,H1 p=none→Q (.ref p) (upd H1 p (.tup xs))
def tLst (t:TA):TE:=fun σ H Q=>t σ H fun xs H1=>xs.length≤sizeLine∧∀p,H1 p=none→Q (.ref p) (upd H1 p (.lst xs))
theorem z5n {x1}(h:PA X es t):PE X (.Tuple es x1 pos) (tTup t):=by
 intro pins s σ H Q I hq
 refine wpAny_Tuple_spliced (thn (h pos pins s σ H _ I hq) fun us s1 ⟨xs,H1,I1,r,z,q⟩=>⟨by rw[←r.length];exact z,?_⟩)
 have hf:H1 s1.heap.objs.size=none:=I1.hok.fresh (Nat.le_refl _)
 refine⟨.ref s1.heap.objs.size,upd H1 s1.heap.objs.size (.tup xs),I1.laid (t':=s1.toks) (fun b u e=>Heap.get?_push_of_some _ e) (Nat.le_refl _) ?_,rfl,q _ hf⟩
 exact⟨z,us,r,⟨_,Heap.get?_push_size _ rfl,rfl,_,rfl⟩⟩
theorem z4s (h:PA X es t):PE X (.List es pos) (tLst t):=by
 intro pins s σ H Q I hq
 refine wpAny_List_spliced (thn (h pos pins s σ H _ I hq) fun us s1 ⟨xs,H1,I1,r,z,q⟩=>⟨by rw[←r.length];exact z,?_⟩)
 have hf:H1 s1.heap.objs.size=none:=I1.hok.fresh (Nat.le_refl _)
 refine⟨.ref s1.heap.objs.size,upd H1 s1.heap.objs.size (.lst xs),I1.laid (t':=s1.toks) (fun b u e=>Heap.get?_push_of_some _ e) (Nat.le_refl _) ?_,rfl,q _ hf⟩
 exact⟨z,us,0,r,Heap.get?_push_size _ rfl⟩
end
abbrev Sp:=List V→Hp→VK→XK→Prop
abbrev CXT:=List Env→Hp→Shared→XK→Value→Shared→Prop
structure Env0 (P:Program)(w:World)(K:PySem.W.Frag)(mg:Str→Option Value)(base:Heap)(A:Around)(outer:List Env)(s:Shared)(H:Hp):Prop where
 frames:A.frames=some outer
 mod:Mod K mg base
 bs:∀b o,base.get? b=some o→s.heap.get? b=some o∧H b=none
 bsz:base.objs.size≤s.heap.objs.size
 funs:s.heap.FunFrames base outer
 frf:∀b∈frs outer,H b=none
 lam:LamOk H
 hok:HOk P w H s.heap
 bare:AllBare s.gens
def CE (outer:List Env)(P:Program)(w:World)(H:Hp)(s:Shared)(Q:VK)(u:Value)(s':Shared):Prop :=
 ∃v H',s'.os=s.os∧AllBare s'.gens∧Un (frs outer) [] H H' s.heap s'.heap∧HOk P w H' s'.heap∧RelV v u∧Q v H'
def CR (CX:CXT)(outer:List Env)(P:Program)(w:World)(H:Hp)(s:Shared)(Q:VK)(E:XK)(r:Result)(s':Shared):Prop :=
 match r with
 |.ok (.ret u)=>CE outer P w H s Q u s'
 |.ok _=>False
 |.error e=>CX outer H s E e s'
structure FnOk (P:Program)(w:World)(K:PySem.W.Frag)(mg:Str→Option Value)(base:Heap)(CX:CXT)(k:Nat)(f:Addr)(fd:FuncData)(ps:List Str)(sp:Sp):Prop where
 len:∀vs H Q E,sp vs H Q E→vs.length=ps.length
 run:∀(A:Around) (outer:List Env) (s:Shared) (H:Hp) (args:Args) (us:List Value) (vs:List V) (Q:VK) (E:XK),Room k A→Env0 P w K mg base A outer s H→BindsTo s fd args (ps.zip us)→Vals vs us→sp vs H Q E →
  codeAny (model P w) A (.call (.ref f) args) (CR CX outer P w H s Q E) s
theorem Env0.make {P:Program}{w:World}{K:PySem.W.Frag}{mg:Str→Option Value}{base:Heap}{A:Around}{outer:List Env}{s:Shared}{H:Hp}(e:Env0 P w K mg base A outer s H)(C:Addr)(us:List Value)(kw:List (Str×Value)) :
  Env0 P w K mg base (A.under (.builtin "type.__call__" ⟨.ref C::us,kw⟩)) outer s H:=⟨by first|exact e.frames|(simpa[Around.under,Code.envs,Code.isFrame,pushEnvs] using e.frames),e.mod,e.bs,e.bsz,e.funs,e.frf,e.lam,e.hok,e.bare⟩
section
variable {X:Cx}{pins:List (Addr×Obj)}{σ:St}{H:Hp}{s s':Shared}
theorem Inv.env0 (I:Inv X pins σ H s):Env0 X.prog X.w X.K X.mg X.base X.A X.stack s H :=
 ⟨I.ok.frames,I.ok.mod,I.bs,Nat.le_trans I.ok.bsz I.sz,I.stack,I.stkFree,fun p e=>I.base.tbls p (I.ok.lam p e),I.hok,I.bare⟩
theorem Inv.after {Q:VK}{u:Value}(I:Inv X pins σ H s)(h:CE X.stack X.prog X.w H s Q u s'):EP X pins σ Q u s':=by
 obtain⟨v,H',os,bare,un,hok,r,q⟩:=h
 obtain⟨hh,g,d,t,os'⟩:=s'
 obtain rfl:os' = s.os:=os
 exact⟨v,H',I.call (h':=hh) (g':=g) (d':=d) (t':=t) (ch:=[]) un hok bare (fun b z=>absurd z (by simp)),r,q⟩
end
def x0x (sp:Sp)(dvs:List V)(E:XK)(t:TA):TE:=fun σ H Q=>t σ H fun vs H1=>sp (vs++dvs) H1 Q E
def Binds (K:PySem.W.Frag)(fd:FuncData)(ps:List Str)(ds:List Value):Prop :=
 ∀(s:Shared) (us:List Value),K.In s.heap→(us++ds).length=ps.length→BindsTo s fd ⟨us,[]⟩ (ps.zip (us++ds))
theorem Binds.all {K:PySem.W.Frag}{fd:FuncData}{ps:List Str}(h:∀us:List Value,us.length=ps.length→bindArgs fd ⟨us,[]⟩=pure (ps.zip us)):Binds K fd ps []:=fun s us _ hl=>by
 rw[List.append_nil]at hl ⊢
 exact .of_eq (h us hl)
def z9f (CX:CXT)(X:Cx)(E:XK):Prop:=∀(pins:List (Addr×Obj)) (σ:St) (H:Hp) (s:Shared) (e:Value) (s':Shared),Inv X pins σ H s→CX X.stack H s E e s'→X.xe e s'
section
variable {X:Cx}{CX:CXT}{k:Nat}{f C:Addr}{fd:FuncData}{ps:List Str}{sp:Sp}{dvs:List V}{ds:List Value}{E:XK}{x m:Str}{p pos apos:Pos}{e o:Expr}{es:List Expr}{ta:TE}{t:TA}
theorem run_fn {pins:List (Addr×Obj)}{σ:St}{H:Hp}{s:Shared}{Q:VK}{us:List Value}{vs:List V}(F:FnOk X.prog X.w X.K X.mg X.base CX k f fd ps sp)(hr:Room k X.A)(hb:Binds X.K fd ps ds)(hd:Vals dvs ds)(hx:z9f CX X E)
  (I:Inv X pins σ H s)(r:Vals vs us)(h:sp (vs++dvs) H Q E):wpAny (model X.prog X.w) X.A (call (.ref f) us) (EP X pins σ Q) X.xe s:=by
 have r2:Vals (vs++dvs) (us++ds):=r.append hd
 have hl:(us++ds).length=ps.length:=by rw[←r2.length];exact F.len _ _ _ _ h
 refine wpAny_call (codeAny_mono (F.run X.A X.stack s H ⟨us,[]⟩ (us++ds) (vs++dvs) Q E hr I.env0 (hb s us I.kIn hl) r2 h) fun r s' hq=>?_)
 cases r with
 |error e=>exact hx pins σ H s e s' I hq
 |ok fl =>
  cases fl with
  |ret u=>exact I.after hq
  |next=>exact False.elim hq
  |brk=>exact False.elim hq
  |cont=>exact False.elim hq
theorem z1e (F:FnOk X.prog X.w X.K X.mg X.base CX k f fd ps sp)(hr:Room k X.A)(hg:Gl X x)(hm:X.mg x=some (.ref f))(hk:PySem.W.keepIn X.K (.ref f)=true)(hb:Binds X.K fd ps ds)(hd:Vals dvs ds)(hx:z9f CX X E)
  (ha:PA X (e::es) t)(hdb:(x == ("__debug__":Str))=false:=by decide)(he:starEach (e::es) X.env=(false,eval e X.env)::starEach es X.env:=by rfl)(hpl:(backTo pos (starEach es X.env)).any (·.1)=false:=by rfl) :
  PE X (.Call (.Name x p) (e::es) [] pos) (x0x sp dvs E t):=by
 intro pins s σ H Q I h
 refine wpAny_Call_Name_kw (z7g I hg hm ?_ hdb)
 refine PySem.W.callWith_K (h₀:=X.base) I.ok.mod.kin hk (thn (ha pos pins s σ H _ I h) fun us s1 ⟨vs,H1,I1,r,q⟩=>⟨I1.kIn,?_⟩) he hpl
 exact run_fn F hr hb hd hx I1 r q
structure Mk (K:PySem.W.Frag)(C f:Addr):Prop where
 makes:PySem.W.makesIn K C=true
 init:PySem.W.findIn K (.ref C) "__init__" = some (some (.ref f))
 fn:PySem.W.isFn K (.ref f)=true
 kp:PySem.W.keepIn K (.ref C)=true
end
section
variable {X:Cx}{CX:CXT}{k:Nat}{f C:Addr}{fd:FuncData}{ps ks:List Str}{sp:Sp}{E:XK}{x m:Str}{p pos apos kpos:Pos}{e o:Expr}{es:List Expr}{kws:List Keyword}{te ta:TE}{t tk:TA}{nm:Option Str}
structure KBinds (K:PySem.W.Frag)(fd:FuncData)(ps ks:List Str)(g:List Value→List Value→List Value)(gV:List V→List V→List V):Prop where
 to:∀(s:Shared) (us ws:List Value),K.In s.heap→(g us ws).length=ps.length→BindsTo s fd ⟨us,ks.zip ws⟩ (ps.zip (g us ws))
 rel:∀{vs:List V}{us:List Value}{zs:List V}{ws:List Value},Vals vs us→Vals zs ws→Vals (gV vs zs) (g us ws)
variable {g:List Value→List Value→List Value}{gV:List V→List V→List V}
end
structure FnScope (N P:List Str)(sc:Scope):Prop where
 kind:sc.kind=.function
 co:sc.isCoroutine=false
 gen:sc.isGenerator=false
 nd:N.Nodup
 pre:N.take P.length=P
 par:∀x∈P,sc.names.lookup x=some .local∨sc.names.lookup x=some .cell
 nofree:∀y∈sc.names,y.2≠.free
theorem y5l {kindOf:Str→Option NameKind}{x:Str}:∀{binds:List (Str×Value)}{m:Str→Option Value},(∀v,(x,v)∉binds)→bindL kindOf binds m x=m x
 | [],_,_=>rfl
 |(n,v)::r,m,h=>by
  unfold bindL
  rw[y5l fun w hw=>h w (List.mem_cons_of_mem _ hw)]
  split
  ·have:x≠n:=by rintro rfl;exact h v List.mem_cons_self
   simp[this]
  ·rfl
theorem y5w {kindOf:Str→Option NameKind}{x:Str}:∀{binds:List (Str×Value)}{m:Str→Option Value},(∀v,(x,v)∉binds)→bindC kindOf binds m x=m x
 | [],_,_=>rfl
 |(n,v)::r,m,h=>by
  unfold bindC
  rw[y5w fun w hw=>h w (List.mem_cons_of_mem _ hw)]
  split
  ·rfl
  ·have:x≠n:=by rintro rfl;exact h v List.mem_cons_self
   simp[this]
theorem y5o {kindOf:Str→Option NameKind}{x:Str}{v:Value}:∀{P:List Str}{vs:List Value}{i:Nat}{m:Str→Option Value},P.Nodup→P[i]? = some x→vs[i]? = some v→kindOf x=some .local →
  bindL kindOf (P.zip vs) m x=some v
 | [],_,_,_,_,h,_,_=>by simp at h
 |_::_,[],_,_,_,_,h,_=>by simp at h
 |p::P,w::vs,0,m,nd,h1,h2,hk=>by
  simp at h1 h2;subst h1;subst h2
  show bindL kindOf ((p,w)::P.zip vs) m p=_
  unfold bindL
  rw[y5l fun v hv=>(List.nodup_cons.mp nd).1 (List.of_mem_zip hv).1,if_pos hk]
  simp
 |p::P,w::vs,i+1,m,nd,h1,h2,hk=>by
  show bindL kindOf ((p,w)::P.zip vs) m x=_
  unfold bindL
  exact y5o (i:=i) (List.nodup_cons.mp nd).2 (by simpa using h1) (by simpa using h2) hk
theorem y6d {kindOf:Str→Option NameKind}{x:Str}{v:Value}:∀{P:List Str}{vs:List Value}{i:Nat}{m:Str→Option Value},P.Nodup→P[i]? = some x→vs[i]? = some v→kindOf x≠some .local →
  bindC kindOf (P.zip vs) m x=some v
 | [],_,_,_,_,h,_,_=>by simp at h
 |_::_,[],_,_,_,_,h,_=>by simp at h
 |p::P,w::vs,0,m,nd,h1,h2,hk=>by
  simp at h1 h2;subst h1;subst h2
  show bindC kindOf ((p,w)::P.zip vs) m p=_
  unfold bindC
  rw[y5w fun v hv=>(List.nodup_cons.mp nd).1 (List.of_mem_zip hv).1,if_neg hk]
  simp
 |p::P,w::vs,i+1,m,nd,h1,h2,hk=>by
  show bindC kindOf ((p,w)::P.zip vs) m x=_
  unfold bindC
  exact y6d (i:=i) (List.nodup_cons.mp nd).2 (by simpa using h1) (by simpa using h2) hk
def start (N:List Str)(vs:List V):St:=vs.map some++List.replicate (N.length - vs.length) none
def cxOf (CX:CXT)(P:Program)(w:World)(K:PySem.W.Frag)(mg:Str→Option Value)(base:Heap)(N:List Str)(qual:Str)(scope:Scope)(f:Addr)(cd:Value)(A:Around)(outer:List Env)(s:Shared)(H:Hp)(E:XK):Cx where
 prog:=P
 w:=w
 K:=K
 mg:=mg
 base:=base
 A:=A.deeper (envOfC qual scope s.heap.objs.size f cd)
 N:=N
 s₀:=s
 H₀:=H
 env:=envOfC qual scope s.heap.objs.size f cd
 outer:=outer
 stack:=envOfC qual scope s.heap.objs.size f cd::outer
 ex:=[]
 calm:=true
 fn:=fun _=>true
 pn:=[]
 xe:=fun e s'=>wpAny (model P w) (A.deeper (envOfC qual scope s.heap.objs.size f cd)) (leaving (envOfC qual scope s.heap.objs.size f cd) e) (fun _ s''=>CX outer H s E e s'') (fun e' s''=>CX outer H s E e' s'') s'
theorem y8r {sc:Scope}{n:Nat}{x:Str}(h:sc.names.lookup x=some .cell):∃c,(cellsFrom n sc.names []).lookup x=some c:=by
 have q:=PySem.W.cellsFrom_some sc.names n [] (.inl h)
 exact Option.isSome_iff_exists.mp q
theorem x3b {CX:CXT}{P:Program}{w:World}{K:PySem.W.Frag}{mg:Str→Option Value}{base:Heap}{N ps:List Str}{qual:Str}{scope:Scope}{f:Addr}{cd:Value}{A:Around}{outer:List Env}{s s1:Shared}{H:Hp}{E:XK}{us:List Value}{vs:List V}
  (S:FnScope N ps scope)(hd:A.handled=none)(e0:Env0 P w K mg base A outer s H)(hl:vs.length=ps.length)(r:Vals vs us)
  (x:InCallC s s.heap.objs.size (bindL (envOfC qual scope s.heap.objs.size f cd).kindOf (ps.zip us) fun _=>none) (cellsFrom (s.heap.objs.size+1) scope.names []) (bindC (envOfC qual scope s.heap.objs.size f cd).kindOf (ps.zip us) fun _=>none) s1) :
  Inv (cxOf CX P w K mg base N qual scope f cd A outer s H E) [] (start N vs) H s1:=by
 have hpl:ps.length≤N.length:=by have:=congrArg List.length S.pre;rw[List.length_take]at this;omega
 obtain⟨h1,tk,rfl,hk⟩:=x.done
 have noA:∀b:Addr,b∉(cxOf CX P w K mg base N qual scope f cd A outer s H E).ex:=fun b z=>absurd (show b∈([]:List Addr) from z) (by simp)
 refine⟨⟨e0.mod,S.kind,rfl,rfl,Nat.le_refl _,fun y z c h1 h2=>?_,fun y hy=>?_,fun y c _ h=>?_,fun _=>hd,Around.frames_deeper e0.frames,.inr ⟨rfl,rfl⟩,fun b z=>absurd z (noA b),e0.bs,e0.bsz,fun b _ _=>noA b,fun b z=>absurd z (noA b),e0.funs,e0.frf,e0.lam⟩,
  rfl,e0.bare,Un.kept hk,⟨_,x.toInCall.ns,fun i y v h1 h2 h3=>?_⟩,fun y c h=>⟨_,x.cell y c h⟩,e0.hok.fresh (Nat.le_refl _),fun y c h=>?_,fun p hp=>absurd (show p∈([]:List (Addr×Obj)) from hp) (by simp),e0.hok.kept hk,?_⟩
 ·exact name_of_addr x.apart (PySem.mem_of_lookup h1) (PySem.mem_of_lookup h2)
 ·have hy:scope.names.lookup y=some .cell∨scope.names.lookup y=some .free:=hy
  rcases hy with hy|hy
  ·exact y8r hy
  ·exact absurd rfl (S.nofree _ (PySem.mem_of_lookup hy))
 ·exact Nat.le_of_lt (x.above y c (PySem.mem_of_lookup h))
 ·have hi:i<vs.length:=by
   unfold start at h2
   by_cases hi:i<vs.length
   ·exact hi
   ·rw[List.getElem?_append_right (by simpa using hi)]at h2
    rw[List.getElem?_replicate]at h2
    split at h2<;>cases h2
  have ha:vs[i]? = some v:=by
   unfold start at h2
   rw[List.getElem?_append_left (by simpa using hi),List.getElem?_map]at h2
   cases e:vs[i]? with
   |none=>rw[e]at h2;cases h2
   |some a=>rw[e]at h2;cases h2;rfl
  obtain⟨u,hu,rv⟩:=r.get ha
  have hp:ps[i]? = some y:=by
   rw[←S.pre,List.getElem?_take_of_lt (by omega)];exact h1
  have ndP:ps.Nodup:=by rw[←S.pre];exact S.nd.sublist (List.take_sublist _ _)
  refine⟨u,rv,?_⟩
  rcases S.par y (List.mem_of_getElem? hp) with k|k
  ·exact .inl ⟨k,y5o ndP hp hu k⟩
  ·obtain⟨c,e⟩:=y8r (n:=s.heap.objs.size+1) k
   refine .inr ⟨.inl k,c,e,?_⟩
   have q:=x.cell y c e
   rw[y6d ndP hp hu (by show scope.names.lookup y≠_;rw[k];decide)]at q
   exact q
 ·exact e0.hok.fresh (Nat.le_of_lt (x.above y c (PySem.mem_of_lookup h)))
 ·unfold start
  show _=N.length
  rw[List.length_append,List.length_map,List.length_replicate]
  omega
theorem fn_of {CX:CXT}{P:Program}{w:World}{K:PySem.W.Frag}{mg:Str→Option Value}{base:Heap}{k:Nat}{f:Addr}{name qual:Str}{params:Arguments}{body:List Stmt}{scope:Scope}{dV kV doc pm cdv ct oc:Value}{an od:Option Addr}
  {osl:Array (Option Value)}{N ps:List Str}{sp:Sp}(lk:K.lookup f=some ⟨oc,od,.func (PySem.W.fnOf name qual params body scope dV kV doc pm an cdv ct),osl⟩)(hcd:PySem.W.codeIn K cdv qual=true)(S:FnScope N ps scope)
  (len:∀vs H Q E,sp vs H Q E→vs.length=ps.length)
  (hbody:∀(A:Around) (outer:List Env) (s:Shared) (H:Hp) (vs:List V) (Q:VK) (E:XK),Room k (A.deeper (envOfC qual scope s.heap.objs.size f cdv))→sp vs H Q E →
   ∃t,PSs (cxOf CX P w K mg base N qual scope f cdv A outer s H E) body t∧t { nx:=fun _ H'=>Q .non H',rt:=Q } (start N vs) H) :
  FnOk P w K mg base CX (k+1) f (PySem.W.fnOf name qual params body scope dV kV doc pm an cdv ct) ps sp:=by
 refine⟨len,fun A outer s H args us vs Q E hr e0 hb r hsp=>?_⟩
 have hl:=len _ _ _ _ hsp
 have KX:K.In s.heap:=e0.mod.kin.keeps fun b o e=>(e0.bs b o e).1
 have lim:s.heap.NoLimit:=e0.mod.nolimit.keeps fun b o e=>(e0.bs b o e).1
 have hkind:∀y∈ps.zip us,scope.names.lookup y.1=some .local∨(scope.names.lookup y.1=some .cell∧((cellsFrom (s.heap.objs.size+1) scope.names []).lookup y.1).isSome=true):=fun⟨n,v⟩ hy=>by
  rcases S.par n (List.of_mem_zip hy).1 with q|q
  ·exact .inl q
  ·exact .inr ⟨q,PySem.W.cellsFrom_some _ _ _ (.inl q)⟩
 refine codeAny_call_function hr.depth (KX _ _ lk) rfl S.co S.gen rfl (PySem.W.codeRec_of KX hcd) (hb _ _ _ _ ?_)
 refine wpAny_newFunctionEnv_cells S.kind hkind fun env he s1 x=>?_
 subst he
 refine⟨lim.keeps x.toInCall.keep,codeAny_func ?_⟩
 obtain⟨t,ht,hq⟩:=hbody A outer s H vs Q E (hr.deeper _) hsp
 have I:Inv (cxOf CX P w K mg base N qual scope f cdv A outer s H E) [] (start N vs) H s1:=x3b S hr.hd e0 hl r x
 refine wpAny_mono (ht [] s1 (start N vs) H _ I hq) (fun fl s' hs=>?_) fun e s' hs=>hs
 have fin:∀{σ':St}{H':Hp}{v:V}{u:Value},Inv (cxOf CX P w K mg base N qual scope f cdv A outer s H E) [] σ' H' s'→RelV v u→Q v H'→CE outer P w H s Q u s' :=
  fun {σ' H' v u} J rv q=>⟨v,H',J.os,J.bare,J.base,J.hok,rv,q⟩
 cases fl with
 |ret u =>
  obtain⟨v,σ',H',J,rv,q⟩:=hs
  exact fin J rv q
 |next =>
  obtain⟨σ',H',J,q⟩:=hs
  exact fin (v:=V.non) (u:=Value.none) J rfl q
 |brk =>
  obtain⟨_,_,_,q⟩:=hs
  exact False.elim q
 |cont =>
  obtain⟨_,_,_,q⟩:=hs
  exact False.elim q
end L2
namespace L2
open PySem PySem.Spec PyProof.Rows
section
variable {X:Cx}{x:Str}{p pos:Pos}{e:Expr}{es:List Expr}{t:TA}{id T:String}{r:List V→Hp→VK→Prop}
def tCB (r:List V→Hp→VK→Prop)(t:TA):TE:=fun σ H Q=>t σ H fun vs H1=>r vs H1 Q
theorem z3e (hc:z7d X (.builtin id) r)(hg:Gl X x)(hm:X.mg x=none)(hv:bootBuiltins x=some (.builtin id))(ha:PA X (e::es) t)(hn:x ≠ "__name__":=by decide)(hdb:(x == ("__debug__":Str))=false:=by decide)
  (he:starEach (e::es) X.env=(false,eval e X.env)::starEach es X.env:=by rfl)(hpl:(backTo pos (starEach es X.env)).any (·.1)=false:=by rfl):PE X (.Call (.Name x p) (e::es) [] pos) (tCB r t):=by
 intro pins s σ H Q I h
 refine wpAny_Call_Name_kw (z9d I hg hm hv ?_ hn hdb)
 exact PyProof.Rows.callWith_builtin1 (thn (ha pos pins s σ H _ I h) fun us s1 ⟨vs,H1,I1,r1,q1⟩=>hc pins s1 σ H1 vs us Q I1 r1 q1) he hpl
theorem y4k (hc:z7d X (.type T) r)(hg:Gl X x)(hm:X.mg x=none)(hv:bootBuiltins x=some (.type T))(ha:PA X (e::es) t)(hn:x ≠ "__name__":=by decide)(hdb:(x == ("__debug__":Str))=false:=by decide)
  (he:starEach (e::es) X.env=(false,eval e X.env)::starEach es X.env:=by rfl)(hpl:(backTo pos (starEach es X.env)).any (·.1)=false:=by rfl):PE X (.Call (.Name x p) (e::es) [] pos) (tCB r t):=by
 intro pins s σ H Q I h
 refine wpAny_Call_Name_kw (z9d I hg hm hv ?_ hn hdb)
 exact PyProof.Rows.callWith_type1 (thn (ha pos pins s σ H _ I h) fun us s1 ⟨vs,H1,I1,r1,q1⟩=>hc pins s1 σ H1 vs us Q I1 r1 q1) he hpl
end
end L2
namespace HT
open PySem PyProof.Rows
section
open PySem.SeqAt
open PySem.AutoSeq1 (wpAny_loadPart')
open PySem.MeetsSeq PySem.MeetsSeq2 PySem.MeetsSeq3
end
section
variable {prog:Program}{w:World}{A:Around}{E:Value→Shared→Prop}{s:Shared}
def sIx (n d:Nat):Option Int→Nat
 |none=>d
 |some v=>if v<0 then(v+(n:Int)).toNat else min v.toNat n
theorem sIx_none (n d:Nat):sIx n d none=d:=rfl
theorem sIx_nat (n d k:Nat):sIx n d (some (k:Int))=min k n:=by
 show(if (k:Int)<0 then((k:Int)+(n:Int)).toNat else min (k:Int).toNat n)=min k n
 rw[if_neg (by omega),Int.toNat_natCast]
end
end HT
namespace L2
open PySem PySem.Spec PyProof.Rows
abbrev TO:=St→Hp→(Option Int→Hp→Prop)→Prop
def PO (X:Cx)(e:Option Expr)(t:TO):Prop :=
 ∀(pins:List (Addr×Obj)) (s:Shared) (σ:St) (H:Hp) (Q:Option Int→Hp→Prop),Inv X pins σ H s→t σ H Q →
  wpAny (model X.prog X.w) X.A (evalPart e X.env) (fun u s'=>∃o H',Inv X pins σ H' s'∧IsPart u o∧Q o H') X.xe s
def y0b:TO:=fun _ H Q=>Q none H
def tPart (t:TE):TO:=fun σ H Q=>t σ H fun x H1=>∃i,x=.int i∧Q (some i) H1
section
variable {X:Cx}{e:Expr}{te:TE}{lo hi:Option Expr}{tl th:TO}{pos p2:Pos}
theorem y3x:PO X none y0b:=by
 intro pins s σ H Q I h
 rw[evalPart_none]
 exact wpAny_pure ⟨none,H,I,.none,h⟩
theorem y0m (h:PE X e te):PO X (some e) (tPart te):=by
 intro pins s σ H Q I hw
 rw[evalPart_some]
 refine thn (h pins s σ H _ I hw) fun u s1 ⟨x,H1,I1,r1,q1⟩=>?_
 obtain⟨i,rfl,q⟩:=q1
 obtain⟨t,rfl⟩:=r1
 exact⟨some i,H1,I1,.int i t,q⟩
def SlR (X:Cx)(r:V→Option Int→Option Int→Hp→VK→Prop):Prop :=
 ∀(pins:List (Addr×Obj)) (s:Shared) (σ:St) (H:Hp) (x:V) (v vl vu:Value) (lo hi:Option Int) (sl:Addr) (Q:VK),Inv X pins σ H s→RelV x v→s.heap.IsSliceOf sl vl vu .none→IsPart vl lo→IsPart vu hi→r x lo hi H Q →
  ∃T id,typeLookup (.type T) "__getitem__" = pure (some (.builtin id))∧s.TypeIs v T∧wpAny (model X.prog X.w) X.A (getItem v (.ref sl)) (EP X pins σ Q) X.xe s
def tSl (r:V→Option Int→Option Int→Hp→VK→Prop)(te:TE)(tl th:TO):TE:=fun σ H Q=>te σ H fun x H1=>tl σ H1 fun l H2=>th σ H2 fun u H3=>r x l u H3 Q
theorem z6q {r:V→Option Int→Option Int→Hp→VK→Prop}(hr:SlR X r)(he:PE X e te)(hl:PO X lo tl)(hu:PO X hi th):PE X (.Subscript e (.Slice lo hi none p2) pos) (tSl r te tl th):=by
 intro pins s σ H Q I h
 refine Subscript_ (thn (he pins s σ H _ I h) fun v s1 ⟨x,H1,I1,r1,q1⟩=>?_)
 refine wpAny_Slice (thn (hl pins s1 σ H1 _ I1 q1) fun vl s2 ⟨l,H2,I2,pl,q2⟩=>thn (hu pins s2 σ H2 _ I2 q2) fun vu s3 ⟨u,H3,I3,pu,q3⟩=>?_)
 rw[evalPart_none]
 refine wpAny_pure ?_
 have I4:Inv X pins σ H3 { s3 with heap:=s3.heap.push { cls:=.type "slice",data:=.fields #[vl,vu,.none] } }:=I3.kept (t':=s3.toks) fun b ob q=>Heap.get?_push_of_some _ q
 obtain⟨T,id,hT,ht,hg⟩:=hr pins { s3 with heap:=s3.heap.push { cls:=.type "slice",data:=.fields #[vl,vu,.none] } } σ H3 x v vl vu l u s3.heap.objs.size Q I4 r1 (Heap.IsSliceOf.new ..) pl pu q3
 show wpAny (model X.prog X.w) X.A (subscriptTail e (.Slice lo hi none p2) v (.ref s3.heap.objs.size)) (EP X pins σ Q) X.xe { s3 with heap:=s3.heap.push { cls:=.type "slice",data:=.fields #[vl,vu,.none] } }
 exact tail_any (ops:=[.ref s3.heap.objs.size,v]) ht hT hg (by with_unfolding_all rfl)
def cutV (xs:List V)(lo hi:Option Int):List V:=(xs.drop (HT.sIx xs.length 0 lo)).take (HT.sIx xs.length xs.length hi - HT.sIx xs.length 0 lo)
theorem y7q (xs:List V)(lo hi:Option Int):(cutV xs lo hi).length≤xs.length:=by
 unfold cutV
 rw[List.length_take,List.length_drop]
 omega
end
end L2
namespace L2
open PySem PySem.Spec PyProof.Rows
def ixN (n:Nat)(i:Int):Option Nat:=if 0≤i then(if i<n then some i.toNat else none) else if -(n:Int)≤i then some (i+n).toNat else none
def atI {α:Type}(xs:List α)(i:Int):Option α:=(ixN xs.length i).bind fun j=>xs[j]?
theorem ixN_seq {n:Nat}{i:Int}{j:Nat}(h:ixN n i=some j):seqIndex? i n=some j∧j<n∧-(n:Int)≤i∧i<n:=by
 unfold ixN at h
 by_cases h0:0≤i
 ·rw[if_pos h0]at h
  by_cases h1:i<n
  ·rw[if_pos h1]at h
   have e:i.toNat=j:=Option.some.inj h
   exact⟨by rw[seqIndex_of h0 h1,e],by omega,by omega,h1⟩
  ·rw[if_neg h1]at h;cases h
 ·rw[if_neg h0]at h
  by_cases h1:-(n:Int)≤i
  ·rw[if_pos h1]at h
   have e:(i+n).toNat=j:=Option.some.inj h
   exact⟨by rw[seqIndex_neg (by omega) h1,e],by omega,h1,by omega⟩
  ·rw[if_neg h1]at h;cases h
theorem y7k {α:Type}{xs:List α}{i:Int}{v:α}(h:atI xs i=some v):∃j,seqIndex? i xs.length=some j∧xs[j]? = some v∧j<xs.length∧-(xs.length:Int)≤i∧i<xs.length:=by
 unfold atI at h
 cases e:ixN xs.length i with
 |none=>rw[e]at h;cases h
 |some j =>
  rw[e]at h
  obtain⟨h1,h2,h3,h4⟩:=ixN_seq e
  exact⟨j,h1,h,h2,h3,h4⟩
theorem z4p {α:Type}{xs:List α}{j:Nat}{v:α}(h:xs[j]? = some v):atI xs (j:Int)=some v:=by
 have hj:j<xs.length:=(List.getElem?_eq_some_iff.mp h).1
 have e:ixN xs.length (j:Int)=some j:=by
  unfold ixN
  rw[if_pos (by omega),if_pos (by omega)];simp
 unfold atI;rw[e];exact h
def y7m (b:Expr):Prop:=∀o i,subscripted b false o i=operate [o,i] (getItem o i)
def IxR (X:Cx)(r:R2):Prop :=
 ∀(value slice:Expr) (pins:List (Addr×Obj)) (s:Shared) (σ:St) (H:Hp) (x y:V) (v u:Value) (Q:VK),Inv X pins σ H s→RelV x v→RelV y u→r x y H Q →
  subscripted slice false v u=operate [v,u] (getItem v u)→wpAny (model X.prog X.w) X.A (subscriptTail value slice v u) (EP X pins σ Q) X.xe s
def MtR (X:Cx)(id:String)(r:V→List V→Hp→VK→Prop):Prop :=
 ∀(pins:List (Addr×Obj)) (s:Shared) (σ:St) (H:Hp) (x:V) (xs:List V) (v:Value) (us:List Value) (Q:VK),Inv X pins σ H s→RelV x v→Vals xs us→r x xs H Q →
  wpAny (model X.prog X.w) X.A (call (.builtin id) (v::us)) (EP X pins σ Q) X.xe s
section
variable {X:Cx}{a b:Expr}{ta tb:TE}{pos:Pos}
theorem IxR.or {r r':R2}(h:IxR X r)(h':IxR X r'):IxR X (fun x y H Q=>r x y H Q∨r' x y H Q):=by
 intro value slice pins s σ H x y v u Q I rx ry q hs
 rcases q with q|q
 ·exact h value slice pins s σ H x y v u Q I rx ry q hs
 ·exact h' value slice pins s σ H x y v u Q I rx ry q hs
theorem z2w {r:R2}(hr:IxR X r)(ha:PE X a ta)(hb:PE X b tb)(hs:y7m b):PE X (.Subscript a b pos) (tOp r ta tb):=by
 intro pins s σ H Q I h
 exact Subscript_ (binT ha hb I h fun v u s2 x y H2 I2 rx ry q=>hr a b pins s2 σ H2 x y v u Q I2 rx ry q (hs _ _))
def rIxL (K:PySem.W.Frag):R2:=fun x y H Q=>∃p xs i v,x=.ref p∧y=.int i∧SqL K H p xs∧atI xs i=some v∧Q v H
def rIxT (K:PySem.W.Frag):R2:=fun x y H Q=>∃p xs i v,x=.ref p∧y=.int i∧SqT K H p xs∧atI xs i=some v∧Q v H
def rIxS:R2:=fun x y H Q=>∃z i c,x=.str z∧y=.int i∧z.length≤sizeLine∧atI z.cps.toList i=some c∧Q (.str ⟨#[c]⟩) H
theorem ix_list:IxR X (rIxL X.K):=by
 intro value slice pins s σ H x y v u Q I rx ry h hs
 obtain⟨p,xs,i,z,rfl,rfl,hq,he,q⟩:=h
 cases rx
 obtain⟨t,rfl⟩:=ry
 obtain⟨its,r,pl,hz⟩:=I.list hq
 obtain⟨j,h1,h2,h3,h4,h5⟩:=y7k he
 obtain⟨w,ew,rw'⟩:=r.get h2
 have hl:=r.length
 have hn:=y1b
 have fin:EP X pins σ Q w s:=⟨z,H,I,rw',q⟩
 by_cases h0:0≤i
 ·have hj:i.toNat=j:=by
   rw[seqIndex_of h0 h5]at h1
   exact Option.some.inj h1
  exact item_listR pl.isList h0 (by omega) (by rw[hj];simpa using ew) fin hs
 ·have hj:(i+(its.toArray.size:Int)).toNat=j:=by
   rw[seqIndex_neg (by omega) h4]at h1
   rw[List.size_toArray,←hl]
   exact Option.some.inj h1
  exact subscriptTail_builtinR (x:=w) pl.isList.typeIs slot_list_getitem.lookup
   (wpAny_getItem_list_neg (Q:=fun r s'=>r=w∧EP X pins σ Q r s') pl.isList (by omega) (by rw[List.size_toArray]<;>omega) (by omega) (by rw[hj];simpa using ew) ⟨rfl,fin⟩) hs
theorem ix_tup:IxR X (rIxT X.K):=by
 intro value slice pins s σ H x y v u Q I rx ry h hs
 obtain⟨p,xs,i,z,rfl,rfl,hq,he,q⟩:=h
 cases rx
 obtain⟨t,rfl⟩:=ry
 obtain⟨its,r,pl,hz⟩:=I.tuple hq
 obtain⟨j,h1,h2,h3,h4,h5⟩:=y7k he
 obtain⟨w,ew,rw'⟩:=r.get h2
 have hl:=r.length
 have hn:=y1b
 have fin:EP X pins σ Q w s:=⟨z,H,I,rw',q⟩
 exact subscriptTail_builtinR (x:=w) pl.typeIs slot_tuple_getitem.lookup
  (getItem_tuple (j:=j) (Q:=fun r s'=>r=w∧EP X pins σ Q r s') pl (by omega) (by omega) (by rw[List.size_toArray,←hl];exact h1) (by simpa using ew) ⟨rfl,fin⟩) hs
theorem y2n:IxR X rIxS:=by
 intro value slice pins s σ H x y v u Q I rx ry h hs
 obtain⟨z,i,c,rfl,rfl,hz,he,q⟩:=h
 obtain⟨t,rfl⟩:=rx
 obtain⟨t',rfl⟩:=ry
 obtain⟨j,h1,h2,h3,h4,h5⟩:=y7k he
 have hl:z.cps.toList.length=z.length:=by simp[Str.length]
 rw[hl]at h1 h4 h5
 have hn:=y1b
 exact tail_any (typeIs_str s z t) slot_str_getitem.lookup (getItem_str (c:=c) (by
  have e1:decide (i < -(2 ^ 63:Int))=false:=decide_eq_false (by omega)
  have e2:decide (i ≥ 2 ^ 63)=false:=decide_eq_false (by omega)
  rw[e1,e2,Bool.or_false]) (by rw[h1];simpa using h2) ⟨.str ⟨#[c]⟩,H,I.tok _,⟨_,rfl⟩,q⟩) hs
def rIx (K:PySem.W.Frag):R2:=fun x y H Q=>rIxL K x y H Q∨rIxT K x y H Q∨rIxS x y H Q
theorem ix_seq:IxR X (rIx X.K):=ix_list.or (ix_tup.or y2n)
theorem x0o (its:List Value)(n j:Nat)(u:Value):Obj.mapSeq (·.setIfInBounds j u) { cls:=.type "list",data:=.seq its.toArray n } = { cls:=.type "list",data:=.seq (its.set j u).toArray n }:=by
 simp[Obj.mapSeq]
theorem Inv.lst {pins:List (Addr×Obj)}{σ:St}{H:Hp}{s:Shared}{p:Addr}{xs:List V}(I:Inv X pins σ H s)(h:H p=some (.lst xs)) :
  ∃(its:List Value) (n:Nat),Vals xs its∧s.heap.get? p=some { cls:=.type "list",data:=.seq its.toArray n }∧xs.length≤sizeLine:=by
 obtain⟨z,its,n,r,e⟩:=I.hok p _ h
 exact⟨its,n,r,e,z⟩
theorem Inv.lstUpd {pins:List (Addr×Obj)}{σ:St}{H:Hp}{s:Shared}{p:Addr}{xs ys:List V}{its its':List Value}{n n':Nat}{f:Obj→Obj}(I:Inv X pins σ H s)(h:H p=some (.lst xs))
  (ho:s.heap.get? p=some { cls:=.type "list",data:=.seq its.toArray n })(hf:f { cls:=.type "list",data:=.seq its.toArray n } = { cls:=.type "list",data:=.seq its'.toArray n' })(r:Vals ys its')(hz:ys.length≤sizeLine)(t:Nat) :
  Inv X pins σ (upd H p (.lst ys)) { s with heap:=s.heap.update p f,toks:=t }:=by
 have e:(s.heap.update p f).get? p=some { cls:=.type "list",data:=.seq its'.toArray n' }:=by
  rw[Heap.get?_update_self f ho (by rw[hf]<;>rfl),hf]
 refine I.write (x:=p) (e:=p) (by rw[h];trivial) (.inl rfl) (fun b u hb q=>(Heap.get?_update_other _ _ (Ne.symm hb)).trans q) ⟨_,e⟩ ?_
 exact⟨hz,its',n',r,e⟩
def rSetL:V→V→V→Hp→(Hp→Prop)→Prop:=fun o i v H Q=>∃p xs k j,o=.ref p∧i=.int k∧H p=some (.lst xs)∧ixN xs.length k=some j∧Q (upd H p (.lst (xs.set j v)))
theorem set_list:PSet X rSetL:=by
 intro pins s σ H o i v ov iv u Q I ro ri rv h
 obtain⟨p,xs,k,j,rfl,rfl,hp,hj,q⟩:=h
 cases ro
 obtain⟨t,rfl⟩:=ri
 obtain⟨its,n,r,ho,hz⟩:=I.lst hp
 obtain⟨h1,h2,h3,h4⟩:=ixN_seq hj
 have hl:=r.length
 have hn:=y1b
 have I':Inv X pins σ (upd H p (.lst (xs.set j v))) { s with heap:=s.heap.update p (Obj.mapSeq (·.setIfInBounds j u)) } :=
  I.lstUpd hp ho (x0o its n j u) (r.set rv j) (by rw[List.length_set];exact hz) s.toks
 by_cases h0:0≤k
 ·have hk:k.toNat=j:=by
   rw[seqIndex_of h0 h4]at h1
   exact Option.some.inj h1
  exact PySem.W.ki_setAt ho h0 (by omega) (by rw[List.size_toArray,←hl];exact h4) (by rw[hk];exact⟨_,I',q⟩)
 ·have hk:(k+(its.toArray.size:Int)).toNat=j:=by
   rw[seqIndex_neg (by omega) h3]at h1
   rw[List.size_toArray,←hl]
   exact Option.some.inj h1
  exact PySem.W.ki_setBack ho (by omega) (by rw[List.size_toArray,←hl];exact h3) (by omega) (by rw[hk];exact⟨_,I',q⟩)
theorem y5g (lo hi:Option Int)(n:Nat):(sliceBounds lo hi none n).1=((HT.sIx n 0 lo:Nat):Int)∧(sliceBounds lo hi none n).2.1=((HT.sIx n n hi:Nat):Int)∧(sliceBounds lo hi none n).2.2=1:=by
 refine⟨?_,?_,rfl⟩
 ·cases lo with
  |none=>simp[sliceBounds,HT.sIx]
  |some i =>
   simp only[sliceBounds,HT.sIx,Option.getD_none,show(1:Int) > 0 by decide,if_true]
   by_cases h:i<0
   ·simp only[h,if_true]<;>omega
   ·simp only[h,if_false]<;>omega
 ·cases hi with
  |none=>simp[sliceBounds,HT.sIx]
  |some i =>
   simp only[sliceBounds,HT.sIx,Option.getD_none,show(1:Int) > 0 by decide,if_true]
   by_cases h:i<0
   ·simp only[h,if_true]<;>omega
   ·simp only[h,if_false]<;>omega
theorem y3d (its:List Value)(lo hi:Option Int):slicePick its.toArray lo hi none=((its.drop (HT.sIx its.length 0 lo)).take (HT.sIx its.length its.length hi - HT.sIx its.length 0 lo)).toArray:=by
 obtain⟨h1,h2,h3⟩:=y5g lo hi its.toArray.size
 unfold slicePick
 rw[h1,h2,h3]
 simp only[sliceRange_one,pick_run,List.size_toArray]<;>rfl
def rSlL (K:PySem.W.Frag):V→Option Int→Option Int→Hp→VK→Prop:=fun x lo hi H Q=>∃a xs,x=.ref a∧SqL K H a xs∧∀p,H p=none→Q (.ref p) (upd H p (.lst (cutV xs lo hi)))
theorem x2v:SlR X (rSlL X.K):=by
 intro pins s σ H x v vl vu lo hi sl Q I rx hs pl pu h
 obtain⟨a,xs,rfl,hx,q⟩:=h
 cases rx
 obtain⟨its,r,ht,hz⟩:=I.list hx
 have hlen:=r.length
 refine⟨"list",_,slot_list_getitem.lookup,ht.isList.typeIs,?_⟩
 refine wpAny_getItem_list_slice ht.isList hs pl pu .none (by simp) ?_ (by rw[List.size_toArray]<;>omega)
 rw[y3d,←hlen]
 refine⟨.ref s.heap.objs.size,_,I.laid (t':=s.toks) (o:=.lst (cutV xs lo hi)) (fun b ob q=>Heap.get?_push_of_some _ q) (Nat.le_refl _) ?_,rfl,q _ (I.hok.fresh (Nat.le_refl _))⟩
 exact⟨Nat.le_trans (y7q xs lo hi) hz,_,0,(r.drop (HT.sIx xs.length 0 lo)).take (HT.sIx xs.length xs.length hi - HT.sIx xs.length 0 lo),Heap.get?_push_size _ rfl⟩
def z5k:V→Bool
 |.non=>true
 |.bl _=>true
 |.int _=>true
 |.str _=>true
 |_=>false
def eqV:V→V→Bool
 |.non,.non=>true
 |.bl a,.bl b=>a == b
 |.bl a,.int b=>(if a then 1 else 0) == b
 |.int a,.bl b=>a == (if b then 1 else 0)
 |.int a,.int b=>a == b
 |.str a,.str b=>a == b
 |_,_=>false
theorem eqAt_V {A:Around}{s:Shared}{y x:V}{u v:Value}(ry:RelV y u)(rx:RelV x v)(fy:z5k y=true)(fx:z5k x=true):SeqAt.EqAt A s u v (eqV y x):=by
 cases y with
 |non =>
  cases ry
  cases x with
  |non=>cases rx;exact SeqAt.EqAt.same _
  |bl b=>cases rx;exact SeqAt.EqAt.none_bool b
  |int b=>obtain⟨t,rfl⟩:=rx;exact SeqAt.EqAt.none_int b t
  |str b=>obtain⟨t,rfl⟩:=rx;exact SeqAt.EqAt.none_str b t
  |_=>exact absurd (show false=true from fx) Bool.false_ne_true
 |bl a =>
  cases ry
  cases x with
  |non=>cases rx;exact SeqAt.EqAt.bool_none a
  |bl b=>cases rx;exact SeqAt.EqAt.bool_bool a b
  |int b=>obtain⟨t,rfl⟩:=rx;exact SeqAt.EqAt.bool_int a b t
  |str b=>obtain⟨t,rfl⟩:=rx;exact SeqAt.EqAt.bool_str a b t
  |_=>exact absurd (show false=true from fx) Bool.false_ne_true
 |int a =>
  obtain⟨t',rfl⟩:=ry
  cases x with
  |non=>cases rx;exact SeqAt.EqAt.int_none a t'
  |bl b=>cases rx;exact SeqAt.EqAt.int_bool a t' b
  |int b=>obtain⟨t,rfl⟩:=rx;exact SeqAt.EqAt.int_int a t' b t
  |str b=>obtain⟨t,rfl⟩:=rx;exact SeqAt.EqAt.int_str a t' b t
  |_=>exact absurd (show false=true from fx) Bool.false_ne_true
 |str a =>
  obtain⟨t',rfl⟩:=ry
  cases x with
  |non=>cases rx;exact SeqAt.EqAt.str_none a t'
  |bl b=>cases rx;exact SeqAt.EqAt.str_bool a t' b
  |int b=>obtain⟨t,rfl⟩:=rx;exact SeqAt.EqAt.str_int a t' b t
  |str b=>obtain⟨t,rfl⟩:=rx;exact SeqAt.EqAt.str_str a t' b t
  |_=>exact absurd (show false=true from fx) Bool.false_ne_true
 |_=>exact absurd (show false=true from fy) Bool.false_ne_true
def eqU (x:V)(u:Value):Bool:=match u with
 |.none=>eqV .non x
 |.bool b=>eqV (.bl b) x
 |.int i _=>eqV (.int i) x
 |.str z _=>eqV (.str z) x
 |_=>false
theorem eqU_of {x y:V}{u:Value}(r:RelV y u)(f:z5k y=true):eqU x u=eqV y x:=by
 cases y with
 |non=>cases r;rfl
 |bl b=>cases r;rfl
 |int i=>obtain⟨t,rfl⟩:=r;rfl
 |str z=>obtain⟨t,rfl⟩:=r;rfl
 |_=>exact absurd (show false=true from f) Bool.false_ne_true
theorem y0j {x:V}:∀{xs:List V}{us:List Value},Vals xs us→xs.all z5k=true→us.any (eqU x)=xs.any fun y=>eqV y x
 |_,_,.nil,_=>rfl
 |y::xs,u::us,.cons r t,f=>by
  rw[List.all_cons,Bool.and_eq_true]at f
  rw[List.any_cons,List.any_cons,eqU_of r f.1,y0j t f.2]
theorem z7w {A:Around}{s:Shared}{x:V}{v:Value}(rx:RelV x v)(fx:z5k x=true):∀{xs:List V}{us:List Value},Vals xs us→xs.all z5k=true→∀u∈us,SeqAt.EqAt A s u v (eqU x u)
 |_,_,.nil,_=>fun u hu=>by cases hu
 |y::xs,u::us,.cons r t,f=>fun u' hu=>by
  rw[List.all_cons,Bool.and_eq_true]at f
  rcases List.mem_cons.mp hu with rfl|hu
  ·rw[eqU_of r f.1];exact eqAt_V r rx f.1 fx
  ·exact z7w rx fx t f.2 u' hu
def inV (x:V)(xs:List V):Bool:=xs.any fun y=>eqV y x
def rIn (K:PySem.W.Frag)(neg:Bool):R2:=fun x y H Q=>∃p xs,y=.ref p∧(SqL K H p xs∨SqT K H p xs)∧z5k x=true∧xs.all z5k=true∧Q (.bl (if neg then !inV x xs else inV x xs)) H
theorem y5k:OpR X (compareOp .In) (rIn X.K false):=by
 intro pins s σ H x y v u Q I rx ry h
 obtain⟨p,xs,rfl,hq,fx,fs,q⟩:=h
 cases ry
 rcases hq with hq|hq
 ·obtain⟨its,r,pl,hz⟩:=I.list hq
  refine SeqAt.in_listAt (eqU x) pl.isList (fun w hw=>z7w rx fx r fs w (by simpa using hw)) ⟨.bl _,H,I,rfl,?_⟩
  rw[show its.toArray.any (eqU x)=its.any (eqU x) by simp,y0j r fs]
  exact q
 ·obtain⟨its,r,pl,hz⟩:=I.tuple hq
  refine SeqAt.in_tupleAt (eqU x) pl (fun w hw=>z7w rx fx r fs w (by simpa using hw)) ⟨.bl _,H,I,rfl,?_⟩
  rw[show its.toArray.any (eqU x)=its.any (eqU x) by simp,y0j r fs]
  exact q
theorem y4u:OpR X (compareOp .NotIn) (rIn X.K true):=by
 intro pins s σ H x y v u Q I rx ry h
 obtain⟨p,xs,rfl,hq,fx,fs,q⟩:=h
 cases ry
 rcases hq with hq|hq
 ·obtain⟨its,r,pl,hz⟩:=I.list hq
  refine SeqAt.notIn_listAt (eqU x) pl.isList (fun w hw=>z7w rx fx r fs w (by simpa using hw)) ⟨.bl _,H,I,rfl,?_⟩
  rw[show its.toArray.any (eqU x)=its.any (eqU x) by simp,y0j r fs]
  exact q
 ·obtain⟨its,r,pl,hz⟩:=I.tuple hq
  refine SeqAt.notIn_tupleAt (eqU x) pl (fun w hw=>z7w rx fx r fs w (by simpa using hw)) ⟨.bl _,H,I,rfl,?_⟩
  rw[show its.toArray.any (eqU x)=its.any (eqU x) by simp,y0j r fs]
  exact q
theorem z4h:z7d X (.builtin "len") (fun xs H Q=>∃p ys,xs=[.ref p]∧(SqL X.K H p ys∨SqT X.K H p ys)∧Q (.int ys.length) H):=by
 intro pins s σ H xs us Q I r h
 obtain⟨p,ys,rfl,hq,q⟩:=h
 obtain⟨u,rfl,rx⟩:=z8m r
 cases rx
 have hn:=y1b
 rcases hq with hq|hq
 ·obtain⟨its,r',pl,hz⟩:=I.list hq
  have hlen:=r'.length
  exact Calls.call_len_list pl.isList (by simp only[List.size_toArray]<;>omega) ⟨.int ys.length,H,I.tok _,⟨s.toks+1,by rw[List.size_toArray,hlen]⟩,q⟩
 ·obtain⟨its,r',pl,hz⟩:=I.tuple hq
  have hlen:=r'.length
  exact len_tuple pl (by simp only[List.size_toArray]<;>omega) ⟨.int ys.length,H,I.tok _,⟨s.toks+1,by rw[List.size_toArray,hlen]⟩,q⟩
theorem z6m:z7d X (.builtin "len") (fun xs H Q=>∃z,xs=[.str z]∧z.length≤sizeLine∧Q (.int z.length) H):=by
 intro pins s σ H xs us Q I r h
 obtain⟨z,rfl,hz,q⟩:=h
 obtain⟨u,rfl,t,rfl⟩:=z8m r
 have hn:=y1b
 exact len_str (by omega) ⟨.int z.length,H,I.tok _,⟨_,rfl⟩,q⟩
theorem y4r:z7d X (.type "list") (fun xs H Q=>∃p ys,xs=[.ref p]∧(SqL X.K H p ys∨SqT X.K H p ys)∧∀l,H l=none→Q (.ref l) (upd H l (.lst ys))):=by
 intro pins s σ H xs us Q I r h
 obtain⟨p,ys,rfl,hq,q⟩:=h
 obtain⟨u,rfl,rx⟩:=z8m r
 cases rx
 have fin:∀(its:List Value),Vals ys its→ys.length≤sizeLine→∀(h':Heap) (c':Nat),(∀b o',s.heap.get? b=some o'→h'.get? b=some o') →
   h'.get? s.heap.objs.size=some { cls:=.type "list",dict:=none,data:=.seq its.toArray c',slots:=#[] }→EP X pins σ Q (.ref s.heap.objs.size) { s with heap:=h' }:=fun its r' hz h' c' kp e =>
  ⟨.ref s.heap.objs.size,_,I.laid (t':=s.toks) kp (Nat.le_refl _) (show ObjOk X.prog X.w _ h' _ (.lst ys) from⟨hz,its,c',r',e⟩),rfl,q _ (I.hok.fresh (Nat.le_refl _))⟩
 rcases hq with hq|hq
 ·obtain⟨its,r',pl,hz⟩:=I.list hq
  have hlen:=r'.length
  obtain⟨o,ho,hc,n,hd⟩:=pl.isList
  exact call_list_seq p (.inl rfl) ho hc hd (fun h' c' kp e=>fin its r' hz h' c' kp e) (by simp only[List.size_toArray]<;>omega)
 ·obtain⟨its,r',pl,hz⟩:=I.tuple hq
  have hlen:=r'.length
  obtain⟨o,ho,hc,n,hd⟩:=pl
  exact call_list_seq p (.inr rfl) ho hc hd (fun h' c' kp e=>fin its r' hz h' c' kp e) (by simp only[List.size_toArray]<;>omega)
def tyV (K:PySem.W.Frag)(T:String)(x:V)(H:Hp):Prop:=match x with
 |.str _=>T = "str"
 |.int _=>T = "int"
 |.ref p=>(T = "list"∧∃xs,SqL K H p xs)∨(T = "tuple"∧∃o,K.lookup p=some o∧o.cls=.type "tuple"∧o.dict=none) ∨
   (T = "dict"∧((∃kvs,H p=some (.dK kvs)) ∨ ∃kvs,H p=some (.dT kvs)))∨(T = "set"∧∃S n,H p=some (.set S n))
 |_=>False
theorem x3i {pins:List (Addr×Obj)}{σ:St}{H:Hp}{s:Shared}{T:String}{x:V}{v:Value}(I:Inv X pins σ H s)(r:RelV x v)(ty:tyV X.K T x H) :
  s.TypeIs v T∧∀a,v=.ref a→∃ob,s.heap.get? a=some ob∧ob.dict=none:=by
 cases x with
 |str z =>
  obtain⟨t,rfl⟩:=r
  cases(show T = "str" from ty)
  exact⟨typeIs_str s z t,fun _ e=>nomatch e⟩
 |int i =>
  obtain⟨t,rfl⟩:=r
  cases(show T = "int" from ty)
  exact⟨typeIs_int s i t,fun _ e=>nomatch e⟩
 |ref p =>
  cases r
  rcases ty with ⟨rfl,xs,hq⟩|⟨rfl,o,hk,hc,hd⟩|⟨rfl,hk⟩|⟨rfl,S,n,hk⟩
  ·obtain⟨its,_,pl,_⟩:=I.list hq
   refine⟨pl.isList.typeIs,fun a e=>?_⟩
   cases e
   obtain⟨o,n,e,c,hd,_⟩:=pl
   exact⟨o,e,hd⟩
  ·refine⟨⟨o,I.kIn p o hk,hc⟩,fun a e=>?_⟩
   cases e
   exact⟨o,I.kIn _ o hk,hd⟩
  ·have z:∃o,s.heap.get? p=some o∧o.ExactDict:=by
    rcases hk with ⟨kvs,hk⟩|⟨kvs,hk⟩
    ·obtain⟨_,_,_,_,o,_,_,e,ex,_⟩:=I.hok p _ hk
     exact⟨o,e,ex⟩
    ·obtain⟨_,_,_,_,o,_,_,e,ex,_⟩:=I.hok p _ hk
     exact⟨o,e,ex⟩
   obtain⟨o,e,ex⟩:=z
   refine⟨⟨o,e,ex.1⟩,fun a e2=>?_⟩
   cases e2
   exact⟨o,e,ex.2.1⟩
  ·obtain⟨o,_,_,_,e,ex,_⟩:=I.hok p _ hk
   refine⟨⟨o,e,ex.1⟩,fun a e2=>?_⟩
   cases e2
   exact⟨o,e,ex.2.1⟩
 |_=>exact False.elim ty
def tBM (K:PySem.W.Frag)(T:String)(r:V→List V→Hp→VK→Prop)(to:TE)(t:TA):TE:=fun σ H Q=>to σ H fun x H1=>tyV K T x H1∧t σ H1 fun xs H2=>r x xs H2 Q
variable {o e:Expr}{es:List Expr}{to:TE}{t:TA}{name:Str}{apos cpos:Pos}{T id:String}{r:V→List V→Hp→VK→Prop}
theorem pe_bm (pa:PlainAttrs T)(slot:Slot T name id)(hty:typeOf (.builtin id)=pure (.type "method_descriptor"))(hm:MtR X id r)(ho:PE X o to)(ha:PA X (e::es) t)
  (hbase:attributeBase o name X.env (eval o X.env)=eval o X.env:=by rfl)
  (hfew:((backTo cpos (starEach (e::es) X.env)).all (fun x=>!x.1)&&(backToKw cpos (keywordEach [] X.env)).all (fun x=>x.1.isSome)
  &&decide ((e::es).length+([]:List Keyword).length+(if ([]:List Keyword).isEmpty then 0 else 1)<30))=true:=by rfl)
  (hline:(apos.endLine == cpos.line)=true:=by rfl)(hs:starEach (e::es) X.env=(false,eval e X.env)::starEach es X.env:=by rfl)(hplain:(backTo cpos (starEach es X.env)).any (·.1)=false:=by rfl) :
  PE X (.Call (.Attribute o name apos) (e::es) [] cpos) (tBM X.K T r to t):=by
 intro pins s σ H Q I h
 refine wpAny_Call_method_late hbase hfew hline rfl (thn (ho pins s σ H _ I h) fun v s1 ⟨x,H1,I1,r1,ty,q1⟩=>?_)
 obtain⟨h1,h2⟩:=x3i I1 r1 ty
 refine⟨T,id,pa,slot,hty,h1,h2,?_⟩
 have hA:=ha cpos pins s1 σ H1 _ I1 q1
 rw[hs]at hA ⊢
 refine Calls.callWith_builtin (by show(false||(backTo cpos (starEach es X.env)).any (·.1))=false;rw[hplain]<;>rfl) (Calls.evalArgs_plain ?_)
 exact thn hA fun us s2 ⟨vs,H2,I2,r2,q2⟩=>hm pins s2 σ H2 x vs v us Q I2 r1 r2 q2
end
end L2
namespace L2
open PySem PySem.Spec PyProof.Rows
def MtM (X:Cx)(id:String)(r:V→List V→Hp→VK→Prop):Prop :=
 ∀(pins:List (Addr×Obj)) (s:Shared) (σ:St) (H:Hp) (x:V) (xs:List V) (v:Value) (us:List Value) (Q:VK),Inv X pins σ H s→RelV x v→Vals xs us→r x xs H Q →
  wpAny (model X.prog X.w) X.A (call (.builtin id) (v::us)) (EP X pins σ Q) X.xe s
theorem Vals.one:∀{x:V}{us:List Value},Vals [x] us→∃u,us=[u]∧RelV x u
 |_,_,.cons r .nil=>⟨_,rfl,r⟩
theorem Vals.zero:∀{us:List Value},Vals [] us→us=[]
 |_,.nil=>rfl
theorem Vals.dropLast {xs:List V}{us:List Value}(h:Vals xs us):Vals xs.dropLast us.dropLast:=by
 induction h with
 |nil=>exact .nil
 |cons r t ih =>
  cases t with
  |nil=>exact .nil
  |cons q t'=>exact .cons r ih
theorem Vals.reverse {xs:List V}{us:List Value}(h:Vals xs us):Vals xs.reverse us.reverse:=by
 induction h with
 |nil=>exact .nil
 |cons r t ih=>rw[List.reverse_cons,List.reverse_cons];exact Vals.append ih (.cons r .nil)
theorem x0k {α:Type}(l:List α):l.eraseIdx (l.length - 1)=l.dropLast:=by
 induction l with
 |nil=>rfl
 |cons a r ih =>
  cases r with
  |nil=>rfl
  |cons b r =>
   have e:(a::b::r).length - 1=((b::r).length - 1)+1:=by
    have h1:(a::b::r).length=r.length+2:=rfl
    have h2:(b::r).length=r.length+1:=rfl
    omega
   rw[e,List.eraseIdx_cons_succ,ih]
   all_goals rfl
section
variable {X:Cx}{pins:List (Addr×Obj)}{σ:St}{H:Hp}{s:Shared}{l b:Addr}{xs ys zs:List V}
theorem Inv.lset {its its':List Value}{n:Nat}{f:Array Value→Array Value}{t':Nat}(I:Inv X pins σ H s)(hH:H l=some (.lst xs))
  (e:s.heap.get? l=some { cls:=.type "list",data:=.seq its.toArray n })(hf:f its.toArray=its'.toArray)(hv:Vals ys its')(hz:ys.length≤sizeLine) :
  Inv X pins σ (upd H l (.lst ys)) { s with heap:=s.heap.update l (Obj.mapSeq f),toks:=t' }:=by
 have q:=PySem.IsL.update e f
 rw[hf]at q
 refine I.write (x:=l) (e:=l) (by rw[hH];exact trivial) (.inl rfl) (fun b' u hb hu=>(Heap.get?_update_other s.heap (Obj.mapSeq f) (Ne.symm hb)).trans hu) ⟨_,q⟩ ?_
 exact⟨hz,its',_,hv,q⟩
theorem Inv.lnew {its:List Value}{t':Nat}(I:Inv X pins σ H s)(hv:Vals ys its)(hz:ys.length≤sizeLine) :
  Inv X pins σ (upd H s.heap.objs.size (.lst ys)) { s with heap:=s.heap.push { cls:=.type "list",data:=.seq its.toArray },toks:=t' } :=
 I.laid (fun _ _ q=>Heap.get?_push_of_some _ q) (Nat.le_refl _) ⟨hz,its,0,hv,Heap.get?_push_size _ rfl⟩
theorem Inv.fresh (I:Inv X pins σ H s):H s.heap.objs.size=none:=I.hok.fresh (Nat.le_refl _)
theorem Inv.lstM (I:Inv X pins σ H s)(hH:H l=some (.lst xs)):xs.length≤sizeLine∧∃(its:List Value) (n:Nat),Vals xs its∧xs.length=its.length∧s.heap.get? l=some { cls:=.type "list",data:=.seq its.toArray n }:=by
 obtain⟨z,its,n,r,e⟩:=I.hok l _ hH
 exact⟨z,its,n,r,r.length,e⟩
theorem notLongL {n:Nat}(h:n≤sizeLine):Builtin.List.listTooLong n=false:=by
 unfold Builtin.List.listTooLong
 exact decide_eq_false (by omega)
end
section
variable {X:Cx}
def z8p:V→List V→Hp→VK→Prop:=fun x vs H Q=>∃l xs y,x=.ref l∧vs=[y]∧H l=some (.lst xs)∧xs.length<sizeLine∧Q .non (upd H l (.lst (xs++[y])))
theorem z1p:MtM X "list.append" z8p:=by
 intro pins s σ H x vs v us Q I rx rv h
 obtain⟨l,xs,y,rfl,rfl,hH,hz,q⟩:=h
 cases rx
 obtain⟨u,rfl,ru⟩:=rv.one
 obtain⟨z,its,n,r,hl,e⟩:=I.lstM hH
 refine call_meets F.slot_list_append ⟨_,e,rfl⟩ F.entry_list_append (F.args_list_append_2 _ _) (PySem.list_append l its.toArray n u (by rw[List.size_toArray];omega)) ⟨e,?_⟩
 refine⟨.non,_,I.lset (its':=its++[u]) hH e (by simp) (r.append (.cons ru .nil)) ?_,rfl,q⟩
 rw[List.length_append,List.length_singleton]
 omega
def rExtend:V→List V→Hp→VK→Prop:=fun x vs H Q=>∃l b xs zs,x=.ref l∧vs=[.ref b]∧H l=some (.lst xs)∧H b=some (.lst zs)∧xs.length+zs.length≤sizeLine∧Q .non (upd H l (.lst (xs++zs)))
theorem mt_extend:MtM X "list.extend" rExtend:=by
 intro pins s σ H x vs v us Q I rx rv h
 obtain⟨l,b,xs,zs,rfl,rfl,hH,hB,hz,q⟩:=h
 cases rx
 obtain⟨u,rfl,ru⟩:=rv.one
 cases ru
 obtain⟨z,its,n,r,hl,e⟩:=I.lstM hH
 obtain⟨z2,its2,n2,r2,hl2,e2⟩:=I.lstM hB
 have hsz:its.toArray.size+its2.toArray.size≤sizeLine:=by rw[List.size_toArray,List.size_toArray];omega
 have hlong:¬(!its.toArray.isEmpty&&Builtin.List.listTooLong (its.toArray.size+its2.toArray.size))=true:=by
  rw[notLongL hsz,Bool.and_false]
  exact Bool.false_ne_true
 refine call_meets F.slot_list_extend ⟨_,e,rfl⟩ F.entry_list_extend (F.args_list_extend_2 _ _)
  (AutoSeq1.list_extend_list_list_0 l its.toArray n b its2.toArray n2 hlong (by rw[List.size_toArray];omega) (by omega)) ⟨e,e2,?_⟩
 refine⟨.non,_,I.lset (its':=its++its2) hH e (by simp) (r.append r2) ?_,rfl,q⟩
 rw[List.length_append]
 omega
def rPop:V→List V→Hp→VK→Prop:=fun x vs H Q=>∃l xs y,x=.ref l∧vs=[]∧H l=some (.lst xs)∧xs[xs.length - 1]? = some y∧Q y (upd H l (.lst xs.dropLast))
theorem mt_pop:MtM X "list.pop" rPop:=by
 intro pins s σ H x vs v us Q I rx rv h
 obtain⟨l,xs,y,rfl,rfl,hH,hy,q⟩:=h
 cases rx
 have hus:=rv.zero
 subst hus
 obtain⟨z,its,n,r,hl,e⟩:=I.lstM hH
 obtain⟨u,hu,ru⟩:=r.get hy
 have hy':its.toArray[its.toArray.size - 1]? = some u:=by
  show its.toArray[its.length - 1]? = some u
  rw[←Array.getElem?_toList,←hl]
  exact hu
 refine call_meets F.slot_list_pop ⟨_,e,rfl⟩ F.entry_list_pop (F.args_list_pop_1 _) (MeetsSeq.list_pop_last l its.toArray n u hy' (by rw[List.size_toArray];omega)) ⟨e,?_⟩
 refine⟨y,_,I.lset (its':=its.dropLast) hH e ?_ r.dropLast ?_,ru,q⟩
 ·show its.toArray.eraseIdxIfInBounds (its.toArray.size - 1)=its.dropLast.toArray
  rw[List.size_toArray,List.eraseIdxIfInBounds_toArray,x0k]
 ·rw[List.length_dropLast]
  omega
def rCat:R2:=fun x y H Q=>∃l b xs zs,x=.ref l∧y=.ref b∧H l=some (.lst xs)∧H b=some (.lst zs)∧xs.length+zs.length≤sizeLine∧∀p,H p=none→Q (.ref p) (upd H p (.lst (xs++zs)))
theorem z2y:OpR X (binaryOp .Add) rCat:=by
 intro pins s σ H x y v u Q I rx ry h
 obtain⟨l,b,xs,zs,rfl,rfl,hH,hB,hz,q⟩:=h
 cases rx
 cases ry
 obtain⟨z,its,n,r,hl,e⟩:=I.lstM hH
 obtain⟨z2,its2,n2,r2,hl2,e2⟩:=I.lstM hB
 refine PySem.P.add_list e e2 ?_ (by rw[List.size_toArray,List.size_toArray];omega)
 have ea:its.toArray++its2.toArray=(its++its2).toArray:=by simp
 rw[ea]
 exact⟨.ref _,_,I.lnew (t':=s.toks) (r.append r2) (by rw[List.length_append];omega),rfl,q _ I.fresh⟩
end
section
variable {prog:Program}{w:World}{A:Around}{E:Value→Shared→Prop}{s:Shared}
set_option maxRecDepth 100000 in
end
section
variable {X:Cx}
end
end L2
namespace L2
open PySem PySem.Spec PyProof.Rows
section
variable {κ:Type}[DecidableEq κ]
def valV (kvs:List (κ×V))(k:κ):Option V:=(kvs.find? fun kv=>decide (kv.1=k)).map (·.2)
def putK (kvs:List (κ×V))(k:κ)(v:V):List (κ×V) :=
 if (kvs.any fun kv=>decide (kv.1=k))=true then kvs.map (fun kv=>if kv.1=k then(kv.1,v) else kv) else kvs++[(k,v)]
theorem y3c {p:κ×V}{r:List (κ×V)}{k:κ}(e:p.1=k):valV (p::r) k=some p.2:=by simp[valV,List.find?_cons,e]
theorem y4g {p:κ×V}{r:List (κ×V)}{k:κ}(e:¬p.1=k):valV (p::r) k=valV r k:=by simp[valV,List.find?_cons,e]
theorem y8s (k:κ):∀kvs:List (κ×V),(kvs.any fun kv=>decide (kv.1=k))=(valV kvs k).isSome
 | []=>rfl
 |p::r=>by
  rw[List.any_cons]
  by_cases e:p.1=k
  ·simp only[y3c e,decide_eq_true e,Bool.true_or,Option.isSome_some]
  ·rw[y4g e,decide_eq_false e,Bool.false_or];exact y8s k r
theorem z7h (kvs:List (κ×V))(k:κ)(v:V):(putK kvs k v).length≤kvs.length+1:=by
 unfold putK
 split
 ·rw[List.length_map];omega
 ·rw[List.length_append,List.length_cons,List.length_nil];omega
theorem RelO.isSome_eq {o:Option V}{u:Option Value}(r:RelO o u):o.isSome=u.isSome:=by
 cases o with
 |none=>cases u with
  |none=>rfl
  |some _=>exact(show False from r).elim
 |some _=>cases u with
  |none=>exact(show False from r).elim
  |some _=>rfl
theorem KV.val {kvs:List (κ×V)}{vs:List (κ×Value)}(r:KV kvs vs)(k:κ):RelO (valV kvs k) (valueAt vs k):=by
 unfold KV at r
 induction r with
 |nil=>exact True.intro
 | @cons p q ps qs h t ih =>
  obtain⟨h1,h2⟩:=h
  by_cases e:p.1=k
  ·have e':q.1=k:=h1.symm.trans e
   have b:valueAt (q::qs) k=some q.2:=by simp[valueAt,List.find?_cons,e']
   rw[y3c e,b];exact h2
  ·have e':¬q.1=k:=fun z=>e (h1.trans z)
   have b:valueAt (q::qs) k=valueAt qs k:=by simp[valueAt,List.find?_cons,e']
   rw[y4g e,b];exact ih
theorem KV.any {kvs:List (κ×V)}{vs:List (κ×Value)}(r:KV kvs vs)(k:κ):(kvs.any fun kv=>decide (kv.1=k))=vs.any fun kv=>decide (kv.1=k):=by
 unfold KV at r
 induction r with
 |nil=>rfl
 |cons h t ih=>rw[List.any_cons,List.any_cons,ih,h.1]
theorem KV.repl {kvs:List (κ×V)}{vs:List (κ×Value)}(r:KV kvs vs)(k:κ){y:V}{u:Value}(ry:RelV y u) :
  KV (kvs.map fun kv=>if kv.1=k then(kv.1,y) else kv) (vs.map fun kv=>if kv.1=k then(kv.1,u) else kv):=by
 unfold KV at r ⊢
 induction r with
 |nil=>exact .nil
 | @cons p q ps qs h t ih =>
  rw[List.map_cons,List.map_cons]
  refine .cons ?_ ih
  obtain⟨h1,h2⟩:=h
  by_cases e:p.1=k
  ·rw[if_pos e,if_pos (h1.symm.trans e)];exact⟨h1,ry⟩
  ·rw[if_neg e,if_neg (fun z=>e (h1.trans z))];exact⟨h1,h2⟩
theorem KV.put {kvs:List (κ×V)}{vs:List (κ×Value)}(r:KV kvs vs)(k:κ){y:V}{u:Value}(ry:RelV y u):KV (putK kvs k y) (stored vs k u):=by
 unfold putK stored
 rw[r.any k]
 by_cases e:(vs.any fun kv=>decide (kv.1=k))=true
 ·rw[if_pos e,if_pos e];exact r.repl k ry
 ·rw[if_neg e,if_neg e];exact Paired.snoc r ⟨rfl,ry⟩
theorem KV.length {kvs:List (κ×V)}{vs:List (κ×Value)}(r:KV kvs vs):kvs.length=vs.length:=Paired.length r
end
theorem x1x {P:Program}{w:World}{k:Key}{u:Value}(r:RelV (kV k) u):(z2o P w).is k u=true:=by
 cases k with
 |inl i=>obtain⟨t,e⟩:=(show ∃t,u=Value.int i t from r);subst e;exact y6v P w i t
 |inr x=>obtain⟨t,e⟩:=(show ∃t,u=Value.str x t from r);subst e;exact y7f P w x t
theorem y4m {P:Program}{w:World}:∀{ks:List Key}{us:List Value},Vals (ks.map kV) us→ItemsAre (z2o P w) ks us
 | [],_,r=>by rw[List.map_nil]at r;cases r;exact .nil
 |k::ks,_,r=>by
  rw[List.map_cons]at r
  cases r with
  |cons h t=>exact .cons (x1x h) (y4m t)
abbrev KT (H:Hp):List (List Key×V)→List (List Key×Addr×Value)→Prop:=Paired fun p q=>p.1=q.1∧H q.2.1=some (.tup (p.1.map kV))∧RelV p.2 q.2.2
theorem KT.val {H:Hp}{kvs:List (List Key×V)}{xs:List (List Key×Addr×Value)}(r:KT H kvs xs)(k:List Key):RelO (valV kvs k) ((atKey xs k).map (·.2)):=by
 induction r with
 |nil=>exact True.intro
 | @cons p q ps qs h t ih =>
  obtain⟨h1,_,h2⟩:=h
  by_cases e:p.1=k
  ·have e':q.1=k:=h1.symm.trans e
   have b:atKey (q::qs) k=some q.2:=by simp[atKey,List.find?_cons,e']
   rw[y3c e,b];exact h2
  ·have e':¬q.1=k:=fun z=>e (h1.trans z)
   have b:atKey (q::qs) k=atKey qs k:=by simp[atKey,List.find?_cons,e']
   rw[y4g e,b];exact ih
theorem KT.repl {H:Hp}{kvs:List (List Key×V)}{xs:List (List Key×Addr×Value)}(r:KT H kvs xs)(k:List Key){y:V}{u:Value}(ry:RelV y u) :
  KT H (kvs.map fun kv=>if kv.1=k then(kv.1,y) else kv) (xs.map (putAt k u)):=by
 induction r with
 |nil=>exact .nil
 | @cons p q ps qs h t ih =>
  rw[List.map_cons,List.map_cons]
  refine .cons ?_ ih
  obtain⟨h1,h2,h3⟩:=h
  unfold putAt
  by_cases e:p.1=k
  ·rw[if_pos e,if_pos (h1.symm.trans e)];exact⟨h1,h2,ry⟩
  ·rw[if_neg e,if_neg (fun z=>e (h1.trans z))];exact⟨h1,h2,h3⟩
theorem KT.put {H:Hp}{kvs:List (List Key×V)}{xs:List (List Key×Addr×Value)}(r:KT H kvs xs)(k:List Key){b:Addr}{y:V}{u:Value}(hb:H b=some (.tup (k.map kV)))(ry:RelV y u) :
  KT H (putK kvs k y) (storedH xs k b u):=by
 have e:(kvs.any fun kv=>decide (kv.1=k))=(atKey xs k).isSome:=by
  rw[y8s,(r.val k).isSome_eq,Option.isSome_map]
 unfold putK storedH
 rw[e]
 by_cases q:(atKey xs k).isSome=true
 ·rw[if_pos q,if_pos q];exact r.repl k ry
 ·rw[if_neg q,if_neg q];exact Paired.snoc r ⟨rfl,hb,ry⟩
theorem KT.keeps {H H':Hp}{kvs:List (List Key×V)}{xs:List (List Key×Addr×Value)}(r:KT H kvs xs)(ht:∀b ys,H b=some (.tup ys)→H' b=some (.tup ys)):KT H' kvs xs :=
 Paired.mapP r fun _ _ z=>⟨z.1,ht _ _ z.2.1,z.2.2⟩
section
variable {P:Program}{w:World}{H:Hp}{h:Heap}{a:Addr}
theorem rd_of {u:HO}(ok:HOk P w H h)(e:Rd H a u):ObjOk P w H h a u:=e.ok ok
theorem dk_rd {kvs:List (Key×V)}(ok:HOk P w H h)(e:Rd H a (.dK kvs)):kvs.length≤sizeLine∧(a == sysModules)=false∧∃vs,KV kvs vs∧h.DictOf (z2o P w) a vs :=
 show ObjOk P w H h a (.dK kvs) from rd_of ok e
theorem dk_of {kvs:List (Key×V)}(ok:HOk P w H h)(e:H a=some (.dK kvs)):kvs.length≤sizeLine∧(a == sysModules)=false∧∃vs,KV kvs vs∧h.DictOf (z2o P w) a vs:=dk_rd ok (.inl e)
theorem y8n {ks:List Key}(ok:HOk P w H h)(e:H a=some (.tup (ks.map kV))):(tupleKind (z2o P w)).is h ks a:=by
 obtain⟨_,its,r,o,h1,h2,n,h3⟩:=(show ObjOk P w H h a (.tup (ks.map kV)) from ok a _ e)
 exact⟨o,its.toArray,n,h1,h2,h3,by simpa using y4m r⟩
theorem dt_rd {kvs:List (List Key×V)}(ok:HOk P w H h)(e:Rd H a (.dT kvs)):kvs.length≤sizeLine∧(a == sysModules)=false ∧
  ∃xs,KT H kvs xs∧h.DictOfH (tupleKind (z2o P w)) a xs:=by
 obtain⟨z,y,xs,r,o,es,ep,h1,h2,h3,h4,h5⟩:=(show ObjOk P w H h a (.dT kvs) from rd_of ok e)
 refine⟨z,y,xs,r,o,es,ep,h1,h2,h3,h4,fun x hx=>?_,h5⟩
 have all:∀{l:List (List Key×V)}{m:List (List Key×Addr×Value)},KT H l m→∀x∈m,(tupleKind (z2o P w)).is h x.1 x.2.1:=by
  intro l m q
  induction q with
  |nil=>intro x hx;exact nomatch hx
  | @cons p q ps qs hq t ih =>
   intro x hx
   rcases List.mem_cons.mp hx with e|hx
   ·subst e
    exact y8n ok (by rw[←hq.1];exact hq.2.1)
   ·exact ih x hx
 exact all r x hx
theorem dt_of {kvs:List (List Key×V)}(ok:HOk P w H h)(e:H a=some (.dT kvs)):kvs.length≤sizeLine∧(a == sysModules)=false ∧
  ∃xs,KT H kvs xs∧h.DictOfH (tupleKind (z2o P w)) a xs:=dt_rd ok (.inl e)
end
def DGet (H:Hp)(a:Addr)(y:V)(r:Option V):Prop :=
 (∃kvs k,Rd H a (.dK kvs)∧y=kV k∧r=valV kvs k) ∨ ∃kvs k b,Rd H a (.dT kvs)∧y=.ref b∧H b=some (.tup (k.map kV))∧r=valV kvs k
def DPut (H:Hp)(a:Addr)(y v:V)(H':Hp):Prop :=
 (∃kvs k,H a=some (.dK kvs)∧y=kV k∧kvs.length<sizeLine∧H' = upd H a (.dK (putK kvs k v))) ∨
 ∃kvs k b,H a=some (.dT kvs)∧y=.ref b∧H b=some (.tup (k.map kV))∧kvs.length<sizeLine∧H' = upd H a (.dT (putK kvs k v))
theorem DGet.k {H:Hp}{a:Addr}{kvs:List (Key×V)}{k:Key}(e:H a=some (.dK kvs)):DGet H a (kV k) (valV kvs k):=.inl ⟨kvs,k,.inl e,rfl,rfl⟩
theorem DPut.k {H:Hp}{a:Addr}{kvs:List (Key×V)}{k:Key}{v:V}(e:H a=some (.dK kvs))(hl:kvs.length<sizeLine):DPut H a (kV k) v (upd H a (.dK (putK kvs k v))):=.inl ⟨kvs,k,e,rfl,hl,rfl⟩
section
variable {X:Cx}{pins:List (Addr×Obj)}{σ:St}{H:Hp}{s:Shared}{a:Addr}{y v:V}{u r:Value}{o:Option V}{A:Around}{E:Value→Shared→Prop}
theorem Inv.big (I:Inv X pins σ H s):sysModules<s.heap.objs.size:=by
 have h:mainGlobals<s.heap.objs.size:=(I.mod.glob.keeps I.bk).lt
 exact Nat.lt_trans (by decide) h
theorem d_in {Q:Value→Shared→Prop}(hu:A.units+1<cLine)(I:Inv X pins σ H s)(g:DGet H a y o)(ry:RelV y u)(h:∀s',Inv X pins σ H s'→Q (.bool o.isSome) s') :
  wpAny (model X.prog X.w) A (compareOp .In u (.ref a)) Q E s:=by
 rcases g with ⟨kvs,k,e,ey,l⟩|⟨kvs,k,b,e,ey,eb,l⟩
 ·subst ey
  obtain⟨z,hd,vs,rel,dd⟩:=dk_rd I.hok e
  refine wpAny_in_of (x1x ry) hd dd.mapOf ?_
  rw[←(rel.val k).isSome_eq,←l]
  exact h _ (I.tok _)
 ·subst ey
  cases(show u=Value.ref b from ry)
  obtain⟨z,hd,xs,rel,dd⟩:=dt_rd I.hok e
  refine wpAny_in_heap (tupleKind_room_in1 hu) (y8n I.hok eb) hd dd ?_
  have q:=(rel.val k).isSome_eq
  rw[Option.isSome_map]at q
  rw[←q,←l]
  exact h _ (I.tok _)
theorem d_notIn {Q:Value→Shared→Prop}(hu:A.units+1<cLine)(I:Inv X pins σ H s)(g:DGet H a y o)(ry:RelV y u)(h:∀s',Inv X pins σ H s'→Q (.bool (!o.isSome)) s') :
  wpAny (model X.prog X.w) A (compareOp .NotIn u (.ref a)) Q E s:=by
 rcases g with ⟨kvs,k,e,ey,l⟩|⟨kvs,k,b,e,ey,eb,l⟩
 ·subst ey
  obtain⟨z,hd,vs,rel,dd⟩:=dk_rd I.hok e
  refine wpAny_notIn_of (x1x ry) hd dd.mapOf ?_
  rw[←(rel.val k).isSome_eq,←l]
  exact h _ (I.tok _)
 ·subst ey
  cases(show u=Value.ref b from ry)
  obtain⟨z,hd,xs,rel,dd⟩:=dt_rd I.hok e
  refine wpAny_notIn_heap (tupleKind_room_in1 hu) (y8n I.hok eb) hd dd ?_
  have q:=(rel.val k).isSome_eq
  rw[Option.isSome_map]at q
  rw[←q,←l]
  exact h _ (I.tok _)
theorem d_write {h':Heap}{t':Nat}{ob:HO}(I:Inv X pins σ H s)(mu:Mut (H a))(hs:Heap.SameBut a s.heap h')(he:∃q,h'.get? a=some q)(new:ObjOk X.prog X.w (upd H a ob) h' a ob) :
  Inv X pins σ (upd H a ob) { s with heap:=h',toks:=t' } :=
 I.write (x:=a) (e:=a) mu (.inl rfl) (fun b q hb z=>(hs.2 b hb).trans z) he new
theorem dk_new {P:Program}{w:World}{H':Hp}{h':Heap}{kvs:List (Key×V)}{vs:List (Key×Value)}(z:kvs.length≤sizeLine)(hd:(a == sysModules)=false)(rel:KV kvs vs)(dd:h'.DictOf (z2o P w) a vs) :
  ObjOk P w H' h' a (.dK kvs):=⟨z,hd,vs,rel,dd⟩
theorem d_setItem {H':Hp}{Q:Unit→Shared→Prop}(hu:A.units+1<cLine)(I:Inv X pins σ H s)(g:DPut H a y v H')(ry:RelV y u)(rv:RelV v r)(h:∀s',Inv X pins σ H' s'→Q () s') :
  wpAny (model X.prog X.w) A (setItem (.ref a) u r) Q E s:=by
 rcases g with ⟨kvs,k,e,ey,l,eH⟩|⟨kvs,k,b,e,ey,eb,l,eH⟩
 ·subst ey eH
  obtain⟨z,hd,vs,rel,dd⟩:=dk_of I.hok e
  have hz:vs.length≤sizeLine:=by rw[←rel.length];exact z
  have hl:(putK kvs k v).length≤sizeLine:=by have:=z7h kvs k v;omega
  refine wpAny_setItem_pairs (hsz:=hz) (x1x ry) dd fun h' dd' hs=>h _ ?_
  have he:∃q,h'.get? a=some q:=let ⟨q,_,_,hq,_⟩:=dd';⟨q,hq⟩
  exact d_write I (by rw[e];exact True.intro) hs he (dk_new hl hd (rel.put k rv) dd')
 ·subst ey eH
  cases(show u=Value.ref b from ry)
  obtain⟨z,hd,xs,rel,dd⟩:=dt_of I.hok e
  have hz:xs.length≤sizeLine:=by rw[←Paired.length rel];exact z
  have hl:(putK kvs k v).length≤sizeLine:=by have:=z7h kvs k v;omega
  refine wpAny_setItem_heap (hsz:=hz) (tupleKind_room_in1 hu) (y8n I.hok eb) dd fun h' dd' hs=>h _ ?_
  obtain⟨q,es,ep,hq,h2,h3,h4,_,h5⟩:=dd'
  refine d_write I (by rw[e];exact True.intro) hs ⟨q,hq⟩ ⟨hl,hd,_,(rel.put k eb rv).keeps fun c ys ec=>?_,q,es,ep,hq,h2,h3,h4,h5⟩
  rw[z0i (ne_of ec e (fun z=>nomatch z))]
  exact ec
end
section
variable {X:Cx}{pins:List (Addr×Obj)}{σ:St}{H:Hp}{s:Shared}{a:Addr}{kvs:List (Key×V)}{k:Key}{u:Value}{A:Around}{E:Value→Shared→Prop}
end
def NoSl (i:Expr):Prop:=∀ov iv,subscripted i false ov iv=operate [ov,iv] (getItem ov iv)
theorem subD_of {prog:Program}{w:World}{A:Around}{E:Value→Shared→Prop}{s:Shared}{env:Env}{value slice:Expr}{pos:Pos}{T id:String}{Q:Value→Shared→Prop}
  (hl:typeLookup (.type T) "__getitem__" = pure (some (.builtin id)))(hs:NoSl slice)
  (h:wpAny (model prog w) A (eval value env) (fun o s₁=>wpAny (model prog w) A (eval slice env) (fun i s₂=>s₂.TypeIs o T∧wpAny (model prog w) A (getItem o i) Q E s₂) E s₁) E s) :
  wpAny (model prog w) A (eval (.Subscript value slice pos) env) Q E s:=by
 refine Subscript_ (wpAny_mono h (fun o s₁ h₁=>wpAny_mono h₁ (fun i s₂ h₂=>?_) fun _ _ x=>x) fun _ _ x=>x)
 obtain⟨hT,h₂⟩:=h₂
 unfold subscriptTail
 refine wpAny_bind ?_
 rw[getitemInPython_of_ne hT.not_modules]
 refine wpAny_bind (wpAny_specialOf hT hl ?_)
 have fin:wpAny (model prog w) A (subscripted slice false o i) (fun r s₃=>wpAny (model prog w) A (letTemporaryGo value o r >>= fun _=>pure r) Q E s₃) E s₂:=by
  rw[hs o i]
  exact wpAny_operating (wpAny_mono h₂ (fun r s₃ h₃=>wpAny_bind (wpAny_letTemporaryGo (wpAny_pure h₃))) fun _ _ x=>x)
 first
  |exact wpAny_pure (wpAny_bind fin)
  |exact wpAny_bind (wpAny_pure (wpAny_bind fin))
  |exact wpAny_bind fin
def tDIn (ty td:TE):TE:=fun σ H Q=>ty σ H fun y H1=>td σ H1 fun x H2=>∃a o,x=.ref a∧DGet H2 a y o∧Q (.bl o.isSome) H2
def z8q (ty td:TE):TE:=fun σ H Q=>ty σ H fun y H1=>td σ H1 fun x H2=>∃a o,x=.ref a∧DGet H2 a y o∧Q (.bl (!o.isSome)) H2
def sDPut (td ty tv:TE):TS:=fun D σ H=>tv σ H fun v H1=>td σ H1 fun x H2=>ty σ H2 fun y H3=>∃a H4,x=.ref a∧DPut H3 a y v H4∧D.nx σ H4
section
variable {X:Cx}{o i e value:Expr}{pos pos' tpos:Pos}{td ty tv:TE}
theorem pc_din (hu:X.A.units+1<cLine)(hi:PE X i ty)(ho:PE X o td):PC X .In i o (tDIn ty td):=by
 intro pins s σ H Q I h
 refine thn (hi pins s σ H _ I h) fun iv s1 ⟨y,H1,I1,ry,q1⟩=>thn (ho pins s1 σ H1 _ I1 q1) fun u s2 ⟨x,H2,I2,rx,a,ov,ex,g,q2⟩=>?_
 subst ex
 obtain rfl:u=Value.ref a:=rx
 exact d_in hu I2 g ry fun s3 I3=>⟨.bl ov.isSome,H2,I3,rfl,q2⟩
theorem y0g (hu:X.A.units+1<cLine)(hi:PE X i ty)(ho:PE X o td):PC X .NotIn i o (z8q ty td):=by
 intro pins s σ H Q I h
 refine thn (hi pins s σ H _ I h) fun iv s1 ⟨y,H1,I1,ry,q1⟩=>thn (ho pins s1 σ H1 _ I1 q1) fun u s2 ⟨x,H2,I2,rx,a,ov,ex,g,q2⟩=>?_
 subst ex
 obtain rfl:u=Value.ref a:=rx
 exact d_notIn hu I2 g ry fun s3 I3=>⟨.bl (!ov.isSome),H2,I3,rfl,q2⟩
theorem x2k (hu:X.A.units+1<cLine)(ho:PE X o td)(hi:PE X i ty)(hv:PE X value tv)(hs:swapsWith value (some (.Subscript o i pos')) pos.line X.env=pure false) :
  PS X (.Assign [.Subscript o i pos'] value pos) (sDPut td ty tv):=by
 intro pins s σ H D I h
 refine wpAny_Assign_Subscript (thn (hv pins s σ H _ I h) fun r s1 ⟨v,H1,I1,rv,q1⟩=>thn (ho pins s1 σ H1 _ I1 q1) fun u s2 ⟨x,H2,I2,rx,q2⟩=>thn (hi pins s2 σ H2 _ I2 q2) fun iv s3 ⟨y,H3,I3,ry,a,H4,ex,g,q3⟩=>?_) hs
 subst ex
 obtain rfl:u=Value.ref a:=rx
 exact d_setItem hu I3 g ry rv fun s4 I4=>⟨σ,H4,I4,q3⟩
end
theorem dk_empty {P:Program}{w:World}{H:Hp}(h:Heap)(hb:sysModules<h.objs.size):ObjOk P w H (h.push { cls:=.type "dict",data:=.dict #[] }) h.objs.size (.dK []) :=
 ⟨Nat.zero_le _,beq_eq_false_iff_ne.mpr (Ne.symm (Nat.ne_of_lt hb)),[],.nil,Heap.DictOf.new h⟩
def x3e:TE:=fun _ H Q=>∀p,H p=none→Q (.ref p) (upd H p (.dK []))
section
variable {X:Cx}{pos:Pos}
theorem y9b:PE X (.Dict [] [] pos) x3e:=fun pins s σ H Q I h =>
 wpAny_Dict_empty ⟨.ref s.heap.objs.size,_,I.laid (a:=s.heap.objs.size) (o:=.dK []) (t':=s.toks) (fun _ _ q=>Heap.get?_push_of_some _ q) (Nat.le_refl _) (dk_empty s.heap I.big),rfl,h _ (I.hok.fresh (Nat.le_refl _))⟩
end
def z6 (kvs more:List (Key×V)):List (Key×V):=more.foldl (fun acc kv=>putK acc kv.1 kv.2) kvs
theorem KV.merge:∀{more:List (Key×V)}{rs:List (Key×Value)}{kvs:List (Key×V)}{vs:List (Key×Value)},KV more rs→KV kvs vs→KV (z6 kvs more) (merged vs rs):=by
 intro more rs kvs vs r
 unfold KV at r
 induction r generalizing kvs vs with
 |nil=>intro q;exact q
 | @cons p q ps qs h t ih =>
  intro r0
  have e:KV (putK kvs p.1 p.2) (stored vs q.1 q.2):=by
   have:=r0.put p.1 h.2
   rw[←h.1];exact this
  exact ih e
structure M1 (X:Cx)(o:Expr)(m:Str)(apos:Pos)(e:Expr)(cpos:Pos):Prop where
 base:attributeBase o m X.env (eval o X.env)=eval o X.env
 few:((backTo cpos (starEach [e] X.env)).all (fun x=>!x.1)&&(backToKw cpos (keywordEach [] X.env)).all (fun x=>x.1.isSome)
 &&decide (([e]:List Expr).length+([]:List Keyword).length+(if ([]:List Keyword).isEmpty then 0 else 1)<30))=true
 line:(apos.endLine == cpos.line)=true
 trees:backTo cpos (starEach [e] X.env)=[(false,eval e X.env)]
structure M2 (X:Cx)(o:Expr)(m:Str)(apos:Pos)(e f:Expr)(cpos:Pos):Prop where
 base:attributeBase o m X.env (eval o X.env)=eval o X.env
 few:((backTo cpos (starEach [e,f] X.env)).all (fun x=>!x.1)&&(backToKw cpos (keywordEach [] X.env)).all (fun x=>x.1.isSome)
 &&decide (([e,f]:List Expr).length+([]:List Keyword).length+(if ([]:List Keyword).isEmpty then 0 else 1)<30))=true
 line:(apos.endLine == cpos.line)=true
 trees:backTo cpos (starEach [e,f] X.env)=[(false,eval e X.env),(false,eval f X.env)]
section
variable {X:Cx}{pins:List (Addr×Obj)}{σ:St}{H:Hp}{s:Shared}{a:Addr}{y d:V}{u r:Value}{o:Option V}{A:Around}{E:Value→Shared→Prop}
end
section
variable {X:Cx}{o e f:Expr}{apos cpos:Pos}{td ty tx:TE}
end
section
variable {X:Cx}{pins:List (Addr×Obj)}{σ:St}{H:Hp}{s:Shared}{a:Addr}{kvs:List (Key×V)}{A:Around}{E:Value→Shared→Prop}
end
section
variable {X:Cx}{pins:List (Addr×Obj)}{σ:St}{H:Hp}{s:Shared}{a:Addr}{y:V}{u:Value}{A:Around}{E:Value→Shared→Prop}
end
end L2
namespace Att
open PySem PySem.W PySem.Calls PyProof.Rows
theorem z9r {P:Params}{h:Heap}:∀(ns:List Int) (vs:List Value),WellAll P h vs (ns.map WData.int)→IntsAre vs ns:=by
 intro ns
 induction ns with
 |nil =>
  intro vs w
  rw[List.map_nil]at w
  cases w
  exact .nil
 |cons n ns ih =>
  intro vs w
  rw[List.map_cons]at w
  cases w with
  |cons a b =>
   cases a
   exact .cons _ _ (ih _ b)
theorem x1r {l:OpenLaw}{n:Nat}(hn:l.most=some n){P:Params}{h:Heap}{args:List WData}{vals:List Value}
  (hpre:l.row.toRowW.claim.pre args=true)(hwl:WellAll P h vals args) :
  ∃a vs ns,vals=[Value.ref a]∧args=[WData.list (ns.map WData.int)]∧h.get? a=some { cls:=.type "list",data:=.seq vs.toArray }∧IntsAre vs ns∧ns.length≤n:=by
 have hsh:WShape.hasAll [] args [.list .int]=true:=(pre_splitW hpre).1
 have hc:l.pre.holds [] { args:=args }=true:=(pre_splitW hpre).2
 obtain⟨d,r,rfl,h1,h2⟩:=hasAllW_cons hsh
 obtain rfl:=hasAllW_nil h2
 obtain⟨xs,rfl,h3⟩:=hasW_list h1
 obtain⟨ns,rfl⟩:=items_int h3
 have hlen:ns.length≤n:=by
  unfold OpenLaw.pre at hc
  have h4:(WTm.not (.lt (.lit (.int (n:Int))) (.len (.arg 0)))).holds [] { args:=[.list (ns.map .int)] }=true:=by
   have h4:=(holds_andW hc).1
   rw[hn]at h4
   exact h4
  have h5:=condW_of h4 (w_not (w_lt w_lit (w_len_list (w_arg rfl))))
  rw[List.length_map]at h5
  refine Nat.le_of_not_lt fun q=>?_
  have q':(n:Int)<((ns.length:Nat):Int):=by omega
  first
   |(rw[decide_eq_true q']at h5;exact absurd h5 (by decide))
   |(simp at h5;omega)
 cases hwl with
 |cons w1 w2 =>
  cases w2
  cases w1 with
  |list ho hall=>exact⟨_,_,ns,rfl,rfl,ho,z9r ns _ hall,hlen⟩
theorem x3v (l:OpenLaw)(args:List WData):l.row.toRowW.claim.post args (.bool true) args=true :=
 postW_of (r:=l.row.toRowW) (X:=(true == true))
  (show WShape.has [] (.bool true) .bool=true by first|rfl|decide|simp[WShape.has,WShape.arms,WShape.armsAll])
  (show(WTm.eq .res (.lit (.bool true))).value [] { args:=args,res:=some (.bool true),after:=args }=some (.bool (true == true)) from w_eq_bool (w_res rfl) w_lit) rfl
theorem attach_call {l:OpenLaw}{n:Nat}{q:Program}{loose:List Str}{XP:(Str→Option Value)→Heap→Prop}{YP:World→Heap→Prop}{d:DefRec}
  (hn:l.most=some n)(hdf:d.params.defaults=[])
  (call:∀(w:World) (s₀ s₁:Shared) (mg mb:Str→Option Value) (fa:Addr) (o:Obj) (pm cd doc:Value) (a:Addr) (vs:List Value) (ns:List Int),
   Ground q loose [] XP w s₀ mg mb s₁.heap→YP w s₁.heap →
   s₁.heap.get? fa=some o→o.data=.func (docDef d.name d.params d.body d.scope pm cd doc)→s₁.heap.CodeRec cd d.name→mg d.name=some (.ref fa) →
   s₁.heap.get? a=some { cls:=.type "list",data:=.seq vs.toArray }→IntsAre vs ns→ns.length≤n→s₁.gens = #[] →
   codeAny (model l.prog w) callerA (.call (.ref fa) ⟨[.ref a],[]⟩) (fun r s'=>r=.ok (.ret (.bool true))∧OldK s₁.heap s'.heap∧s'.os=s₁.os∧AllBare s'.gens) s₁) :
  WalkO q loose XP YP l.row.toRowW d [] (fun f vs=>PySem.call f vs):=by
 intro w s₀ s₁ mg mb G Y fa o pm cd doc dV kV ho hd hcd hD hmg hg args vals as hpre hlay hrd hwl hlo
 obtain rfl:dV=.none:=Dflts.none hD hdf
 obtain rfl:kV=.none:=Dflts.noKw hD
 obtain⟨a,vs,ns,rfl,rfl,hobj,hints,hlen⟩:=x1r hn hpre hwl
 refine enter_call (codeAny_mono (call w s₀ s₁ mg mb fa o pm cd doc a vs ns G Y ho (fd_plain hd) hcd hmg hobj hints hlen hg) fun r s' hq=>?_)
 obtain⟨rfl,h2,h3,h4⟩:=hq
 exact⟨.inl ⟨.bool true,.bool true,[],rfl,fun _=>rfl,.bool true,x3v l _,fun _=>⟨List.Pairwise.nil,fun _ hm=>(nomatch hm)⟩⟩,h2,h3,h4⟩
section
variable {prog:Program}{w:World}{A:Around}{E:Value→Shared→Prop}{s:Shared}{K:Frag}
end
end Att
namespace L2
open PySem PySem.Spec PyProof.Rows
theorem y5u:∀{vs:List Value}{ns:List Int},IntsAre vs ns→Vals (ns.map V.int) vs
 |_,_,.nil=>.nil
 |_,_,.cons n t h=>.cons ⟨t,rfl⟩ (y5u h)
def Only (H:Hp):Prop:=∀b,H b=none∨(∃o xs,H b=some (.frz o (.lst xs)))∨(H b=some .lam∧lamP=some b)
theorem law_call {P:Program}{w:World}{K:PySem.W.Frag}{mg mb:Str→Option Value}{CX:CXT}{k:Nat}{fa a:Addr}{fd:FuncData}{x:Str}{sp:Sp}{s₁:Shared}{vs:List Value}{ns:List Int}
  (KX:K.In s₁.heap)(hns:s₁.heap.Ns mainGlobals mg)(hb:s₁.heap.Ns builtinsNs mb)(hbb:∀x:Str,x ≠ "__name__"→mb x=bootBuiltins x)(hlim:s₁.heap.NoLimit)(hg:s₁.gens = #[])
  (hbm:∃bm ob,mg "__builtins__" = some (.ref bm)∧bm≠builtinsNs∧s₁.heap.get? bm=some ob∧ob.cls=.type "module"∧ob.dict=some builtinsNs∧ob.data=.plain)
  (hP:∀p,lamP=some p→s₁.heap.get? p=some { cls:=.none,data:=.fields #[] }∧K.lookup p=none∧∃c,PySem.W.CodeHd s₁.heap c p)
  (ha:s₁.heap.get? a=some { cls:=.type "list",data:=.seq vs.toArray })(hi:IntsAre vs ns)(hl:ns.length≤sizeLine)(hr:Room k callerA)
  (F:∀base:Heap,K.In base→base.Ns mainGlobals mg→FnOk P w K mg base CX k fa fd [x] sp)(hbind:∀(s:Shared) (u:Value),BindsTo s fd ⟨[u],[]⟩ [(x,u)])
  (hsp:∀H:Hp,Only H→SqL K H a (ns.map V.int)→sp [.ref a] H (fun v _=>v=.bl true) fun _ _ _=>False)
  (hCX:∀H e s',CX [] H s₁ (fun _ _ _=>False) e s'→False) :
  codeAny (model P w) callerA (.call (.ref fa) ⟨[.ref a],[]⟩) (fun r s'=>r=.ok (.ret (.bool true))∧OldK s₁.heap s'.heap∧s'.os=s₁.os∧AllBare s'.gens) s₁:=by
 have rv:=y5u hi
 have lenV:=hi.length
 have core:∀H:Hp,Only H→SqL K H a (ns.map V.int)→HOk P w H s₁.heap→(∀b,H b≠none→b=a∨lamP=some b)→(H a≠none→K.lookup a=none)→LamOk H →
   codeAny (model P w) callerA (.call (.ref fa) ⟨[.ref a],[]⟩) (fun r s'=>r=.ok (.ret (.bool true))∧OldK s₁.heap s'.heap∧s'.os=s₁.os∧AllBare s'.gens) s₁:=by
  intro H hO hS hok hA hK hL
  have base_of:∀{b:Addr}{o:Obj},s₁.heap.get? b=some o→H b=none→(hidT s₁.heap H).get? b=some o:=fun e n=>hidT_get e n
  have noA:∀{b:Addr}{o:Obj}{es:Array DictEntry}{ep:Nat},s₁.heap.get? b=some o→o.data=.dict es ep→H b=none:=fun {b o es ep} e d=>by
   cases q:H b with
   |none=>rfl
   |some u =>
    rcases hA b (by rw[q];simp) with e' | e'
    ·subst e'
     rw[ha]at e;cases e
     have d':Data.seq vs.toArray _=Data.dict es ep:=d
     cases d'
    ·rw[(hP b e').1]at e;cases e;cases d
  have noB:∀{b:Addr}{o:Obj},s₁.heap.get? b=some o→o.data=.plain→H b=none:=fun {b o} e d=>by
   cases q:H b with
   |none=>rfl
   |some u =>
    rcases hA b (by rw[q];simp) with e' | e'
    ·subst e'
     rw[ha]at e;cases e
     have d':Data.seq vs.toArray _=Data.plain:=d
     cases d'
    ·rw[(hP b e').1]at e;cases e;cases d
  have nsK:∀{b:Addr}{m:Str→Option Value},s₁.heap.Ns b m→(hidT s₁.heap H).Ns b m:=fun {b m} ⟨o,es,ep,e,d,r⟩=>⟨o,es,ep,base_of e (noA e d),d,r⟩
  have hKb:K.In (hidT s₁.heap H):=fun b o e=>base_of (KX b o e) (by
   cases q:H b with
   |none=>rfl
   |some u =>
    rcases hA b (by rw[q];simp) with e' | e'
    ·subst e'
     rw[hK (by rw[q];simp)]at e;cases e
    ·rw[(hP b e').2.1]at e;cases e)
  have hM:Mod K mg (hidT s₁.heap H):=⟨hKb,nsK hns,⟨mb,nsK hb,hbb⟩,let ⟨mc,h1,h2⟩:=hlim;⟨mc,nsK h1,h2⟩,let ⟨bm,ob,b1,b2,b3,b4,b5,b6⟩:=hbm;⟨bm,ob,b1,b2,base_of b3 (noB b3 b6),b4,b5,b6⟩⟩
  have e0:Env0 P w K mg (hidT s₁.heap H) callerA [] s₁ H:=⟨rfl,hM,fun b o e=>of_hidT e,Nat.le_of_eq (hidT_size _ _),trivial,fun b hb=>absurd (show b∈([]:List Addr) from hb) (by simp),hL,hok,.of_eq hg⟩
  refine codeAny_mono ((F _ hKb (nsK hns)).run callerA [] s₁ H ⟨[.ref a],[]⟩ [.ref a] [.ref a] _ _ hr e0 (hbind s₁ (.ref a)) (.cons rfl .nil) (hsp H hO hS)) fun r s' h=>?_
  cases r with
  |error e=>exact(hCX H e s' h).elim
  |ok fl =>
   cases fl with
   |next=>exact False.elim h
   |brk=>exact False.elim h
   |cont=>exact False.elim h
   |ret u =>
    obtain⟨v,H',os,bare,un,hok',r',q⟩:=h
    have q':v=.bl true:=q
    subst q'
    obtain rfl:u=Value.bool true:=r'
    refine⟨rfl,⟨fun b o e=>?_,fun b o e=>un.there b o e (by simp)⟩,os,bare⟩
    cases q:H b with
    |none=>exact .inl (un.keep b o e q (by intro z;exact absurd (show b∈([]:List Addr) from z) (by simp)) (by simp))
    |some u =>
     rcases hO b with z|⟨ob,xs,z⟩|⟨z,zp⟩
     ·rw[q]at z;cases z
     ·have z2:=un.frzs b ob _ z
      obtain⟨e1,_⟩:=hok b _ z
      obtain⟨e2,_⟩:=hok' b _ z2
      rw[e]at e1;cases e1
      exact .inl e2
     ·obtain⟨ps,e2,_⟩:=hok' b _ (un.tbls b z)
      obtain⟨e1,_,c,C⟩:=hP b zp
      have ht:=C.tab e1
      rw[e1]at e;cases e
      exact .inr (.inl ⟨ht.isCodeTable,rfl,#[],ps,rfl,by simpa using e2⟩)
 have naP:∀b,lamP=some b→b≠a:=fun b e z=>by subst z;have:=(hP b e).1;rw[ha]at this;cases this
 cases hk:K.lookup a with
 |some o =>
  have e:=KX a o hk
  rw[ha]at e
  cases e
  refine core (fun b=>if lamP=some b then some .lam else none) (fun b=>?_) (.inr ⟨_,vs.toArray,_,hk,rfl,rfl,rfl,by rw[List.size_toArray,lenV];exact hl,by simpa using rv⟩) (fun b u z=>?_) (fun b z=>?_) (fun z=>?_) (fun p e=>if_pos e)
  ·by_cases hb:lamP=some b
   ·exact .inr (.inr ⟨if_pos hb,hb⟩)
   ·exact .inl (if_neg hb)
  ·by_cases hb:lamP=some b
   ·have z':=(if_pos hb).symm.trans z
    cases z'
    exact⟨#[],(hP b hb).1,.inl rfl⟩
   ·have z':=(if_neg hb).symm.trans z
    cases z'
  ·by_cases hb:lamP=some b
   ·exact .inr hb
   ·exact absurd (if_neg hb) z
  ·by_cases hb:lamP=some a
   ·exact absurd rfl (naP a hb)
   ·exact absurd (if_neg hb) z
 |none =>
  refine core (fun b=>if b=a then some (.frz { cls:=.type "list",data:=.seq vs.toArray } (.lst (ns.map V.int))) else if lamP=some b then some .lam else none) (fun b=>?_) (.inl (.inr ⟨{ cls:=.type "list",data:=.seq vs.toArray },if_pos rfl⟩)) (fun b u z=>?_) (fun b z=>?_) (fun _=>hk) (fun p e=>?_)
  ·by_cases hb:b=a
   ·exact .inr (.inl ⟨_,_,if_pos hb⟩)
   ·by_cases hp:lamP=some b
    ·exact .inr (.inr ⟨(if_neg hb).trans (if_pos hp),hp⟩)
    ·exact .inl ((if_neg hb).trans (if_neg hp))
  ·by_cases hb:b=a
   ·have z':=(if_pos hb).symm.trans z
    cases z'
    subst hb
    exact⟨ha,by rw[List.length_map];exact hl,vs,_,rv,ha⟩
   ·by_cases hp:lamP=some b
    ·have z':=((if_neg hb).trans (if_pos hp)).symm.trans z
     cases z'
     exact⟨#[],(hP b hp).1,.inl rfl⟩
    ·have z':=((if_neg hb).trans (if_neg hp)).symm.trans z
     cases z'
  ·by_cases hb:b=a
   ·exact .inl hb
   ·by_cases hp:lamP=some b
    ·exact .inr hp
    ·exact absurd ((if_neg hb).trans (if_neg hp)) z
  ·exact(if_neg (naP p e)).trans (if_pos e)
end L2
namespace L2
open PySem PySem.Spec PyProof.Rows
theorem walk_of {l:PySem.W.OpenLaw}{n k:Nat}{q:Program}{loose:List Str}{XP:(Str→Option Value)→Heap→Prop}{YP:World→Heap→Prop}{d:DefRec}{K:Params→PySem.W.Frag}{CX:World→CXT}{sp:World→Sp}{x:Str}
  (hn:l.most=some n)(hn2:n≤sizeLine)(hdf:d.params.defaults=[])(hr:Room k callerA)
  (hY:∀(w:World) (h:Heap),YP w h→(K w.params).In h)
  (hY2:∀(w:World) (h:Heap),YP w h→∀p,lamP=some p→h.get? p=some { cls:=.none,data:=.fields #[] }∧(K w.params).lookup p=none∧∃c,PySem.W.CodeHd h c p)
  (F:∀(w:World) (mg:Str→Option Value) (fa:Addr) (h:Heap),(K w.params).In h→h.Ns mainGlobals mg→mg d.name=some (.ref fa) →
   ∃fd:FuncData,(∀(s:Shared) (u:Value),BindsTo s fd ⟨[u],[]⟩ [(x,u)]) ∧
    ∀base:Heap,(K w.params).In base→base.Ns mainGlobals mg→FnOk l.prog w (K w.params) mg base (CX w) k fa fd [x] (sp w))
  (hsp:∀(w:World) (H:Hp) (a:Addr) (ns:List Int),ns.length≤n→Only H→SqL (K w.params) H a (ns.map V.int)→sp w [.ref a] H (fun v _=>v=.bl true) fun _ _ _=>False)
  (hCX:∀(w:World) (H:Hp) (s:Shared) (e:Value) (s':Shared),CX w [] H s (fun _ _ _=>False) e s'→False) :
  PySem.W.WalkO q loose XP YP l.row.toRowW d [] (fun f vs=>PySem.call f vs):=by
 refine Att.attach_call hn hdf fun w s₀ s₁ mg mb fa o pm cd doc a vs ns G Y ho hd hcd hmg hobj hints hlen hg=>?_
 have KX:=hY w _ Y
 obtain⟨fd,hb,hF⟩:=F w mg fa _ KX G.T.g hmg
 exact law_call KX G.T.g G.T.b G.T.builtins G.T.nolimit hg G.T.bmain (hY2 w _ Y) hobj hints (Nat.le_trans hlen hn2) hr hF hb (fun H hO hS=>hsp w H a ns hlen hO hS) fun H e s'=>hCX w H s₁ e s'
theorem walk_ofK {l:PySem.W.OpenLaw}{n k:Nat}{q:Program}{loose:List Str}{XP:(Str→Option Value)→Heap→Prop}{YP:World→Heap→Prop}{d:DefRec}{K:Params→PySem.W.Frag}{CX:CXT}{sp:PySem.W.Frag→Sp}{x:Str}
  (hn:l.most=some n)(hn2:n≤sizeLine)(hdf:d.params.defaults=[])(hr:Room k callerA)
  (hY:∀(w:World) (h:Heap),YP w h→(K w.params).In h)
  (hY2:∀(w:World) (h:Heap),YP w h→∀p,lamP=some p→h.get? p=some { cls:=.none,data:=.fields #[] }∧(K w.params).lookup p=none∧∃c,PySem.W.CodeHd h c p)
  (F:∀(w:World) (mg:Str→Option Value) (fa:Addr) (h:Heap),(K w.params).In h→h.Ns mainGlobals mg→mg d.name=some (.ref fa) →
   ∃fd:FuncData,(∀(s:Shared) (u:Value),BindsTo s fd ⟨[u],[]⟩ [(x,u)]) ∧
    ∀base:Heap,(K w.params).In base→base.Ns mainGlobals mg→FnOk l.prog w (K w.params) mg base CX k fa fd [x] (sp (K w.params)))
  (hsp:∀(K:PySem.W.Frag) (H:Hp) (a:Addr) (ns:List Int),ns.length≤n→Only H→SqL K H a (ns.map V.int)→sp K [.ref a] H (fun v _=>v=.bl true) fun _ _ _=>False)
  (hCX:∀(H:Hp) (s:Shared) (e:Value) (s':Shared),CX [] H s (fun _ _ _=>False) e s'→False) :
  PySem.W.WalkO q loose XP YP l.row.toRowW d [] (fun f vs=>PySem.call f vs) :=
 walk_of (K:=K) (CX:=fun _=>CX) (sp:=fun w=>sp (K w.params)) hn hn2 hdf hr hY hY2 F (fun w H a ns h1 h2 h3=>hsp (K w.params) H a ns h1 h2 h3) fun _ H s e s'=>hCX H s e s'
end L2
namespace L2
open PySem PySem.Spec PyProof.Rows
def y7c (s:Stmt)(j:Nat):Stmt:=match s with
 |.ClassDef _ _ _ body _ _ _ _ _ _ _=>body.getD j (.Pass ⟨0,0,0,0⟩)
 |_=>.Pass ⟨0,0,0,0⟩
def z0s (s:Stmt):Arguments:=match s with
 |.FunctionDef _ a _ _ _ _ _ _ _ _=>a
 |_=>{ posonlyargs:=[],args:=[],vararg:=none,kwonlyargs:=[],kw_defaults:=[],kwarg:=none,defaults:=[] }
def z0p (s:Stmt):List Stmt:=match s with
 |.FunctionDef _ _ b _ _ _ _ _ _ _=>b
 |_=>[]
def z0b (s:Stmt):Scope:=match s with
 |.FunctionDef _ _ _ _ _ _ sc _ _ _=>sc
 |_=>{ kind:=.function,names:=[],isGenerator:=false,isCoroutine:=false }
abbrev CX0:CXT:=fun _ _ _ _ _ _=>False
abbrev E0:XK:=fun _ _ _=>False
theorem z0z {X:Cx}:z9f CX0 X E0:=fun _ _ _ _ _ _ _ h=>h.elim
structure Fun (K:PySem.W.Frag)(x qual:Str)(st:Stmt)(f:Addr)(fd:FuncData):Prop where
 ex:∃(oc:Value) (od:Option Addr) (kV doc pm:Value) (an:Option Addr) (cdv ct:Value) (osl:Array (Option Value)),
  fd=PySem.W.fnOf x qual (z0s st) (z0p st) (z0b st) .none kV doc pm an cdv ct∧K.lookup f=some ⟨oc,od,.func fd,osl⟩∧PySem.W.codeIn K cdv qual=true
 kp:PySem.W.keepIn K (.ref f)=true
section
variable {P:Program}{w:World}{K:PySem.W.Frag}{mg:Str→Option Value}{base:Heap}
theorem Fun.ok {x qual:Str}{st:Stmt}{f:Addr}{fd:FuncData}{N ps:List Str}{k:Nat}{sp:Sp}(F:Fun K x qual st f fd)(S:FnScope N ps (z0b st))(len:∀vs H Q E,sp vs H Q E→vs.length=ps.length)
  (hbody:∀(cdv:Value) (A:Around) (outer:List Env) (s:Shared) (H:Hp) (vs:List V) (Q:VK) (E:XK),Room k (A.deeper (envOfC qual (z0b st) s.heap.objs.size f cdv))→sp vs H Q E →
   ∃t,PSs (cxOf CX0 P w K mg base N qual (z0b st) f cdv A outer s H E).nox (z0p st) t∧t { nx:=fun _ H'=>Q .non H',rt:=Q } (start N vs) H):FnOk P w K mg base CX0 (k+1) f fd ps sp:=by
 obtain⟨oc,od,kV,doc,pm,an,cdv,ct,osl,rfl,lk,hcd⟩:=F.ex
 refine fn_of lk hcd S len fun A outer s H vs Q E hr hsp=>?_
 obtain⟨t,h,q⟩:=hbody cdv A outer s H vs Q E hr hsp
 exact⟨t,h.nox,q⟩
theorem Fun.binds {x qual:Str}{st:Stmt}{f:Addr}{fd:FuncData}{ps:List Str}(F:Fun K x qual st f fd)
  (h:∀(kV doc pm:Value) (an:Option Addr) (cdv ct:Value) (us:List Value),us.length=ps.length→bindArgs (PySem.W.fnOf x qual (z0s st) (z0p st) (z0b st) .none kV doc pm an cdv ct) ⟨us,[]⟩=pure (ps.zip us)):Binds K fd ps []:=by
 obtain⟨oc,od,kV,doc,pm,an,cdv,ct,osl,rfl,lk,hcd⟩:=F.ex
 exact .all (h kV doc pm an cdv ct)
theorem y5h {x qual:Str}{st:Stmt}{f:Addr}{oc:Value}{od an:Option Addr}{osl:Array (Option Value)}{kV doc pm cdv ct:Value}(l:K.lookup f=some ⟨oc,od,.func (PySem.W.fnOf x qual (z0s st) (z0p st) (z0b st) .none kV doc pm an cdv ct),osl⟩)
  (c:PySem.W.codeIn K cdv qual=true)(k:PySem.W.keepIn K (.ref f)=true):Fun K x qual st f (PySem.W.fnOf x qual (z0s st) (z0p st) (z0b st) .none kV doc pm an cdv ct):=⟨⟨oc,od,kV,doc,pm,an,cdv,ct,osl,rfl,l,c⟩,k⟩
end
section
variable {X:Cx}
theorem pv (i:Nat){x:Str}{pos:Pos}(hN:X.N[i]? = some x:=by rfl)(hv:Vis X.env.scope x:=by first|exact Or.inl rfl|exact Or.inr (Or.inl rfl)|exact Or.inr (Or.inr rfl))(hd:(x == ("__debug__":Str))=false:=by decide)
  (hcd:(x == ("__classdict__":Str))=false:=by decide):PE X (.Name x pos) (tVar i):=y1m hN hv hd hcd
end
theorem iteF {A B:Prop}(h:B):if false=true then A else B:=by
 rw[if_neg Bool.false_ne_true]
 exact h
theorem iteT {A B:Prop}(h:A):if true=true then A else B:=by
 rw[if_pos rfl]
 exact h
theorem ite2 {c A B:Prop}[Decidable c](h1:c→A)(h2:¬c→B):if c then A else B:=by
 by_cases h:c
 ·rw[if_pos h]
  exact h1 h
 ·rw[if_neg h]
  exact h2 h
def Same (H H':Hp):Prop:=∀b o,H b=some o→H' b=some o
theorem Same.refl (H:Hp):Same H H:=fun _ _ h=>h
theorem Same.trans {H H1 H2:Hp}(a:Same H H1)(b:Same H1 H2):Same H H2:=fun c o h=>b c o (a c o h)
theorem Same.free {H H':Hp}(e:Same H H'){l:Addr}(h:H' l=Option.none):H l=Option.none:=by
 cases q:H l with
 |none=>rfl
 |some o =>
  rw[e l o q]at h
  cases h
theorem Same.seq {K:PySem.W.Frag}{H H':Hp}{a:Addr}{xs:List V}(e:Same H H')(h:SqL K H a xs):SqL K H' a xs:=by
 rcases h with (h|⟨o,h⟩)|h
 ·exact .inl (.inl (e _ _ h))
 ·exact .inl (.inr ⟨o,e _ _ h⟩)
 ·exact .inr h
section
variable {κ:Type}[DecidableEq κ]
end
end L2
namespace L2
open PySem PySem.Spec PyProof.Rows
section
variable {X:Cx}
theorem z1r:OpR X (binaryOp .FloorDiv) (rI (fun _ j=>0<j∧j.natAbs.log2<9000) fun i j=>.int (i / j)):=opI fun i j _ _ _ _ _ hc q=>by
 have h1:(0:Int)<j:=hc.1
 exact floordiv_int (by omega) (by rw[Int.fdiv_eq_ediv_of_nonneg i (by omega)];exact q) (.inl (PyProof.noPylong_of_log2 hc.2))
theorem z2x {K:PySem.W.Frag}(hK:X.K=K):z7d X (.builtin "isinstance") (fun xs H Q=>∃x T t b,xs=[x,.ty T]∧TyOf K H x t∧PySem.W.kitOne K t (.type T)=some b∧Q (.bl b) H):=by
 subst hK
 intro pins s σ H xs us Q I r h
 obtain⟨x,T,t,b,rfl,ty,e,q⟩:=h
 obtain⟨u,w',rfl,rx,rt⟩:=vals2 r
 cases(show w' = Value.type T from rt)
 exact x3f I rx ty e fun tk=>⟨.bl b,H,I.tok tk,rfl,q⟩
end
section
variable {prog:Program}{w:World}{A:Around}{E:Value→Shared→Prop}{s:Shared}
end
def z6z:List (Str×NameKind)→List (Str×Addr)→List (Str×Addr)→List (Str×Addr)
 | [],_,cs=>cs
 |(n,k)::r,cells,cs=>z6z r cells (if k == .free then(n,(cells.lookup n).getD 0)::cs else cs)
def z9a (env:Env)(x:Str×NameKind)(r:List (Str×Addr)):Sem (ForInStep (List (Str×Addr))) :=
 if (x.2 == NameKind.free)=true then cellOf env x.1 >>= fun a=>pure (ForInStep.yield ((x.1,a)::r)) else pure (ForInStep.yield r)
theorem z7l {scope:Scope}{env:Env}(h:∀y∈scope.names,y.2=.free→∃c,env.cells.lookup y.1=some c):closureFor scope env=pure (z6z scope.names env.cells []):=by
 have key:∀(l:List (Str×NameKind)) (cs:List (Str×Addr)),(∀y∈l,y.2=.free→∃c,env.cells.lookup y.1=some c)→(forIn l cs (z9a env):Sem (List (Str×Addr)))=pure (z6z l env.cells cs):=by
  intro l
  induction l with
  |nil=>intro cs _;rfl
  |cons y r ih =>
   intro cs hl
   obtain⟨n,k⟩:=y
   rw[List.forIn_cons]
   by_cases hk:(k == NameKind.free)=true
   ·obtain⟨c,hc⟩:=hl (n,k) List.mem_cons_self (by simpa using hk)
    have hc':env.cells.lookup n=some c:=hc
    have e:z9a env (n,k) cs=pure (ForInStep.yield ((n,c)::cs)):=by simp only[z9a,hk,if_true,cellOf,hc',pure_bind]
    rw[e,pure_bind]
    show forIn r ((n,c)::cs) (z9a env)=_
    rw[ih _ fun y hy=>hl y (List.mem_cons_of_mem _ hy)]
    simp[z6z,hk,hc']
   ·have e:z9a env (n,k) cs=pure (ForInStep.yield cs):=by simp only[z9a,hk,if_false];rfl
    rw[e,pure_bind]
    show forIn r cs (z9a env)=_
    rw[ih _ fun y hy=>hl y (List.mem_cons_of_mem _ hy)]
    simp[z6z,hk]
 have e0:closureFor scope env=(forIn scope.names [] (z9a env):Sem (List (Str×Addr))) >>= fun cs=>pure cs:=by rfl
 rw[e0,key _ _ h,pure_bind]
theorem z8z {cells:List (Str×Addr)}{y:Str}{c:Addr}:∀(l:List (Str×NameKind)) (cs:List (Str×Addr)),(∀z∈l,z.2=.free→∃c,cells.lookup z.1=some c)→(cs.lookup y=some c→cells.lookup y=some c) →
  (z6z l cells cs).lookup y=some c→cells.lookup y=some c
 | [],cs,_,h,e=>h e
 |(n,k)::r,cs,hl,h,e=>by
  refine z8z r _ (fun z hz=>hl z (List.mem_cons_of_mem _ hz)) (fun e'=>?_) e
  by_cases hk:(k == NameKind.free)=true
  ·rw[if_pos hk]at e'
   obtain⟨c',hc⟩:=hl (n,k) List.mem_cons_self (by simpa using hk)
   have hc':cells.lookup n=some c':=hc
   rw[List.lookup_cons,hc']at e'
   by_cases hy:(y == n)=true
   ·simp only[hy]at e'
    rw[eq_of_beq hy,hc']
    exact e'
   ·simp only[hy]at e'
    exact h e'
  ·rw[if_neg hk]at e'
   exact h e'
theorem y0n {cells:List (Str×Addr)}{y:Str}:∀(l:List (Str×NameKind)) (cs:List (Str×Addr)),(y,NameKind.free)∈l∨(cs.lookup y).isSome=true→((z6z l cells cs).lookup y).isSome=true
 | [],cs,h=>by
  rcases h with h|h
  ·cases h
  ·exact h
 |(n,k)::r,cs,h=>by
  refine y0n r _ ?_
  rcases h with h|h
  ·rcases List.mem_cons.mp h with h|h
   ·cases h
    refine .inr ?_
    simp
   ·exact .inl h
  ·refine .inr ?_
   by_cases hk:(k == NameKind.free)=true
   ·rw[if_pos hk,List.lookup_cons]
    cases hy:y == n
    ·exact h
    ·rfl
   ·rw[if_neg hk];exact h
theorem z5o {y:Str}{k:NameKind}:∀{l:List (Str×NameKind)},l.lookup y=some k→(y,k)∈l
 | [],h=>by cases h
 |(n,k')::r,h=>by
  rw[List.lookup_cons]at h
  cases hy:y == n
  ·rw[hy]at h;exact List.mem_cons_of_mem _ (z5o h)
  ·rw[hy]at h;cases h;rw[eq_of_beq hy];exact List.mem_cons_self
theorem z7e {scope:Scope}{env:Env}{y:Str}{k:NameKind}(h:(relabel scope env).names.lookup y=some k):scope.names.lookup y=some k∨(k=.cell∧scope.names.lookup y=some .free):=by
 have key:∀l:List (Str×NameKind),(l.map fun(n,k)=>if (k == NameKind.free&&env.scope.kind == .function&&env.kindOf n == some .cell) then(n,NameKind.cell) else(n,k)).lookup y=some k→l.lookup y=some k∨(k=.cell∧l.lookup y=some .free):=by
  intro l
  induction l with
  |nil=>intro h;simp at h
  |cons z r ih =>
   obtain⟨n,k'⟩:=z
   intro h
   rw[List.map_cons]at h
   rw[List.lookup_cons]
   by_cases hc:(k' == NameKind.free&&env.scope.kind == .function&&env.kindOf n == some .cell)=true
   ·have e:(match (n,k') with|(n,k)=>if (k == NameKind.free&&env.scope.kind == .function&&env.kindOf n == some .cell)=true then(n,NameKind.cell) else(n,k))=(n,NameKind.cell):=by simp only[hc,if_true]
    rw[e,List.lookup_cons]at h
    cases hy:y == n
    ·rw[hy]at h;exact ih h
    ·rw[hy]at h
     have hk:k' = .free:=by simp at hc;exact hc.1.1
     cases h
     exact .inr ⟨rfl,by rw[hk]⟩
   ·have e:(match (n,k') with|(n,k)=>if (k == NameKind.free&&env.scope.kind == .function&&env.kindOf n == some .cell)=true then(n,NameKind.cell) else(n,k))=(n,k'):=by simp only[hc,if_false];rfl
    rw[e,List.lookup_cons]at h
    cases hy:y == n
    ·rw[hy]at h;exact ih h
    ·rw[hy]at h;exact .inl h
 exact key _ h
theorem y6b {scope:Scope}{env:Env}{y:Str}(h:scope.names.lookup y=some .free):(relabel scope env).names.lookup y=some .cell∨(relabel scope env).names.lookup y=some .free:=by
 have key:∀l:List (Str×NameKind),l.lookup y=some .free→(l.map fun(n,k)=>if (k == NameKind.free&&env.scope.kind == .function&&env.kindOf n == some .cell) then(n,NameKind.cell) else(n,k)).lookup y=some .cell ∨
  (l.map fun(n,k)=>if (k == NameKind.free&&env.scope.kind == .function&&env.kindOf n == some .cell) then(n,NameKind.cell) else(n,k)).lookup y=some .free:=by
  intro l
  induction l with
  |nil=>intro h;simp at h
  |cons z r ih =>
   obtain⟨n,k'⟩:=z
   intro h
   rw[List.lookup_cons]at h
   rw[List.map_cons]
   cases hy:y == n
   ·rw[hy]at h
    rcases ih h with q|q
    ·left;rw[List.lookup_cons]
     split
     ·rename_i hb;split at hb<;>(simp only at hb;rw[hy]at hb;cases hb)
     ·exact q
    ·right;rw[List.lookup_cons]
     split
     ·rename_i hb;split at hb<;>(simp only at hb;rw[hy]at hb;cases hb)
     ·exact q
   ·rw[hy]at h
    cases h
    by_cases hc:(NameKind.free == NameKind.free&&env.scope.kind == .function&&env.kindOf n == some .cell)=true
    ·left;simp only[hc,if_true,List.lookup_cons,hy]
    ·right
     show List.lookup y ((if (NameKind.free == NameKind.free&&env.scope.kind == .function&&env.kindOf n == some .cell)=true then(n,NameKind.cell) else(n,NameKind.free))::_)=_
     rw[if_neg hc,List.lookup_cons,hy]
 exact key _ h
def PF (X:Cx)(ifs:List Expr)(t:TT):Prop :=
 ∀(pins:List (Addr×Obj)) (s:Shared) (σ:St) (H:Hp) (Q:Bool→Hp→Prop),Inv X pins σ H s→t σ H Q →
  wpAny (model X.prog X.w) X.A (forIn ifs true fun c r=>if r=true then do let ok ←isTrue c X.env (eval c X.env);pure (ForInStep.yield ok) else pure (ForInStep.yield r)) (TP X pins σ Q) X.xe s
def tYes:TT:=fun _ H Q=>Q true H
theorem pf_nil {X:Cx}:PF X [] tYes:=fun _ _ _ H _ I h=>wpAny_pure ⟨H,I,h⟩
theorem pf_one {X:Cx}{c:Expr}{t:TT}(h:PT X c t):PF X [c] t:=fun pins s σ H Q I q=>wpAny_tests_one (h pins s σ H Q I q)
def z3v (X:Cx)(scope:Scope)(N:List Str)(pins:List (Addr×Obj))(ex:List Addr)(H₀:Hp)(s₀:Shared)(C:Addr):Cx :=
 { X with N:=N,s₀:=s₀,H₀:=H₀,env:=compEnvC scope (z6z scope.names X.env.cells []) C X.env,outer:=X.stack,stack:=X.stack,ex:=ex,fn:=fun _=>false,pn:=X.pn++pins,xe:=fun _ _=>False }
def namesOk (sc:Scope):List Str→List Str→Bool
 | [],[]=>true
 |n::N,m::M=>(sc.names.lookup m == none||(m == n&&sc.names.lookup m == some .free))&&namesOk sc N M
 |_,_=>false
theorem namesOk.get {sc:Scope}:∀{N M:List Str},namesOk sc N M=true→N.length=M.length∧∀(i:Nat) (y:Str),M[i]? = some y→sc.names.lookup y=none∨(N[i]? = some y∧sc.names.lookup y=some .free)
 | [],[],_=>⟨rfl,fun i y h=>by simp at h⟩
 |n::N,m::M,h=>by
  rw[namesOk,Bool.and_eq_true]at h
  obtain⟨h1,h2⟩:=h
  obtain⟨l,ih⟩:=namesOk.get h2
  refine⟨by simp[l],fun i y e=>?_⟩
  cases i with
  |zero =>
   have e':m=y:=by simpa using e
   subst e'
   rcases(Bool.or_eq_true _ _).mp h1 with h|h
   ·exact .inl (by simpa using h)
   ·obtain⟨h3,h4⟩:=(Bool.and_eq_true _ _).mp h
    exact .inr ⟨by rw[eq_of_beq h3];rfl,by simpa using h4⟩
  |succ i=>simpa using ih i y (by simpa using e)
 | [],_::_,h=>by cases h
 |_::_,[],h=>by cases h
structure CScope (osc:Scope)(N:List Str)(x:Str)(sc:Scope)(M:List Str):Prop where
 kind:sc.kind=.function
 cell:∀y∈sc.names,y.2≠.cell
 names:∀y∈sc.names,y.2=.local→sc.names.lookup y.1=some .local
 hx:sc.names.lookup x=some .local
 free:∀y∈sc.names,y.2=.free→osc.names.lookup y.1=some .cell∨osc.names.lookup y.1=some .free
 nd:(x::M).Nodup
 ok:namesOk sc N M=true
section
variable {X:Cx}
end
inductive EqT (H:Hp):Nat→V→V→Prop
 |int {n:Nat}(i:Int):EqT H n (.int i) (.int i)
 |str {n:Nat}(x:Str):EqT H n (.str x) (.str x)
 |lst {n:Nat}{a b:Addr}{xs ys:List V}(ha:H a=some (.lst xs)) (hb:H b=some (.lst ys)) (hl:xs.length=ys.length) (h:∀(i:Nat) x y,xs[i]? = some x→ys[i]? = some y→EqT H n x y):EqT H (n+1) (.ref a) (.ref b)
 |tup {n:Nat}{a b:Addr}{xs ys:List V}(ha:H a=some (.tup xs)) (hb:H b=some (.tup ys)) (hl:xs.length=ys.length) (h:∀(i:Nat) x y,xs[i]? = some x→ys[i]? = some y→EqT H n x y):EqT H (n+1) (.ref a) (.ref b)
theorem y3f (n:Nat):(List.range n).all (fun _=>true)=true:=by simp
theorem EqT.items {X:Cx}{H:Hp}{n:Nat}{A:Around}{s:Shared}{xs ys:List V}{us ws:List Value}(r1:Vals xs us)(r2:Vals ys ws)(hl:xs.length=ys.length)
  (ih:∀(i:Nat) x y,xs[i]? = some x→ys[i]? = some y→∀{v' u':Value},RelV x v'→RelV y u'→SeqAt.EqAt A.in1 s v' u' true)(j:Nat)(h1:j<us.toArray.size)(h2:j<ws.toArray.size):SeqAt.EqAt A.in1 s us.toArray[j] ws.toArray[j] true:=by
 have l1:=r1.length
 have l2:=r2.length
 have hj:j<xs.length:=by simpa[l1] using h1
 have hj2:j<ys.length:=by omega
 obtain⟨u,e1,q1⟩:=r1.get (i:=j) (x:=xs[j]) (by simp[hj])
 obtain⟨w',e2,q2⟩:=r2.get (i:=j) (x:=ys[j]) (by simp[hj2])
 have z1:us.toArray[j]=u:=by
  have:us[j]? = some (us.toArray[j]):=by simp at h1;simp[h1]
  rw[this]at e1;exact Option.some.inj e1
 have z2:ws.toArray[j]=w':=by
  have:ws[j]? = some (ws.toArray[j]):=by simp at h2;simp[h2]
  rw[this]at e2;exact Option.some.inj e2
 rw[z1,z2]
 exact ih j xs[j] ys[j] (by simp[hj]) (by simp[hj2]) q1 q2
theorem EqT.at {X:Cx}{pins:List (Addr×Obj)}{σ:St}{H:Hp}{s:Shared}(I:Inv X pins σ H s){n:Nat}{v u:V}(h:EqT H n v u):∀{A:Around}{v' u':Value},RelV v v'→RelV u u'→A.units+n<cLine→SeqAt.EqAt A s v' u' true:=by
 induction h with
 |int i =>
  intro A v' u' r1 r2 _
  obtain⟨t,rfl⟩:=r1
  obtain⟨t',rfl⟩:=r2
  have q:=SeqAt.EqAt.int_int (A:=A) (s:=s) i t i t'
  rw[beq_self_eq_true]at q
  exact q
 |str x =>
  intro A v' u' r1 r2 _
  obtain⟨t,rfl⟩:=r1
  obtain⟨t',rfl⟩:=r2
  have q:=SeqAt.EqAt.str_str (A:=A) (s:=s) x t x t'
  rw[beq_self_eq_true]at q
  exact q
 | @lst n a b xs ys ha hb hl h ih =>
  intro A v' u' r1 r2 hu
  cases r1
  cases r2
  by_cases hab:a=b
  ·subst hab;exact SeqAt.EqAt.same _
  ·obtain⟨us,ru,pu,_⟩:=I.list (SqL.of ha)
   obtain⟨ws,rw',pw,_⟩:=I.list (SqL.of hb)
   have q:=SeqAt.RcAt.lists (A:=A) (e:=fun _=>true) pu.isList pw.isList (by simp[←ru.length,←rw'.length,hl]) (by omega) (fun j h1 h2=>EqT.items (X:=X) (H:=H) (n:=n) ru rw' hl (fun i x y e1 e2 _ _ q1 q2=>ih i x y e1 e2 q1 q2 (by show A.units+1+n<cLine;omega)) j h1 h2)
   rw[y3f]at q
   exact SeqAt.EqAt.of_refs hab q
 | @tup n a b xs ys ha hb hl h ih =>
  intro A v' u' r1 r2 hu
  cases r1
  cases r2
  by_cases hab:a=b
  ·subst hab;exact SeqAt.EqAt.same _
  ·obtain⟨us,ru,pu,_⟩:=I.tuple (SqT.of ha)
   obtain⟨ws,rw',pw,_⟩:=I.tuple (SqT.of hb)
   have q:=SeqAt.RcAt.tuples (A:=A) (e:=fun _=>true) (show s.heap.IsTuple a us.toArray from pu) (show s.heap.IsTuple b ws.toArray from pw) (by omega) (fun j h1 h2=>EqT.items (X:=X) (H:=H) (n:=n) ru rw' hl (fun i x y e1 e2 _ _ q1 q2=>ih i x y e1 e2 q1 q2 (by show A.units+1+n<cLine;omega)) j h1 h2)
   have e:us.toArray.size=ws.toArray.size:=by simp[←ru.length,←rw'.length,hl]
   rw[y3f,e,beq_self_eq_true,Bool.true_and]at q
   exact SeqAt.EqAt.of_refs hab q
theorem x0n {X:Cx}:OpR X (compareOp .Eq) (fun x y H Q=>∃n a b xs ys,x=.ref a∧y=.ref b∧H a=some (.lst xs)∧H b=some (.lst ys)∧xs.length=ys.length∧(∀(i:Nat) x y,xs[i]? = some x→ys[i]? = some y→EqT H n x y)∧X.A.units+n+1<cLine∧Q (.bl true) H):=by
 intro pins s σ H x y v u Q I rx ry h
 obtain⟨n,a,b,xs,ys,rfl,rfl,ha,hb,hl,h,hu,q⟩:=h
 cases rx
 cases ry
 obtain⟨us,ru,pu,_⟩:=I.list (SqL.of ha)
 obtain⟨ws,rw',pw,_⟩:=I.list (SqL.of hb)
 refine SeqAt.eq_listAt (e:=fun _=>true) pu.isList pw.isList (by simp[←ru.length,←rw'.length,hl]) (by omega) (fun j h1 h2=>EqT.items (X:=X) (H:=H) (n:=n) ru rw' hl (fun i x y e1 e2 _ _ q1 q2=>(h i x y e1 e2).at I q1 q2 (by show X.A.units+1+n<cLine;omega)) j h1 h2) ?_
 rw[y3f]
 exact⟨.bl true,H,I,rfl,q⟩
def LoopR (lo:Int)(n:Nat)(g:TG)(tb:TS)(D:Ends)(σ:St)(H:Hp):Prop:=∃W:Nat→Nat→St→Hp→Prop,(∃m,W 0 m σ H)∧∀i m σ H,W i m σ H →
 ((Itr lo n).stop i H∧D.nx σ H)∨((Itr lo n).go i H∧∃N:St→Hp→Prop,(∀σ' H',N σ' H'→∃m',m' < m∧W (i+1) m' σ' H')∧∀x H',(Itr lo n).yld i H x H'→g x σ H' fun σ2 H2=>tb { D with nx:=N,ct:=N,bk:=D.nx } σ2 H2)
def LoopL (K:PySem.W.Frag)(a:Addr)(g:TG)(tb:TS)(D:Ends)(σ:St)(H:Hp):Prop:=∃W:Nat→Nat→St→Hp→Prop,(∃m,W 0 m σ H)∧∀i m σ H,W i m σ H →
 ((Itl K a).stop i H∧D.nx σ H)∨((Itl K a).go i H∧∃N:St→Hp→Prop,(∀σ' H',N σ' H'→∃m',m' < m∧W (i+1) m' σ' H')∧∀x H',(Itl K a).yld i H x H'→g x σ H' fun σ2 H2=>tb { D with nx:=N,ct:=N,bk:=D.nx } σ2 H2)
theorem x2z {ta:TA}{g:TG}{tb:TS}{D:Ends}{σ:St}{H:Hp}:tFor (iRng1 ta) g tb D σ H=ta σ H fun vs H1=>∃j:Int,vs=[.int j]∧-(2 ^ 62)≤j∧j<2 ^ 62∧LoopR 0 j.toNat g tb D σ H1:=rfl
theorem tFor_l {K:PySem.W.Frag}{tl:TE}{g:TG}{tb:TS}{D:Ends}{σ:St}{H:Hp}:tFor (iList K tl) g tb D σ H=tl σ H fun x H1=>∃a,x=.ref a∧(∃xs,SqL K H1 a xs)∧LoopL K a g tb D σ H1:=rfl
theorem loopR {lo:Int}{n:Nat}{g:TG}{tb:TS}{D:Ends}{σ:St}{H:Hp}(Pv:Nat→St→Hp→Prop)(h0:Pv 0 σ H)
  (hs:∀i σ H,i<n→Pv i σ H→g (.int (lo+i)) σ H fun σ2 H2=>tb { D with nx:=Pv (i+1),ct:=Pv (i+1),bk:=D.nx } σ2 H2)(hd:∀σ H,Pv n σ H→D.nx σ H):LoopR lo n g tb D σ H:=for_range Pv h0 hs hd
theorem x1d {K:PySem.W.Frag}{a:Addr}{xs:List V}{g:TG}{tb:TS}{D:Ends}{σ:St}{H:Hp}(Pv:Nat→St→Hp→Prop)(h0:Pv 0 σ H)(hl:∀i σ H,i≤xs.length→Pv i σ H→SqL K H a xs)
  (hs:∀i x σ H,xs[i]? = some x→Pv i σ H→g x σ H fun σ2 H2=>tb { D with nx:=Pv (i+1),ct:=Pv (i+1),bk:=D.nx } σ2 H2)(hd:∀σ H,Pv xs.length σ H→D.nx σ H):LoopL K a g tb D σ H:=for_list Pv h0 hl hs hd
theorem Same.upd {H H':Hp}{a:Addr}{o:HO}(s:Same H H')(h:H a=none):Same H (upd H' a o):=fun b u e=>by
 rw[z0i (z0n e h)];exact s b u e
theorem Same.of_new {H:Hp}{a:Addr}{o:HO}(h:H a=none):Same H (L2.upd H a o):=(Same.refl H).upd h
theorem cxOf_K {CX:CXT}{P:Program}{w:World}{K:PySem.W.Frag}{mg:Str→Option Value}{base:Heap}{N:List Str}{qual:Str}{scope:Scope}{f:Addr}{cd:Value}{A:Around}{outer:List Env}{s:Shared}{H:Hp}{E:XK}:(cxOf CX P w K mg base N qual scope f cd A outer s H E).K=K:=rfl
theorem cxOf_A {CX:CXT}{P:Program}{w:World}{K:PySem.W.Frag}{mg:Str→Option Value}{base:Heap}{N:List Str}{qual:Str}{scope:Scope}{f:Addr}{cd:Value}{A:Around}{outer:List Env}{s:Shared}{H:Hp}{E:XK}:(cxOf CX P w K mg base N qual scope f cd A outer s H E).A=A.deeper (envOfC qual scope s.heap.objs.size f cd):=rfl
section
variable {X:Cx}
theorem z2c:IxR X (fun x y H Q=>∃p i,x=.ref p∧y=.int i∧∃xs,H p=some (.lst xs)∧∃v,atI xs i=some v∧Q v H):=fun value slice pins s σ H x y v u Q I rx ry h hs =>
 ix_list value slice pins s σ H x y v u Q I rx ry (by obtain⟨p,i,e1,e2,xs,e3,v,e4,q⟩:=h;exact⟨p,xs,i,v,e1,e2,SqL.of e3,e4,q⟩) hs
theorem z1g:IxR X (fun x y H Q=>∃p i,x=.ref p∧y=.int i∧∃xs,H p=some (.tup xs)∧∃v,atI xs i=some v∧Q v H):=fun value slice pins s σ H x y v u Q I rx ry h hs =>
 ix_tup value slice pins s σ H x y v u Q I rx ry (by obtain⟨p,i,e1,e2,xs,e3,v,e4,q⟩:=h;exact⟨p,xs,i,v,e1,e2,SqT.of e3,e4,q⟩) hs
theorem z1d:z7d X (.builtin "len") (fun xs H Q=>∃p,xs=[.ref p]∧∃ys,H p=some (.lst ys)∧Q (.int ys.length) H):=fun pins s σ H xs us Q I r h =>
 z4h pins s σ H xs us Q I r (by obtain⟨p,e,ys,e2,q⟩:=h;exact⟨p,ys,e,.inl (SqL.of e2),q⟩)
theorem z7o:z7d X (.type "list") (fun xs H Q=>∃p,xs=[.ref p]∧∃ys,H p=some (.lst ys)∧∀l,H l=none→Q (.ref l) (upd H l (.lst ys))):=fun pins s σ H xs us Q I r h =>
 y4r pins s σ H xs us Q I r (by obtain⟨p,e,ys,e2,q⟩:=h;exact⟨p,ys,e,.inl (SqL.of e2),q⟩)
theorem y8y:SlR X (fun x lo hi H Q=>∃a,x=.ref a∧∃xs,H a=some (.lst xs)∧∀p,H p=none→Q (.ref p) (upd H p (.lst (cutV xs lo hi)))):=fun pins s σ H x v vl vu lo hi sl Q I rx hs pl pu h =>
 x2v pins s σ H x v vl vu lo hi sl Q I rx hs pl pu (by obtain⟨a,e,xs,e2,q⟩:=h;exact⟨a,xs,e,SqL.of e2,q⟩)
theorem x2u {K:PySem.W.Frag}{H:Hp}{p:Addr}{xs:List V}(h:H p=some (.lst xs)):tyV K "list" (.ref p) H:=.inl ⟨rfl,_,SqL.of h⟩
variable {o e:Expr}{es:List Expr}{to:TE}{t:TA}{name:Str}{apos cpos:Pos}{id:String}{r:V→List V→Hp→VK→Prop}
def tLM (r:V→List V→Hp→VK→Prop)(to:TE)(t:TA):TE:=fun σ H Q=>to σ H fun x H1=>∃p,x=.ref p∧(∃xs,H1 p=some (.lst xs))∧t σ H1 fun vs H2=>r (.ref p) vs H2 Q
def tLM0 (r:V→List V→Hp→VK→Prop)(to:TE):TE:=fun σ H Q=>to σ H fun x H1=>∃p,x=.ref p∧(∃xs,H1 p=some (.lst xs))∧r (.ref p) [] H1 Q
theorem x2l (slot:Slot "list" name id)(hty:typeOf (.builtin id)=pure (.type "method_descriptor"))(hm:MtR X id r)(ho:PE X o to)
  (hbase:attributeBase o name X.env (eval o X.env)=eval o X.env:=by rfl)(hline:(apos.endLine == cpos.line)=true:=by rfl):PE X (.Call (.Attribute o name apos) [] [] cpos) (tLM0 r to):=by
 intro pins s σ H Q I h
 refine wpAny_Call_method0_late hbase hline (thn (ho pins s σ H _ I h) fun v s1 ⟨x,H1,I1,r1,p,e1,⟨xs,hx⟩,q1⟩=>?_)
 subst e1
 obtain⟨h1,h2⟩:=x3i I1 r1 (x2u hx)
 exact⟨"list",id,PySem.F.plainAttrs_list,slot,hty,h1,h2,Calls.callWith_builtin rfl (PySem.evalArgs_none (hm pins s1 σ H1 _ [] v [] Q I1 r1 .nil q1))⟩
theorem z9h (slot:Slot "list" name id)(hty:typeOf (.builtin id)=pure (.type "method_descriptor"))(hm:MtR X id r)(ho:PE X o to)(ha:PA X (e::es) t)
  (hbase:attributeBase o name X.env (eval o X.env)=eval o X.env:=by rfl)
  (hfew:((backTo cpos (starEach (e::es) X.env)).all (fun x=>!x.1)&&(backToKw cpos (keywordEach [] X.env)).all (fun x=>x.1.isSome)
  &&decide ((e::es).length+([]:List Keyword).length+(if ([]:List Keyword).isEmpty then 0 else 1)<30))=true:=by rfl)
  (hline:(apos.endLine == cpos.line)=true:=by rfl)(hs:starEach (e::es) X.env=(false,eval e X.env)::starEach es X.env:=by rfl)(hplain:(backTo cpos (starEach es X.env)).any (·.1)=false:=by rfl) :
  PE X (.Call (.Attribute o name apos) (e::es) [] cpos) (tLM r to t):=by
 intro pins s σ H Q I h
 refine wpAny_Call_method_late hbase hfew hline rfl (thn (ho pins s σ H _ I h) fun v s1 ⟨x,H1,I1,r1,p,e1,⟨xs,hx⟩,q1⟩=>?_)
 subst e1
 obtain⟨h1,h2⟩:=x3i I1 r1 (x2u hx)
 refine⟨"list",id,PySem.F.plainAttrs_list,slot,hty,h1,h2,?_⟩
 have hA:=ha cpos pins s1 σ H1 _ I1 q1
 rw[hs]at hA ⊢
 refine Calls.callWith_builtin (by show(false||(backTo cpos (starEach es X.env)).any (·.1))=false;rw[hplain]<;>rfl) (Calls.evalArgs_plain ?_)
 exact thn hA fun us s2 ⟨vs,H2,I2,r2,q2⟩=>hm pins s2 σ H2 _ vs v us Q I2 r1 r2 q2
theorem upd_app {H:Hp}{a b:Addr}{o:HO}:upd H a o b=if b=a then some o else H b:=rfl
theorem z4w {H:Hp}{a b:Addr}{o:HO}:upd H a o b=none↔b≠a∧H b=none:=by
 rw[upd_app]
 by_cases h:b=a<;>simp[h]
theorem atI0 {α:Type}{a:α}{l:List α}:atI (a::l) 0=some a:=by
 have:=z4p (xs:=a::l) (j:=0) (v:=a) rfl
 simpa using this
theorem atI1 {α:Type}{a b:α}{l:List α}:atI (a::b::l) 1=some b:=by
 have:=z4p (xs:=a::b::l) (j:=1) (v:=b) rfl
 simpa using this
theorem atI2 {α:Type}{a b c:α}{l:List α}:atI (a::b::c::l) 2=some c:=by
 have:=z4p (xs:=a::b::c::l) (j:=2) (v:=c) rfl
 simpa using this
theorem z0x:sizeLine=16777216:=sizeLine_eq
end
end L2
namespace L2
open PySem PySem.Spec PyProof.Rows PySem.SeqAt
theorem z5g:plainId "list.__eq__.loop" = true:=by decide +kernel
theorem z9e:entryFor table "list.__eq__.loop" = some Builtin.«list.__eq__.loop»:=entryFor_of_tree (by kernel_rfl)
open AutoSeq1 (wpAny_loadPart')
theorem y5d (l b:Addr)(us ws:Array Value)(n n2:Nat)(hsz:us.size=ws.size)(k:Nat) :
  ∀i:Nat,us.size - i=k→Meets (Builtin.«list.__eq__.loop» ⟨[.ref l,.ref b,rawInt i,rawInt 3],[]⟩)
   (fun A R s=>s.heap.get? l=some { cls:=.type "list",data:=.seq us n }∧s.heap.get? b=some { cls:=.type "list",data:=.seq ws n2 } ∧
    (∀j (h1:j<us.size) (h2:j<ws.size),EqAt A.in1 s us[j] ws[j] true)∧R (.ok (.ret (.bool false))) s):=by
 induction k with
 |zero =>
  intro i hk prog w A R s h
  obtain⟨hp,g,d,tk,os⟩:=s
  obtain⟨hl,hb,he,h⟩:=h
  wp_walk using wpAny_loadPart' hl,wpAny_loadPart' hb
  have hi1:us[((i:Nat):Int).toNat]? = none:=by simp;omega
  have hi2:ws[((i:Nat):Int).toNat]? = none:=by simp;omega
  rw[hi1,hi2]
  wp_walk using wpAny_loadPart' hl,wpAny_loadPart' hb
  show R (.ok (.ret (.bool (us.size != ws.size)))) _
  rw[hsz]
  simpa using h
 |succ k ih =>
  intro i hk prog w A R s h
  obtain⟨hp,g,d,tk,os⟩:=s
  obtain⟨hl,hb,he,h⟩:=h
  wp_walk using wpAny_loadPart' hl,wpAny_loadPart' hb
  have hlt:i<us.size:=by omega
  have hlt2:i<ws.size:=by omega
  have hi1:us[((i:Nat):Int).toNat]? = some us[i]:=by simp[hlt]
  have hi2:ws[((i:Nat):Int).toNat]? = some ws[i]:=by simp[hlt2]
  have hc:((i:Int)+1)=((i+1:Nat):Int):=by omega
  rw[hi1,hi2]
  refine wpAny_bind (he i hlt hlt2 prog w _ _ ?_)
  wp_walk
  rw[hc]
  exact⟨plainId_quiet z5g _,codeAny_builtin z9e (by
   rw[Around.under_plainId z5g _]
   exact ih (i+1) (by omega) prog w A R _ ⟨hl,hb,he,h⟩)⟩
theorem y5a (l b:Addr)(us ws:Array Value)(n n2:Nat)(hsz:us.size=ws.size) :
  Meets (Builtin.«list.__ne__» ⟨[.ref l,.ref b],[]⟩)
   (fun A R s=>s.heap.get? l=some { cls:=.type "list",data:=.seq us n }∧s.heap.get? b=some { cls:=.type "list",data:=.seq ws n2 } ∧
    (∀j (h1:j<us.size) (h2:j<ws.size),EqAt A.in1 s us[j] ws[j] true)∧R (.ok (.ret (.bool false))) s):=by
 intro prog w A R s h
 obtain⟨hp,g,d,tk,os⟩:=s
 obtain⟨hl,hb,he,h⟩:=h
 have f3:=AutoSeq1.sub_list_list
 have hne:¬(us.size != ws.size)=true:=by simp[hsz]
 wp_walk using wpAny_loadPart' hl,wpAny_loadPart' hb
 exact⟨plainId_quiet z5g _,codeAny_builtin z9e (by
  rw[Around.under_plainId z5g _]
  exact y5d l b us ws n n2 hsz _ 0 rfl prog w A R _ ⟨hl,hb,he,h⟩)⟩
theorem y6w (l b:Addr)(us ws:Array Value)(n n2:Nat)(hc0:(us.size != ws.size)=true) :
  Meets (Builtin.«list.__ne__» ⟨[.ref l,.ref b],[]⟩)
   (fun _ R s=>s.heap.get? l=some { cls:=.type "list",data:=.seq us n }∧s.heap.get? b=some { cls:=.type "list",data:=.seq ws n2 }∧R (.ok (.ret (.bool true))) s) :=
 .of_wp fun prog w A R s h=>by
  obtain⟨hp,g,d,tk,os⟩:=s
  obtain⟨hl,hb,h⟩:=h
  have f3:=AutoSeq1.sub_list_list
  wp_walk using wpAny_loadPart' hl,wpAny_loadPart' hb
  exact⟨_,rfl,h⟩
section
variable {X:Cx}
theorem Inv.plainL {pins:List (Addr×Obj)}{σ:St}{H:Hp}{s:Shared}{p:Addr}{xs:List V}(I:Inv X pins σ H s)(h:H p=some (.lst xs)) :
  ∃(its:List Value) (n:Nat),Vals xs its∧s.heap.get? p=some { cls:=.type "list",data:=.seq its.toArray n }:=by
 obtain⟨_,its,n,r,e⟩:=I.hok p _ h
 exact⟨its,n,r,e⟩
theorem y2x:OpR X (compareOp .NotEq) (fun x y H Q=>∃a b,x=.ref a∧y=.ref b∧∃xs,H a=some (.lst xs)∧∃ys,H b=some (.lst ys)∧X.A.units<cLine ∧
  ((xs.length≠ys.length∧Q (.bl true) H)∨(xs.length=ys.length∧(∃n,(∀(i:Nat) x y,xs[i]? = some x→ys[i]? = some y→EqT H n x y)∧X.A.units+n+1<cLine)∧Q (.bl false) H))):=by
 intro pins s σ H x y v u Q I rx ry h
 obtain⟨a,b,rfl,rfl,xs,ha,ys,hb,hu,h⟩:=h
 cases rx
 cases ry
 obtain⟨us,n1,ru,eu⟩:=I.plainL ha
 obtain⟨ws,n2,rw',ew⟩:=I.plainL hb
 have l1:=ru.length
 have l2:=rw'.length
 rcases h with ⟨hl,q⟩|⟨hl,⟨n,h,hn⟩,q⟩
 ·exact richCompare_meets_room (op:=.NotEq) ⟨_,eu,rfl⟩ ⟨_,ew,rfl⟩ F.slot_list_ne F.entry_list_ne (F.args_list_ne_2 _ _) (y6w a b us.toArray ws.toArray n1 n2 (by simp;omega))
   ⟨eu,ew,(show Value.bool true≠Value.notImplemented∧EP X pins σ Q (.bool true) s from⟨(fun z=>nomatch z),⟨.bl true,H,I,rfl,q⟩⟩)⟩ hu
 ·exact richCompare_meets_room (op:=.NotEq) ⟨_,eu,rfl⟩ ⟨_,ew,rfl⟩ F.slot_list_ne F.entry_list_ne (F.args_list_ne_2 _ _) (y5a a b us.toArray ws.toArray n1 n2 (by simp;omega))
   ⟨eu,ew,fun j h1 h2=>EqT.items (X:=X) (H:=H) (n:=n) ru rw' hl (fun i x y e1 e2 _ _ q1 q2=>(h i x y e1 e2).at I q1 q2 (by show X.A.units+1+n<cLine;omega)) j h1 h2,(show Value.bool false≠Value.notImplemented∧EP X pins σ Q (.bool false) s from⟨(fun z=>nomatch z),⟨.bl false,H,I,rfl,q⟩⟩)⟩ hu
theorem z8i:OpR X (compareOp .Eq) (fun x y H Q=>∃a b,x=.ref a∧y=.ref b∧∃xs,H a=some (.lst xs)∧∃ys,H b=some (.lst ys)∧X.A.units<cLine ∧
  ((xs.length≠ys.length∧Q (.bl false) H)∨(xs.length=ys.length∧(∃n,(∀(i:Nat) x y,xs[i]? = some x→ys[i]? = some y→EqT H n x y)∧X.A.units+n+1<cLine)∧Q (.bl true) H))):=by
 intro pins s σ H x y v u Q I rx ry h
 obtain⟨a,b,rfl,rfl,xs,ha,ys,hb,hu,h⟩:=h
 rcases h with ⟨hl,q⟩|⟨hl,⟨n,h,hn⟩,q⟩
 ·cases rx
  cases ry
  obtain⟨us,ru,pu,_⟩:=I.list (SqL.of ha)
  obtain⟨ws,rw',pw,_⟩:=I.list (SqL.of hb)
  exact SeqAt.eq_list_lengthsAt pu.isList pw.isList (by simp[←ru.length,←rw'.length,hl]) hu ⟨.bl false,H,I,rfl,q⟩
 ·exact x0n pins s σ H _ _ v u Q I rx ry ⟨n,a,b,xs,ys,rfl,rfl,ha,hb,hl,h,hn,q⟩
theorem z6u:OpR X (compareOp .In) (fun x y H Q=>∃p,y=.ref p∧∃xs,H p=some (.tup xs)∧z5k x=true∧xs.all z5k=true∧Q (.bl (inV x xs)) H):=fun pins s σ H x y v u Q I rx ry h =>
 y5k pins s σ H x y v u Q I rx ry (by obtain⟨p,e,xs,e2,h1,h2,q⟩:=h;exact⟨p,xs,e,.inr (SqT.of e2),h1,h2,q⟩)
theorem y4t:OpR X (compareOp .In) (fun x y H Q=>∃p,y=.ref p∧∃xs,H p=some (.lst xs)∧z5k x=true∧xs.all z5k=true∧Q (.bl (inV x xs)) H):=fun pins s σ H x y v u Q I rx ry h =>
 y5k pins s σ H x y v u Q I rx ry (by obtain⟨p,e,xs,e2,h1,h2,q⟩:=h;exact⟨p,xs,e,.inl (SqL.of e2),h1,h2,q⟩)
theorem z9b:OpR X (compareOp .NotIn) (fun x y H Q=>∃p,y=.ref p∧∃xs,H p=some (.lst xs)∧z5k x=true∧xs.all z5k=true∧Q (.bl (!inV x xs)) H):=fun pins s σ H x y v u Q I rx ry h =>
 y4u pins s σ H x y v u Q I rx ry (by obtain⟨p,e,xs,e2,h1,h2,q⟩:=h;exact⟨p,xs,e,.inl (SqL.of e2),h1,h2,q⟩)
theorem y3j (k:Str)(ks:List Str):inV (.str k) (ks.map V.str)=decide (k∈ks):=by
 unfold inV
 induction ks with
 |nil=>simp
 |cons a r ih =>
  rw[List.map_cons,List.any_cons,ih,Bool.eq_iff_iff]
  simp[eqV,@eq_comm _ a k]
theorem y1f (ks:List Str):(ks.map V.str).all z5k=true:=by
 induction ks with
 |nil=>rfl
 |cons a r ih=>rw[List.map_cons,List.all_cons,ih];rfl
theorem y7o {prog:Program}{w:World}{A:Around}{its:List Value}{bs:List Bool}(r:Vals (bs.map V.bl) its):TruthOf prog w A (fun i v=>its.toArray[i]? = some v) (fun i=>bs.getD i false):=by
 intro i v s Q E hP hq
 have e:its[i]? = some v:=by simpa using hP
 have hi:i<bs.length:=by
  have:=(List.getElem?_eq_some_iff.mp e).1
  have:=r.length
  simp at this
  omega
 obtain⟨u,eu,ru⟩:=r.get (i:=i) (x:=.bl bs[i]) (by simp[hi])
 rw[e]at eu
 cases eu
 cases(show v=Value.bool bs[i] from ru)
 refine wpAny_truthy_bool ?_
 simpa[hi] using hq
theorem x2g (bs:List Bool)(n:Nat)(h:n=bs.length):(List.range n).all (fun i=>bs.getD i false)=bs.all id:=by
 subst h
 induction bs with
 |nil=>rfl
 |cons b r ih =>
  rw[List.length_cons,List.range_succ_eq_map,List.all_cons,List.all_map,List.all_cons]
  congr 1
theorem y4j (hc:X.calm=true):z7d X (.builtin "all") (fun xs H Q=>∃p,xs=[.ref p]∧∃bs:List Bool,H p=some (.lst (bs.map V.bl))∧Q (.bl (bs.all id)) H):=by
 intro pins s σ H xs us Q I r h
 obtain⟨p,rfl,bs,hp,q⟩:=h
 obtain⟨u,rfl,ru⟩:=z8m r
 cases ru
 obtain⟨its,rv,pl,hz⟩:=I.list (SqL.of hp)
 obtain⟨ol,hol,_⟩:=id pl.isList
 have hlt:=Heap.lt_size hol
 refine call_all_walk (wpAny_pyIter_list pl.isList ⟨s.heap.objs.size,_,_,_,_,_,_,rfl,Walks.list (A:=X.A.in1) (I.ok.hd hc) s.heap.objs.size p (Nat.ne_of_lt hlt) its.toArray,⟨⟨_,Heap.get?_push_size _ rfl,rfl,rfl⟩,pl.isList.push _⟩,y7o rv,fun h' tk hk=>?_⟩)
 rw[x2g bs _ (by have:=rv.length;simp at this;simp[this])]
 have hk':∀b o,s.heap.get? b=some o→h'.get? b=some o:=fun b o e=>hk b o (by simpa using Nat.ne_of_lt (Heap.lt_size e)) (Heap.get?_push_of_some _ e)
 exact⟨.bl (bs.all id),H,I.kept hk',rfl,q⟩
end
end L2
namespace L2
open PySem PySem.Spec PyProof.Rows PySem.SeqAt
section
variable {X:Cx}
theorem DGet.o {H:Hp}{a:Addr}{kvs:List (Key×V)}{k:Str}(e:H a=some (.dK kvs)):DGet H a (.str k) (valV kvs (Sum.inr k)):=DGet.k (k:=Sum.inr k) e
theorem DPut.s {H:Hp}{a:Addr}{kvs:List (Key×V)}{k:Str}{v:V}(e:H a=some (.dK kvs))(hl:kvs.length<sizeLine):DPut H a (.str k) v (upd H a (.dK (putK kvs (Sum.inr k) v))):=DPut.k (k:=Sum.inr k) e hl
def rIndex:V→List V→Hp→VK→Prop:=fun x vs H Q=>∃l,x=.ref l∧∃k,vs=[.str k]∧∃ks:List Str,H l=some (.lst (ks.map V.str))∧∃j:Nat,ks[j]? = some k∧(∀m,m<j→ks[m]? ≠ some k)∧Q (.int j) H
theorem mt_index:MtM X "list.index" rIndex:=by
 intro pins s σ H x vs v us Q I rx rv h
 obtain⟨l,rfl,k,rfl,ks,hH,j,hj,hno,q⟩:=h
 cases rx
 obtain⟨u,rfl,tk,rfl⟩:=rv.one
 obtain⟨z,its,n,r,hl,e⟩:=I.lstM hH
 have hjl:j<ks.length:=(List.getElem?_eq_some_iff.mp hj).1
 have hl':ks.length=its.length:=by simpa using hl
 have h24:=z0x
 have hz:ks.length≤sizeLine:=by simpa using z
 have at_:∀m (hm:m<its.toArray.size),∃t,its.toArray[m]=.str (ks[m]'(by simp at hm;omega)) t:=fun m hm=>by
  have hm':m<ks.length:=by simp at hm;omega
  obtain⟨w',e1,q1⟩:=r.get (i:=m) (x:=.str ks[m]) (by simp[hm'])
  have:its[m]? = some (its.toArray[m]):=by simp at hm;simp[hm]
  rw[this]at e1
  cases e1
  exact q1
 refine call_meets F.slot_list_index ⟨_,e,rfl⟩ F.entry_list_index (F.args_list_index_2 _ _) (SeqAt.list_indexAt l its.toArray n none #[] (.str k tk) (fun v=>match v with | .str y _=>y == k|_=>false) j (by simp;omega) (by omega) ?_ ?_) ⟨e,?_,?_⟩
 ·obtain⟨t,e1⟩:=at_ j (by simp;omega)
  rw[e1]
  have:ks[j]=k:=by rw[List.getElem?_eq_getElem hjl]at hj;exact Option.some.inj hj
  simp[this]
 ·intro m hm hmj
  obtain⟨t,e1⟩:=at_ m hm
  rw[e1]
  have hm':m<ks.length:=by omega
  have:=hno m hmj
  rw[List.getElem?_eq_getElem hm']at this
  simp only
  exact beq_eq_false_iff_ne.mpr fun z=>this (by rw[z])
 ·intro y hy
  obtain⟨m,hm,rfl⟩:=Array.mem_iff_getElem.mp hy
  obtain⟨t,e1⟩:=at_ m hm
  rw[e1]
  exact SeqAt.EqAt.str_str _ _ _ _
 ·exact⟨.int j,H,I.tok _,⟨_,rfl⟩,q⟩
end
end L2
namespace L2
open PySem PySem.Spec PyProof.Rows PySem.SeqAt
section
variable {X:Cx}
theorem Inv.turnsLaid {pins:List (Addr×Obj)}{σ:St}{H:Hp}{s:Shared}{h':Heap}{ch:List Addr}{a:Addr}{o:HO}{t':Nat}(I:Inv X pins σ H s)(k:∀b u,b∉ch→s.heap.get? b=some u→h'.get? b=some u)(f:∀b∈ch,FpOk X pins H b)(hp:s.heap.objs.size≤a)
  (new:ObjOk X.prog X.w (upd H a o) h' a o):Inv X pins σ (upd H a o) { s with heap:=h',toks:=t' }:=by
 have hn:H a=none:=I.hok.fresh hp
 have ne:∀b u,s.heap.get? b=some u→b≠a:=fun b u e=>Nat.ne_of_lt (Nat.lt_of_lt_of_le (Heap.lt_size e) hp)
 have nch:∀b u,H b=some u→b∉ch:=fun b u e z=>by rw[(f b z).1]at e;cases e
 refine I.step (g':=s.gens) (d':=s.drawn) (ch:=ch) (fun b hb=>?_) (fun b u _ _ hc e _=>k b u hc e) (fun b u _ _ hc e _=>⟨u.slots,k b u hc e⟩) (fun b u _ e n=>by rw[z0i (ne b u e)];exact n)
  (fun b u hc e=>⟨u,k b u hc e⟩) (fun b xs e=>by rw[z0i (z0n e hn)];exact e) (fun b u v e=>by rw[z0i (z0n e hn)];exact e) (fun b e=>by rw[z0i (z0n e hn)];exact e) (fun m hm=>?_) (fun b u e=>?_) I.bare
 ·obtain⟨_,f1,_,f3,f4,f5⟩:=f b hb
  exact⟨f3,f1,f4,f5⟩
 ·obtain⟨o',es,ep,ho,r⟩:=hm
  exact⟨o',es,ep,k _ o' (fun z=>(f _ z).2.1 rfl) ho,r⟩
 ·by_cases hb:b=a
  ·subst hb;rw[z0g]at e;cases e;exact new
  ·rw[z0i hb]at e
   refine(I.hok b u e).stay (fun c v hc q=>k c v ?_ q) (fun c q=>by rw[z0i (z0n q hn)];exact q) fun c xs q=>by rw[z0i (z0n q hn)];exact q
   rcases hc with z|z
   ·rw[z];exact nch b u e
   ·exact nch c _ z
theorem Inv.turneds {pins:List (Addr×Obj)}{σ:St}{H:Hp}{s:Shared}{h':Heap}{ch:List Addr}{t':Nat}(I:Inv X pins σ H s)(k:∀b u,b∉ch→s.heap.get? b=some u→h'.get? b=some u)(f:∀b∈ch,FpOk X pins H b):Inv X pins σ H { s with heap:=h',toks:=t' }:=by
 have nch:∀b u,H b=some u→b∉ch:=fun b u e z=>by rw[(f b z).1]at e;cases e
 refine I.step (g':=s.gens) (d':=s.drawn) (ch:=ch) (fun b hb=>?_) (fun b u _ _ hc e _=>k b u hc e) (fun b u _ _ hc e _=>⟨u.slots,k b u hc e⟩) (fun b u _ _ n=>n)
  (fun b u hc e=>⟨u,k b u hc e⟩) (fun b xs e=>e) (fun b u v e=>e) (fun b e=>e) (fun m hm=>?_) (fun b u e=>?_) I.bare
 ·obtain⟨_,f1,_,f3,f4,f5⟩:=f b hb
  exact⟨f3,f1,f4,f5⟩
 ·obtain⟨o',es,ep,ho,r⟩:=hm
  exact⟨o',es,ep,k _ o' (fun z=>(f _ z).2.1 rfl) ho,r⟩
 ·refine(I.hok b u e).stay (fun c v hc q=>k c v ?_ q) (fun c q=>q) fun c xs q=>q
  rcases hc with z|z
  ·rw[z];exact nch b u e
  ·exact nch c _ z
end
end L2
namespace L2
open PySem PySem.Spec PyProof.Rows
structure CScopeG (osc:Scope)(N:List Str)(xs:List Str)(sc:Scope)(M:List Str):Prop where
 kind:sc.kind=.function
 cell:∀y∈sc.names,y.2≠.cell
 names:∀y∈sc.names,y.2=.local→sc.names.lookup y.1=some .local
 free:∀y∈sc.names,y.2=.free→osc.names.lookup y.1=some .cell∨osc.names.lookup y.1=some .free
 ok:namesOk sc N M=true
def x3x (n:Nat)(wi:TI)(g:TG)(tc:TT)(te:TE):TE:=fun σ H Q=>wi σ H fun J H1=>∀D,H1 D=none→∃W:Nat→Nat→List V→Hp→Prop,(∃m,W 0 m [] (upd H1 D (.lst [])))∧∀i m ys H2,W i m ys H2 →
 H2 D=some (.lst ys)∧((J.stop i H2∧Q (.ref D) H2)∨(J.go i H2∧∃N:List V→Hp→Prop,(∀ys' H',N ys' H'→∃m',m' < m∧W (i+1) m' ys' H')∧∀v H3,J.yld i H2 v H3→∀τ:L2.St,τ.length=n→g v (τ++σ) H3 fun σ4 H4=>(∃τ':L2.St,τ'.length=n∧σ4=τ'++σ)∧tc σ4 H4 fun b H5=>if b=true then te σ4 H5 fun y H6=>H6 D=some (.lst ys)∧ys.length<sizeLine∧N (ys++[y]) (upd H6 D (.lst (ys++[y])))
   else N ys H5))
theorem z5t {prog:Program}{w:World}{A:Around}{R:Result→Shared→Prop}{s:Shared}{elt target iter:Expr}{ifs:List Expr}{scope:Scope}{pos:Pos}{it acc:Value}{env:Env}(I:Nat→Shared→Prop)
  (turn:∀n s,I n s→wpAny (model prog w) A (pyNext it) (fun r s₁=>match r with
   |none=>R (.ok .next) s₁
   |some v=>wpAny (model prog w) A (letOwnedTupleGo target it v >>= fun _=>assign target env v) (fun _ s₂ =>
     wpAny (model prog w) A (forIn ifs true fun c r=>if r=true then do let ok ←isTrue c env (eval c env);pure (ForInStep.yield ok) else pure (ForInStep.yield r)) (fun ok s₃ =>
      if ok=true then wpAny (model prog w) A (eval elt env) (fun x s₄ =>
       wpAny (model prog w) A (call (.builtin "list.append") [acc,x]) (fun _ s₅=>∃m,m<n∧I m s₅) (notedBy (model prog w) A env fun e s'=>R (.error e) s') s₄) (notedBy (model prog w) A env fun e s'=>R (.error e) s') s₃
      else ∃m,m<n∧I m s₃) (notedBy (model prog w) A env fun e s'=>R (.error e) s') s₂) (notedBy (model prog w) A env fun e s'=>R (.error e) s') s₁) (notedBy (model prog w) A env fun e s'=>R (.error e) s') s)
  (n:Nat)(h:I n s) :
  codeAny (model prog w) A (.compLoop (.ListComp elt [⟨target,iter,ifs,0⟩] scope pos) 0 it acc env) R s:=by
 refine codeAny_loop rfl I (fun n s hI=>?_) n h
 show wpAny _ A ((compTurn (.ListComp elt [⟨target,iter,ifs,0⟩] scope pos) 0 it acc env).onRaise (fun x=>do noteFrame x env;theTreesLotGoes x)) _ _ s
 refine wpAny_noted ?_
 rw[compTurn_list]
 refine wpAny_bind (wpAny_standAt (wpAny_bind (wpAny_mono (turn n s hI) (fun r s₁ h₁=>?_) fun _ _ h'=>h')))
 cases r with
 |none=>exact wpAny_pure h₁
 |some v =>
  show wpAny _ A (letOwnedTupleGo target it v >>= fun _=>assign target env v >>= _) _ _ s₁
  rw[←bind_assoc]
  refine wpAny_bind (wpAny_mono h₁ (fun _ s₂ h₂=>wpAny_bind (wpAny_mono h₂ (fun ok s₃ h₃=>?_) fun _ _ h'=>h')) fun _ _ h'=>h')
  cases ok with
  |false=>exact wpAny_pure ⟨rfl,h₃⟩
  |true =>
   exact wpAny_bind (wpAny_bind (wpAny_mono h₃ (fun x s₄ h₄=>wpAny_bind (wpAny_mono h₄ (fun _ s₅ h₅=>wpAny_pure (wpAny_pure ⟨rfl,h₅⟩)) fun _ _ h'=>h')) fun _ _ h'=>h'))
section
variable {X:Cx}
theorem y6c {elt iter tg:Expr}{xs:List Str}{pos:Pos}{ifs:List Expr}{sc:Scope}{M:List Str}{pins:List (Addr×Obj)}{σ:L2.St}{H2:Hp}{s2:Shared}{it:Addr}{fp:List Addr}{tn:Nat→Heap→Prop}{J:It}{g:TG}{tc:TT}{te:TE}{Q:VK}
  {RR:Value→Addr→Result→Shared→Prop}{E:Value→Shared→Prop}
  (hc:X.calm=true)(hg:∀pins ex H₀ s₀ C,PG (z3v X sc (xs++M) pins ex H₀ s₀ C) tg g)(S:CScopeG X.env.scope X.N xs sc M)
  (ht:∀pins ex H₀ s₀ C,PF (z3v X sc (xs++M) pins ex H₀ s₀ C) ifs tc)(he:∀pins ex H₀ s₀ C,PE (z3v X sc (xs++M) pins ex H₀ s₀ C) elt te)
  (I2:Inv X pins σ H2 s2)(T:Turn X.prog X.w X.K tg J fp it tn)(st2:tn 0 s2.heap)(f2:∀b∈fp,FpOk X pins H2 b)
  (hw:∀D,H2 D=none→∃W:Nat→Nat→List V→Hp→Prop,(∃m,W 0 m [] (upd H2 D (.lst [])))∧∀i m ys H2,W i m ys H2 →
   H2 D=some (.lst ys)∧((J.stop i H2∧Q (.ref D) H2)∨(J.go i H2∧∃N:List V→Hp→Prop,(∀ys' H',N ys' H'→∃m',m' < m∧W (i+1) m' ys' H')∧∀v H3,J.yld i H2 v H3→∀τ:L2.St,τ.length=xs.length→g v (τ++σ) H3 fun σ4 H4=>(∃τ':L2.St,τ'.length=xs.length∧σ4=τ'++σ)∧tc σ4 H4 fun b H5=>if b=true then te σ4 H5 fun y H6=>H6 D=some (.lst ys)∧ys.length<sizeLine∧N (ys++[y]) (upd H6 D (.lst (ys++[y])))
   else N ys H5)))
  (hRR:∀(D C:Addr) (s':Shared) (H':Hp) (m:Str→Option Value),Inv X pins σ H' s'→s'.heap.Ns C m→H' C=none→s2.heap.objs.size≤C→Q (.ref D) H'→RR (.ref D) C (.ok .next) s') :
  wpAny (model X.prog X.w) X.A (newList []) (fun acc s₃=>wpAny (model X.prog X.w) X.A (newFunctionEnv sc X.env.globals (z6z sc.names X.env.cells []) [] X.env.qual none .none (some X.env)) (fun cenv s₄ =>
   codeAny (model X.prog X.w) X.A (.compStart (.ListComp elt [⟨tg,iter,ifs,0⟩] sc pos) 0 (.ref it) acc { cenv with scope:=relabel sc X.env }) (RR acc cenv.locals) s₄) E s₃) E s2:=by
 obtain⟨W,⟨m0,w0⟩,turn⟩:=hw s2.heap.objs.size I2.fresh
 have hfreeC:∀y∈sc.names,y.2=.free→∃c,X.env.cells.lookup y.1=some c:=fun y hy hf=>I2.ok.has y.1 (S.free y hy hf)
 have clk:∀{y:Str}{c:Addr},(z6z sc.names X.env.cells []).lookup y=some c→X.env.cells.lookup y=some c:=fun {y c} e=>z8z sc.names [] hfreeC (fun z=>by cases z) e
 obtain⟨nlen,nget⟩:=namesOk.get S.ok
 have I3:Inv X pins σ (upd H2 s2.heap.objs.size (.lst [])) { s2 with heap:=s2.heap.push { cls:=.type "list",data:=.seq ([]:List Value).toArray } }:=I2.lnew (its:=[]) (t':=s2.toks) .nil (Nat.zero_le _)
 refine wpAny_newObj_type ?_
 generalize hs3:({ s2 with heap:=s2.heap.push { cls:=.type "list",data:=.seq ([]:List Value).toArray } }:Shared)=s3 at I3
 have e3:s3.heap=s2.heap.push { cls:=.type "list",data:=.seq ([]:List Value).toArray }:=by rw[←hs3]
 have sz3:s3.heap.objs.size=s2.heap.objs.size+1:=by rw[e3,Heap.size_push]
 have up3:∀b o,s2.heap.get? b=some o→s3.heap.get? b=some o:=fun b o e=>by rw[e3];exact Heap.get?_push_of_some _ e
 have st3:tn 0 s3.heap:=T.keep _ _ _ st2 fun b _ o e=>up3 b o e
 have fpL:∀b∈fp,b<s2.heap.objs.size:=fun b hb=>let ⟨_,e,_⟩:=T.obj _ _ st2 b hb;Heap.lt_size e
 have f3:∀b∈fp,FpOk X pins (upd H2 s2.heap.objs.size (.lst [])) b:=fun b hb=>⟨by rw[z0i (Nat.ne_of_lt (fpL b hb))];exact(f2 b hb).1,(f2 b hb).2⟩
 show wpAny _ _ (newFunctionEnv sc X.env.globals (z6z sc.names X.env.cells []) [] X.env.qual none .none (some X.env)) _ _ s3
 refine wpAny_newFunctionEnv S.cell (by intro y hy;simp at hy) (fun h₁ hns₁ hsb₁=>?_) S.kind
 have old:∀b o,s3.heap.get? b=some o→h₁.get? b=some o:=fun b o e=>hsb₁.extBut b o (Nat.ne_of_lt (Heap.lt_size e)) (Heap.get?_push_of_some _ e)
 have cellLt:∀{y:Str}{c:Addr},X.env.cells.lookup y=some c→c<s3.heap.objs.size:=fun {y c} e=>let ⟨_,z⟩:=I3.cell y c e;z.lt
 have locLt:=I3.lt
 generalize hC:s3.heap.objs.size=C at hns₁ hsb₁ cellLt locLt ⊢
 have hle:s2.heap.objs.size≤C:=by rw[←hC,sz3];exact Nat.le_succ _
 let X':Cx:=z3v X sc (xs++M) pins fp (upd H2 s2.heap.objs.size (.lst [])) s3 C
 have ok':X'.Ok:={
  mod:=I3.ok.mod
  kind:=S.kind
  glob:=I3.ok.glob
  blt:=I3.ok.blt
  above:=Nat.le_of_eq hC
  inj:=fun y z c e1 e2=>I3.ok.inj y z c (clk e1) (clk e2)
  has:=fun y hy=>by
   have hf:sc.names.lookup y=some .free:=by
    rcases hy with hy|hy
    ·rcases z7e hy with q|⟨_,q⟩
     ·exact absurd rfl (S.cell _ (z5o q))
     ·exact q
    ·rcases z7e hy with q|⟨q,_⟩
     ·exact q
     ·cases q
   exact Option.isSome_iff_exists.mp (y0n sc.names [] (.inl (z5o hf)))
  cab:=fun y c h _=>by cases h
  hd:=I3.ok.hd
  frames:=I3.ok.frames
  stk:=.inl rfl
  exf:=fun b hb=>⟨Nat.ne_of_lt (Nat.lt_of_lt_of_le (fpL b hb) hle),fun y c e=>(f3 b hb).2.2.2.2.1 y c (clk e)⟩
  bs:=I3.bs
  bsz:=Nat.le_trans I3.ok.bsz I3.sz
  noex:=fun b o e hb=>by
   rcases(f3 b hb).2.2.2.1 with z|z
   ·exact I3.ok.noex b o e z
   ·exact absurd (Nat.lt_of_lt_of_le (Heap.lt_size e) (Nat.le_trans I3.ok.bsz z)) (Nat.lt_irrefl _)
  exfs:=fun b hb z=>by
   rcases List.mem_cons.mp (I3.stkSub b z) with q|q
   ·exact(f3 b hb).2.1 q
   ·exact(f3 b hb).2.2.1 q
  funs:=I3.stack
  frf:=I3.stkFree
  lam:=fun p e=>I3.base.tbls p (I3.ok.lam p e) }
 have seen:∀{h':Heap}{m:Str→Option Value},(∀b o,s3.heap.get? b=some o→h'.get? b=some o)→∀(i:Nat) (y:Str) (v:V),(xs++M)[i]? = some y→(List.replicate xs.length none++σ)[i]? = some (some v)→Vis (relabel sc X.env) y→∃u,RelV v u∧Look (compEnvC sc (z6z sc.names X.env.cells []) C X.env) h' m y u:=by
  intro h' m kp i y v e1 e2 e3
  by_cases hi:i<xs.length
  ·rw[List.getElem?_append_left (by simpa using hi),List.getElem?_replicate,if_pos hi]at e2
   cases e2
  ·obtain⟨i,rfl⟩:∃k,i=xs.length+k:=⟨i - xs.length,by omega⟩
   have e1':M[i]? = some y:=by rw[List.getElem?_append_right (by omega)]at e1;simpa using e1
   have e2':σ[i]? = some (some v):=by rw[List.getElem?_append_right (by simp)]at e2;simpa using e2
   rcases nget i y e1' with q|⟨q1,q2⟩
   ·rcases e3 with z|z|z<;>rcases z7e z with z|⟨_,z⟩<;>rw[q]at z<;>cases z
   ·have ofree:=S.free (y,.free) (z5o q2) rfl
    obtain⟨mo,_,hl⟩:=I3.loc
    obtain⟨u,r,l⟩:=hl i y v q1 e2' (by rcases ofree with z|z;exact .inr (.inl z);exact .inr (.inr z))
    refine⟨u,r,.inr ⟨y6b q2,?_⟩⟩
    rcases l with ⟨z,_⟩|⟨_,c,z1,z2⟩
    ·have z':X.env.scope.names.lookup y=some .local:=z
     rcases ofree with q|q<;>rw[z']at q<;>cases q
    ·obtain⟨c',hc'⟩:=Option.isSome_iff_exists.mp (y0n (cells:=X.env.cells) (y:=y) sc.names [] (.inl (z5o q2)))
     have z3:=clk hc'
     rw[z1]at z3
     cases z3
     obtain⟨o,ho,hd⟩:=z2
     exact⟨c,hc',o,kp c o ho,hd⟩
 have I4:Inv X' [] (List.replicate xs.length none++σ) (upd H2 s2.heap.objs.size (.lst [])) { s3 with heap:=h₁,toks:=s3.toks+([]:List (Str×Value)).length }:={
  ok:=ok'
  os:=rfl
  bare:=I3.bare
  base:=Un.kept old
  loc:=⟨_,hns₁,fun i y v e1 e2 e3=>seen old i y v e1 e2 e3⟩
  cell:=fun y c e=>by
   obtain⟨v,o,ho,hd⟩:=I3.cell y c (clk e)
   exact⟨v,o,old c o ho,hd⟩
  free:=I3.hok.fresh (Nat.le_of_eq hC)
  freeC:=fun y c e=>I3.freeC y c (clk e)
  pin:=fun p hp=>by
   have hp':p∈X.pn++pins:=by simpa[X',z3v] using hp
   obtain⟨e,n,ne,nf,d⟩:=I3.pin p hp'
   refine⟨old _ _ e,n,?_,fun z=>?_,d⟩
   ·exact Nat.ne_of_lt (Nat.lt_of_lt_of_le (Heap.lt_size e) (Nat.le_of_eq hC))
   ·rcases List.mem_cons.mp (I3.stkSub p.1 z) with q|q
    ·exact ne q
    ·exact nf q
  hok:=I3.hok.kept old
  len:=by
   have l3:=I3.len
   show(List.replicate xs.length none++σ).length=(xs++M).length
   rw[List.length_append,List.length_append,List.length_replicate,l3,nlen] }
 have fx:∀{H':Hp},(∀b∈fp,H' b=none)→∀b∈fp,FpOk X' [] H' b:=fun hn b hb=>by
  refine⟨hn b hb,(ok'.exf b hb).1,ok'.exfs b hb,.inl hb,(ok'.exf b hb).2,fun p hp=>?_⟩
  exact(f3 b hb).2.2.2.2.2 p (by simpa[X',z3v] using hp)
 have envE:({ newEnv sc C X.env.globals (z6z sc.names X.env.cells []) X.env.qual none .none (some X.env) builtinsNs with scope:=relabel sc X.env }:Env)=compEnvC sc (z6z sc.names X.env.cells []) C X.env:=rfl
 have loop:codeAny (model X.prog X.w) X.A (.compLoop (.ListComp elt [⟨tg,iter,ifs,0⟩] sc pos) 0 (.ref it) (.ref s2.heap.objs.size) (compEnvC sc (z6z sc.names X.env.cells []) C X.env)) (RR (.ref s2.heap.objs.size) C)
   { s3 with heap:=h₁,toks:=s3.toks+([]:List (Str×Value)).length }:=by
  refine z5t (fun n s'=>∃i ys τ H',τ.length=xs.length∧Inv X' [] (τ++σ) H' s'∧tn i s'.heap∧(∀b∈fp,H' b=none)∧W i n ys H') ?_ m0 ⟨0,[],List.replicate xs.length none,_,by simp,I4,T.keep _ _ _ st3 fun b _ o e=>old b o e,fun b hb=>(f3 b hb).1,w0⟩
  rintro n s' ⟨i,ys,τ0,H',hτ,I',st',fr',w'⟩
  obtain⟨hD,step⟩:=turn i n ys H' w'
  rcases step with ⟨stop,q⟩|⟨go,N,hN,step⟩
  ·refine thn (T.done X' rfl rfl rfl hc i [] s' _ H' _ I' (fx fr') st' stop) fun r s5 ⟨hr,I5⟩=>?_
   subst hr
   obtain⟨m5,hn5,_⟩:=I5.loc
   refine hRR _ C s5 H' m5 ?_ hn5 I5.free hle q
   refine I3.call' (ch:=fp) I5.os I5.base I5.hok I5.bare fun b hb=>?_
   obtain⟨_,z1,_,z3,z4,z5⟩:=f3 b hb
   exact⟨z3,z1,z4,z5⟩
  ·refine thn (T.item X' rfl rfl rfl hc i [] s' _ H' _ I' (fx fr') st' go) fun r s5 ⟨u,hr,h5⟩=>?_
   subst hr
   have h6:wpAny (model X.prog X.w) X.A (letOwnedTupleGo tg (.ref it) u >>= fun _=>assign tg X'.env u) (fun _ s7=>∃(σ7:L2.St) (H7:Hp) (s6:Shared),Inv X' ([]++y2v fp s6.heap) σ7 H7 s7∧tn (i+1) s6.heap∧(∃τ':L2.St,τ'.length=xs.length∧σ7=τ'++σ)∧tc σ7 H7 fun b H5=>if b=true then te σ7 H5 fun y H6=>H6 s2.heap.objs.size=some (.lst ys)∧ys.length<sizeLine∧N (ys++[y]) (upd H6 s2.heap.objs.size (.lst (ys++[y]))) else N ys H5)
     (notedBy (model X.prog X.w) X.A (compEnvC sc (z6z sc.names X.env.cells []) C X.env) fun e s'=>RR (.ref s2.heap.objs.size) C (.error e) s') s5:=by
    refine wpAny_bind (thn h5 fun _ s6 ⟨v,H6,I6,r6,y6,st6,fr6⟩=>?_)
    have I6':=I6.pinned (fx fr6) (T.obj _ _ st6)
    refine wpAny_mono (hg pins fp _ s3 C _ s6 _ H6 v u _ I6' r6 (step v H6 y6 τ0 hτ)) (fun _ s7 ⟨σ7,H7,I7,q7⟩=>?_) fun _ _ z=>z.elim
    exact⟨σ7,H7,s6,I7,st6,q7⟩
   refine wpAny_mono h6 (fun _ s7 ⟨σ7,H7,s6,I7,st6,⟨τ',hτ',eσ⟩,q7⟩=>?_) fun _ _ z=>z
   subst eσ
   have again:∀{σ8:L2.St}{H7:Hp}{s8:Shared},Inv X' ([]++y2v fp s6.heap) σ8 H7 s8→tn (i+1) s8.heap∧∀b∈fp,H7 b=none:=fun {σ8 H7 s8} I8=>by
    refine⟨T.keep _ _ _ st6 fun b hb o e=>(I8.pin (b,o) (List.mem_append_right _ (List.mem_append_right _ (z6t hb e)))).1,fun b hb=>?_⟩
    obtain⟨o,e,d⟩:=T.obj _ _ st6 b hb
    exact(I8.pin (b,o) (List.mem_append_right _ (List.mem_append_right _ (z6t hb e)))).2.1
   refine wpAny_mono (ht pins fp _ s3 C _ s7 _ H7 _ I7 q7) (fun ok s8 ⟨H8,I8,q8⟩=>?_) fun _ _ z=>z.elim
   cases ok with
   |false =>
    rw[if_neg Bool.false_ne_true]at q8 ⊢
    obtain⟨m',hm,w8⟩:=hN _ _ q8
    obtain⟨t8,n8⟩:=again I8
    exact⟨m',hm,i+1,ys,τ',H8,hτ',I8.unpinned,t8,n8,w8⟩
   |true =>
    rw[if_pos rfl]at q8 ⊢
    refine wpAny_mono (he pins fp _ s3 C _ s8 _ H8 _ I8 q8) (fun y s9 ⟨vy,H9,I9,r9,hD9,hz,q9⟩=>?_) fun _ _ z=>z.elim
    refine wpAny_mono (z1p (X:=X') _ s9 _ H9 (.ref s2.heap.objs.size) [vy] (.ref s2.heap.objs.size) [y] (fun _ H'=>H' = upd H9 s2.heap.objs.size (.lst (ys++[vy]))) I9 rfl (.cons r9 .nil) ⟨_,ys,vy,rfl,rfl,hD9,hz,rfl⟩) (fun _ s10 ⟨_,H10,I10,_,e10⟩=>?_) fun _ _ z=>z.elim
    subst e10
    obtain⟨t10,n10⟩:=again I10
    obtain⟨m',hm,w9⟩:=hN _ _ q9
    exact⟨m',hm,i+1,ys++[vy],τ',_,hτ',I10.unpinned,t10,n10,w9⟩
 exact codeAny_compStart_list loop (T.self _ 0 _ _ _ (T.keep _ _ _ st3 fun b _ o e=>old b o e) loop)
theorem pe_compG {elt iter tg:Expr}(xs:List Str){pos:Pos}{ifs:List Expr}{sc:Scope}(M:List Str){wi:TI}{g:TG}{tc:TT}{te:TE}(hc:X.calm=true)(hg:∀pins ex H₀ s₀ C,PG (z3v X sc (xs++M) pins ex H₀ s₀ C) tg g)(S:CScopeG X.env.scope X.N xs sc M)(hi:PI X tg iter wi)
  (ht:∀pins ex H₀ s₀ C,PF (z3v X sc (xs++M) pins ex H₀ s₀ C) ifs tc)(he:∀pins ex H₀ s₀ C,PE (z3v X sc (xs++M) pins ex H₀ s₀ C) elt te)
  (hs:∀v,foldedSetIterable iter X.env v=pure v:=by intro _;rfl):PE X (.ListComp elt [⟨tg,iter,ifs,0⟩] sc pos) (x3x xs.length wi g tc te):=by
 intro pins s σ H Q I h
 rw[eval_ListComp]
 refine wpAny_comprehension_free (use:=none) rfl hs (z7l fun y hy hf=>I.ok.has y.1 (S.free y hy hf)) S.kind S.names (thn (hi pins s σ H _ I h) fun v s1 h1=>thn h1 fun itv s2 h2=>?_)
 obtain⟨it,fp,tn,J,H2,rfl,I2,T,st2,f2,hw⟩:=h2
 refine y6c (RR:=fun acc C=>compPost (model X.prog X.w) X.A X.xe none (EP X pins σ Q) acc C) hc hg S ht he I2 T st2 f2 hw fun D C s' H' m I' hn hC hle q=>?_
 refine⟨m,hn,fun h' hs'=>⟨.ref D,H',?_,rfl,q⟩⟩
 have fC:=I2.fpOk (H':=H') hle hC
 exact I'.turned (t':=s'.toks) (fun b o hb e=>(hs'.2 b hb).trans e) hC fC.2.1 fC.2.2.2.1 fC.2.2.2.2.1 fC.2.2.2.2.2
theorem ps_compG {elt iter tg:Expr}{y:Str}(xs:List Str){py pos spos:Pos}{ifs:List Expr}{sc:Scope}{j:Nat}(M:List Str){wi:TI}{g:TG}{tc:TT}{te:TE}(hN:X.N.Nodup)(hj:X.N[j]? = some y)(hy:X.env.scope.names.lookup y=some .local)(hc:X.calm=true)(hg:∀pins ex H₀ s₀ C,PG (z3v X sc (xs++M) pins ex H₀ s₀ C) tg g)(S:CScopeG X.env.scope X.N xs sc M)(hi:PI X tg iter wi)
  (ht:∀pins ex H₀ s₀ C,PF (z3v X sc (xs++M) pins ex H₀ s₀ C) ifs tc)(he:∀pins ex H₀ s₀ C,PE (z3v X sc (xs++M) pins ex H₀ s₀ C) elt te)
  (hsw:swapsWith (.ListComp elt [⟨tg,iter,ifs,0⟩] sc pos) (some (.Name y py)) spos.line X.env=pure true:=by rfl)
  (hs:∀v,foldedSetIterable iter X.env v=pure v:=by intro _;rfl):PS X (.Assign [.Name y py] (.ListComp elt [⟨tg,iter,ifs,0⟩] sc pos) spos) (tAsg (x3x xs.length wi g tc te) (y2e j)):=by
 intro pins s σ H D I h
 rw[exec_Assign_Name_used _ _ _ _ hsw]
 refine wpAny_bind (wpAny_standAt (wpAny_bind ?_))
 show wpAny _ _ (do let _ ←comprehension (.ListComp elt [⟨tg,iter,ifs,0⟩] sc pos) sc X.env _ (newList []) false (eval iter X.env) (some (assign (.Name y py) X.env))) _ _ s
 refine wpAny_bind (wpAny_mono (wpAny_comprehension_free (use:=some (assign (.Name y py) X.env)) (Q:=fun _ s'=>SP X pins D .next s') rfl hs (z7l fun y hy hf=>I.ok.has y.1 (S.free y hy hf)) S.kind S.names
  (thn (hi pins s σ H _ I h) fun v s1 h1=>thn h1 fun itv s2 h2=>?_)) (fun _ s' hq=>wpAny_pure (wpAny_pure hq)) fun _ _ e=>e)
 obtain⟨it,fp,tn,J,H2,rfl,I2,T,st2,f2,hw⟩:=h2
 refine y6c (Q:=fun x H1=>y2e j x σ H1 D.nx) (RR:=fun acc C=>compPost (model X.prog X.w) X.A X.xe (some (assign (.Name y py) X.env)) (fun _ s'=>SP X pins D .next s') acc C) hc hg S ht he I2 T st2 f2 hw fun D' C s' H' m I' hn hC hle q=>?_
 have fC:=I2.fpOk (H':=H') hle hC
 show wpAny _ _ (assign (.Name y py) X.env (.ref D')) _ _ s'
 refine wpAny_assign_Name (y5y (v:=.ref D') I' hN hj (.inl hy) rfl (fun s3 I3 ⟨a,sb,ha⟩=>?_) (.inr hy))
 have haC:C≠a:=by
  rcases ha with rfl|ha
  ·exact fC.2.1
  ·exact fun z=>fC.2.2.2.2.1 y a ha z.symm
 refine⟨m,hn.sameBut sb haC,fun h' hs'=>⟨_,H',?_,q⟩⟩
 exact I3.turned (t':=s3.toks) (fun b o hb e=>(hs'.2 b hb).trans e) hC fC.2.1 fC.2.2.2.1 fC.2.2.2.2.1 fC.2.2.2.2.2
end
end L2
namespace L2
open PySem PySem.Spec PyProof.Rows
section
variable {X:Cx}
theorem sl_str:SlR X (fun x lo hi H Q=>∃z,x=.str z∧z.length≤sizeLine∧Q (.str (Txt.slice z lo hi)) H):=by
 intro pins s σ H x v vl vu lo hi sl Q I rx hs pl pu h
 obtain⟨z,rfl,hz,q⟩:=h
 obtain⟨t,rfl⟩:=rx
 refine⟨"str",_,F.slot_str_getitem.lookup,typeIs_str _ _ _,?_⟩
 have key:∀(l u:Option (Int×Tok)),vl=partValue l→vu=partValue u→lo=l.map (·.1)→hi=u.map (·.1)→wpAny (model X.prog X.w) X.A (getItem (.str z t) (.ref sl)) (EP X pins σ Q) X.xe s:=by
  intro l u e1 e2 e3 e4
  subst e1 e2 e3 e4
  refine wpAny_getItem_str_slice (l:=l) (u:=u) (st:=none) hs rfl (post_val_or_str ⟨Nat.le_trans (Txt.slice_le z _ _) hz,fun t' k=>?_⟩)
  exact⟨.str _,H,I.tok k,⟨t',rfl⟩,q⟩
 cases pl with
 |none =>
  cases pu with
  |none=>exact key none none rfl rfl rfl rfl
  |int j u=>exact key none (some (j,u)) rfl rfl rfl rfl
 |int i u' =>
  cases pu with
  |none=>exact key (some (i,u')) none rfl rfl rfl rfl
  |int j u=>exact key (some (i,u')) (some (j,u)) rfl rfl rfl rfl
theorem y2y:∀{ts:List Str}{us:List Value},Vals (ts.map V.str) us→∃l:List (Str×Tok),us=strValues l∧l.map (·.1)=ts
 | [],_,.nil=>⟨[],rfl,rfl⟩
 |t::ts,_,.cons r rs=>by
  obtain⟨k,rfl⟩:=r
  obtain⟨l,rfl,e⟩:=y2y rs
  exact⟨(t,k)::l,rfl,by simp[e]⟩
theorem mt_join:MtR X "str.join" (fun x vs H Q=>∃sep p,x=.str sep∧vs=[.ref p]∧∃ts:List Str,H p=some (.lst (ts.map V.str))∧JoinOk sep ts=true∧Q (.str (Txt.join sep ts)) H):=by
 intro pins s σ H x xs v us Q I rx rs h
 obtain⟨sep,p,rfl,rfl,ts,hp,ok,q⟩:=h
 obtain⟨t,rfl⟩:=rx
 obtain⟨u,rfl,ru⟩:=z8m rs
 cases ru
 obtain⟨its,rv,pl,hz⟩:=I.list (SqL.of hp)
 obtain⟨l,rfl,el⟩:=y2y rv
 exact SC.join pl.isList el ok fun t' k=>⟨.str _,H,I.tok k,⟨t',rfl⟩,q⟩
theorem y6u:typeLookup (.type "list") "keys" = pure none:=by rw[typeLookup_type,builtinLookup_eq_fast];kernel_rfl
theorem getAttr?_miss_list {prog:Program}{w:World}{A:Around}{E:Value→Shared→Prop}{s:Shared}{a:Addr}{xs:Array Value}{k:Nat}{Q:Option Value→Shared→Prop}
  (hx:s.heap.get? a=some { cls:=.type "list",data:=.seq xs k })(hA:A.handled=none)
  (h:∀h' tk,(∀b o,s.heap.get? b=some o→h'.get? b=some o)→Q none { s with heap:=h',toks:=tk }) :
  wpAny (model prog w) A (getAttr? (.ref a) "keys") Q E s:=by
 obtain⟨hp,g,d,tk,os⟩:=s
 have hT:∀tk',(⟨hp,g,d,tk',os⟩:Shared).TypeIs (.ref a) "list":=fun _=>⟨_,hx,rfl⟩
 have f1:=sub_AttributeError
 have f3:=F.slot_list_getattribute.lookup
 have f4:=F.slot_list_getattribute.bind (.ref a)
 have f5:=am_list_getattr_none
 unfold getAttr? getAttrBy? getAttrBy
 repeat (any_goals (first|assumption|exact hT _|((with_reducible show wpAny _ _ (call (Value.builtin "list.__getattribute__") _ _) _ _ _);refine call_meets F.slot_list_getattribute (hT _) am_entry_list_getattribute (F.args_list_getattribute_2 _ _) (meets_getattribute_miss_list a xs k #[] "keys" _ y6u (by decide +kernel) (by decide +kernel)) ⟨hx,hA,fun h' tk' e hx'=>?_⟩)|wp_step))
 obtain⟨t',u',he⟩:=hx'.there
 show wpAny _ _ (getattributeRaised _ _ _ _ _ _ _) _ _ _
 unfold getattributeRaised
 repeat (any_goals (first|assumption|wp_step))
 exact h _ _ hx'.keeps
theorem y2k:entryFor table "dict.update.loop" = some Builtin.«dict.update.loop»:=entryFor_of_tree (by kernel_rfl)
theorem z6v:plainId "dict.update.loop" = true:=by decide +kernel
theorem y3m {prog:Program}{w:World}{A:Around}{E:Value→Shared→Prop}{s:Shared}{b:Addr}{its:Array Value}{Q:List Value→Shared→Prop}(h:IsTup s.heap b its)(q:Q its.toList s):wpAny (model prog w) A (Builtin.Dict.pairItems (.ref b)) Q E s:=by
 obtain⟨o,ho,hc,n,hd⟩:=h
 unfold Builtin.Dict.pairItems
 refine wpAny_bind (wpAny_typeOf (show s.TypeIs (.ref b) "tuple" from⟨o,ho,hc⟩) ?_)
 have hT:s.TypeIs (.ref b) "tuple":=⟨o,ho,hc⟩
 obtain⟨hp,g,d,tk,os⟩:=s
 unfold seqItems?
 have hd':o.data=.seq its n:=hd
 obtain⟨c,dct,dat,sl⟩:=o
 subst hd'
 repeat (any_goals (first|assumption|wp_step))
end
end L2
namespace L2
open PySem PySem.Spec PyProof.Rows
def PairAt (h:Heap)(u:Value)(k:Key)(r:Value):Prop:=∃b ku,u=.ref b∧IsTup h b #[ku,r]∧RelV (kV k) ku
section
variable {prog:Program}{w:World}{A:Around}{R:Result→Shared→Prop}
theorem x1n {it l S:Addr}{items:Array Value}(hh:A.in1.handled=none)(hne:l≠it)(hSi:S≠it)(hSl:S≠l)(ps:List (Key×Value))(hps:ps.length=items.size)(hps':ps.length≤sizeLine) :
  ∀(k i:Nat) (s:Shared) (vs:List (Key×Value)),items.size - i=k→i≤items.size→s.heap.IsListIter it l i→s.heap.IsList l items→s.heap.DictOf (z2o prog w) S vs→vs.length≤i →
  (∀(j:Nat) (kv:Key×Value) (u:Value),ps[j]? = some kv→items[j]? = some u→∃b,u=.ref b∧b≠S∧b≠it∧PairAt s.heap u kv.1 kv.2) →
  (∀h' tk,(∀b o,b≠it→b≠S→s.heap.get? b=some o→h'.get? b=some o)→h'.DictOf (z2o prog w) S (merged vs (ps.drop i))→R (.ok (.ret .none)) { s with heap:=h',toks:=tk }) →
  codeAny (model prog w) A (.builtin "dict.update.loop" ⟨[.ref S,.ref it,rawInt i,.none],[]⟩) R s:=by
 intro k
 have W:=(Walks.list (prog:=prog) (w:=w) (A:=A.in1) hh it l hne items)
 induction k with
 |zero =>
  intro i s vs hk hi h1 h2 hd hvl hp hR
  have hin:i=items.size:=by omega
  subst hin
  refine codeAny_builtin y2k ?_
  rw[Around.under_plainId z6v _]
  show wpAny _ A.in1 (pyNext (.ref it) >>= _) _ _ s
  refine wpAny_bind (W.done s _ _ ⟨h1,h2⟩ fun h' tk' hm=>?_)
  show wpAny _ _ (Builtin.Dict.addKeywords S [] >>= _) _ _ _
  refine wpAny_bind (wpAny_pure (wpAny_pure (hR h' tk' (fun b o hb hb' e=>hm b o (by simpa using hb) e) ?_)))
  rw[List.drop_of_length_le (by omega)]
  obtain⟨o,es,ep,g,rest⟩:=hd
  exact⟨o,es,ep,hm S o (by simpa using hSi) g,rest⟩
 |succ k ih =>
  intro i s vs hk hi h1 h2 hd hvl hp hR
  have hlt:i<items.size:=by omega
  have hlt':i<ps.length:=by omega
  refine codeAny_builtin y2k ?_
  rw[Around.under_plainId z6v _]
  show wpAny _ A.in1 (pyNext (.ref it) >>= _) _ _ s
  refine wpAny_bind (W.item i s _ _ hlt ⟨h1,h2⟩ fun v h' tk' hv st' hm=>?_)
  obtain⟨b,eb,nbS,nbi,pa⟩:=hp i ps[i] v (List.getElem?_eq_getElem hlt') hv
  obtain⟨b',ku,e2,ht,rk⟩:=pa
  rw[eb]at e2;cases e2
  subst eb
  have kp:∀c o,c≠it→s.heap.get? c=some o→h'.get? c=some o:=fun c o hc e=>hm c o (by simpa using hc) e
  have ht':IsTup h' b #[ku,ps[i].2]:=by obtain⟨o,ho,r⟩:=ht;exact⟨o,kp b o nbi ho,r⟩
  have hd':h'.DictOf (z2o prog w) S vs:=by
   obtain⟨o,es,ep,g,rest⟩:=hd
   exact⟨o,es,ep,kp S o hSi g,rest⟩
  show wpAny _ A.in1 (holding [Value.ref b] _ >>= _) _ _ _
  refine wpAny_bind (wpAny_holding ?_)
  refine wpAny_bind ?_
  refine wpAny_tryCatch (y3m (s:={ s with heap:=h',toks:=tk' }) ht' ?_)
  show wpAny _ A.in1 (holding [ku,ps[i].2] (dictSet S ku ps[i].2)) _ _ _
  refine wpAny_holding (wpAny_dictSet_pairs (x1x rk) hd' (fun h2' hd2 hs2=>?_) (by omega))
  show wpAny _ A.in1 (again _) _ _ _
  refine wpAny_pure ⟨plainId_quiet z6v _,?_⟩
  have kp2:∀c o,c≠it→c≠S→s.heap.get? c=some o→h2'.get? c=some o:=fun c o hc hc' e=>(hs2.2 c hc').trans (kp c o hc e)
  have ec:((i:Int)+1)=((i+1:Nat):Int):=by omega
  show codeAny _ _ (.builtin "dict.update.loop" ⟨[.ref S,.ref it,rawInt ((i:Int)+1),.none],[]⟩) _ _
  rw[ec]
  refine ih (i+1) _ (stored vs ps[i].1 ps[i].2) (by omega) hlt (st'.1.at fun o e=>(hs2.2 it (Ne.symm hSi)).trans e) (st'.2.at fun o e=>(hs2.2 l (Ne.symm hSl)).trans e) hd2 ?_ ?_ ?_
  ·have:(stored vs ps[i].1 ps[i].2).length≤vs.length+1:=by
    unfold stored
    split
    ·simp
    ·simp
   omega
  ·intro j kv u ej eu
   obtain⟨c,e1,n1,n2,c',ku',e2,t2,r2⟩:=hp j kv u ej eu
   rw[e1]at e2;cases e2
   refine⟨c,e1,n1,n2,c,ku',e1,?_,r2⟩
   obtain⟨o,ho,r⟩:=t2
   exact⟨o,kp2 c o n2 n1 ho,r⟩
  ·intro h3 tk3 k3 d3
   refine hR h3 tk3 (fun c o hc hc' e=>k3 c o hc hc' (kp2 c o hc hc' e)) ?_
   have e4:ps.drop i=ps[i]::ps.drop (i+1):=List.drop_eq_getElem_cons hlt'
   rw[e4]
   exact d3
end
section
variable {X:Cx}
theorem KVs_of:∀{ps:List (Key×V)}{ys:List V}{us:List Value}{H:Hp}{h:Heap},(∀b o,H b=some o→ObjOk X.prog X.w H h b o)→Vals ys us→ps.length=ys.length→(∀(i:Nat) y kv,ys[i]? = some y→ps[i]? = some kv→∃b,y=.ref b∧H b=some (.tup [kV kv.1,kv.2])) →
  ∃qs:List (Key×Value),KV ps qs∧qs.length=ps.length∧∀(j:Nat) kv u,qs[j]? = some kv→us[j]? = some u→∃b,u=.ref b∧(∃o,H b=some o)∧PairAt h u kv.1 kv.2
 | [],[],_,H,h,hok,.nil,_,_=>⟨[],.nil,rfl,fun j kv u e=>by simp at e⟩
 | [],y::ys,_,H,h,hok,_,hl,_=>by simp at hl
 |p::ps,[],_,H,h,hok,_,hl,_=>by simp at hl
 |p::ps,y::ys,_,H,h,hok,.cons (b:=u) (l₂:=us) r rs,hl,hp=>by
  obtain⟨qs,k1,k2,k3⟩:=KVs_of (ps:=ps) (ys:=ys) (us:=us) hok rs (by simpa using hl) fun i y kv e1 e2=>hp (i+1) y kv (by simpa using e1) (by simpa using e2)
  obtain⟨b,rfl,hb⟩:=hp 0 y p rfl rfl
  cases r
  obtain⟨_,its,rv,ht⟩:=hok b _ hb
  obtain⟨ku,u2,rfl,rk,ru⟩:=vals2 rv
  refine⟨(p.1,u2)::qs,.cons ⟨rfl,ru⟩ k1,by simp[k2],fun j kv u e1 e2=>?_⟩
  cases j with
  |zero =>
   simp at e1 e2
   subst e1 e2
   exact⟨b,rfl,⟨_,hb⟩,b,ku,rfl,ht,rk⟩
  |succ j=>exact k3 j kv u (by simpa using e1) (by simpa using e2)
theorem z6c (hc:X.calm=true):z7d X (.type "dict") (fun xs H Q=>∃p ys,xs=[.ref p]∧H p=some (.lst ys)∧∃ps:List (Key×V),ps.length=ys.length∧(∀(i:Nat) y kv,ys[i]? = some y→ps[i]? = some kv→∃b,y=.ref b∧H b=some (.tup [kV kv.1,kv.2])) ∧
  ∀l,H l=none→Q (.ref l) (upd H l (.dK (z6 [] ps)))):=by
 intro pins s σ H xs us Q I r h
 obtain⟨p,ys,rfl,hp,ps,hl,hpair,q⟩:=h
 obtain⟨u,rfl,ru⟩:=z8m r
 cases ru
 obtain⟨hz,its,nn,rv,el⟩:=I.hok p _ hp
 have hlen:=rv.length
 obtain⟨qs,kv1,kv2,kv3⟩:=KVs_of (X:=X) I.hok rv hl hpair
 have lp:p<s.heap.objs.size:=Heap.lt_size el
 refine callType_codes (Q₁:=fun obj s₁=>obj=.ref s.heap.objs.size∧s₁ = { s with heap:=s.heap.push { cls:=.type "dict",data:=.dict #[] } }) F.kt_called_dict (F.kt_typeCall_dict_1 _) F.entry_dict_init (kt_code_dict_new _ ⟨rfl,rfl⟩) ?_
 rintro obj s₁ ⟨rfl,rfl⟩
 have hnew:(s.heap.push { cls:=.type "dict",data:=.dict #[] }).DictOf (z2o X.prog X.w) s.heap.objs.size []:=Heap.DictOf.new s.heap
 refine⟨hnew.typeIs,F.args_dict_init_2 _ _,?_⟩
 unfold Builtin.«dict.__init__»
 refine wpAny_bind ?_
 unfold Builtin.Dict.selfAndRest
 refine wpAny_bind (wpAny_notOrdered_dict hnew.typeIs ?_)
 show wpAny _ _ (pure (s.heap.objs.size,[Value.ref p])) _ _ _
 refine wpAny_pure ?_
 show wpAny _ _ (Builtin.Dict.updateFrom "dict.__init__" s.heap.objs.size (.ref p) [] .none) _ _ _
 unfold Builtin.Dict.updateFrom
 have el1:(s.heap.push { cls:=.type "dict",data:=.dict #[] }).get? p=some { cls:=.type "list",data:=.seq its.toArray nn }:=Heap.get?_push_of_some _ el
 refine wpAny_bind (wpAny_typeOf (show Shared.TypeIs _ (.ref p) "list" from⟨_,el1,rfl⟩) ?_)
 rw[if_pos (by decide)]
 refine wpAny_bind (getAttr?_miss_list el1 (I.ok.hd hc) fun h2 tk2 k2=>?_)
 show wpAny _ _ (rule _ >>= fun _=>pyIter (.ref p) >>= fun it=>again (Code.builtin "dict.update.loop" { pos:=[Value.ref s.heap.objs.size,it,rawInt 0,Value.none] })) _ _ _
 refine wpAny_bind (wpAny_rule ?_)
 have up1:∀b o,s.heap.get? b=some o→h2.get? b=some o:=fun b o e=>k2 b o (Heap.get?_push_of_some _ e)
 have el2:h2.get? p=some { cls:=.type "list",data:=.seq its.toArray nn }:=up1 _ _ el
 have isl2:h2.IsList p its.toArray:=⟨_,el2,rfl,_,rfl⟩
 refine wpAny_bind (wpAny_pyIter_list (s:={ s with heap:=h2,toks:=tk2 }) isl2 ?_)
 have hS2:∃o,h2.get? s.heap.objs.size=some o:=⟨_,k2 _ _ (Heap.get?_push_size _ rfl)⟩
 have ltS:s.heap.objs.size<h2.objs.size:=let ⟨_,e⟩:=hS2;Heap.lt_size e
 have ltp:p<h2.objs.size:=Heap.lt_size el2
 have hd2:h2.DictOf (z2o X.prog X.w) s.heap.objs.size []:=by
  obtain⟨o,es,ep,g,rest⟩:=hnew
  exact⟨o,es,ep,k2 _ _ g,rest⟩
 have hd3:(h2.push { cls:=.type "list_iterator",data:=.fields #[.ref p,.int 0 0] }).DictOf (z2o X.prog X.w) s.heap.objs.size []:=hd2.push _
 refine wpAny_pure ⟨plainId_quiet z6v _,?_⟩
 refine x1n (A:=X.A.in1) (prog:=X.prog) (w:=X.w) (it:=h2.objs.size) (l:=p) (S:=s.heap.objs.size) (items:=its.toArray) (I.ok.hd hc) (Nat.ne_of_lt ltp) (Nat.ne_of_lt ltS) (Nat.ne_of_gt lp) qs (by simp[kv2,hl,hlen]) (by rw[kv2,hl];exact hz) _ 0 { s with heap:=h2.push { cls:=.type "list_iterator",data:=.fields #[.ref p,.int 0 0] },toks:=tk2 } [] rfl (Nat.zero_le _) ⟨_,Heap.get?_push_size _ rfl,rfl,rfl⟩ (isl2.push _) hd3 (Nat.le_refl _) ?_ ?_
 ·intro j kv u e1 e2
  obtain⟨b,rfl,⟨o,hb⟩,b',ku,e3,t3,r3⟩:=kv3 j kv u e1 (by simpa using e2)
  cases e3
  obtain⟨o',ho',rr⟩:=t3
  have lb:b<s.heap.objs.size:=Heap.lt_size ho'
  exact⟨b,rfl,Nat.ne_of_lt lb,Nat.ne_of_lt (Nat.lt_trans lb ltS),b,ku,rfl,⟨o',Heap.get?_push_of_some _ (up1 _ _ ho'),rr⟩,r3⟩
 ·intro h' tk k3 d3
  refine⟨rfl,.ref s.heap.objs.size,upd H s.heap.objs.size (.dK (z6 [] ps)),I.laid (t':=tk) (fun b o e=>?_) (Nat.le_refl _) (dk_new ?_ (beq_eq_false_iff_ne.mpr (Ne.symm (Nat.ne_of_lt I.big))) (KV.merge kv1 .nil) d3),rfl,q _ I.fresh⟩
  ·have lb:b<s.heap.objs.size:=Heap.lt_size e
   exact k3 b o (Nat.ne_of_lt (Nat.lt_trans lb ltS)) (Nat.ne_of_lt lb) (Heap.get?_push_of_some _ (up1 b o e))
  ·have:∀(ps kvs:List (Key×V)),(z6 kvs ps).length≤kvs.length+ps.length:=by
    intro ps
    induction ps with
    |nil=>intro kvs;exact Nat.le_refl _
    |cons a r ih =>
     intro kvs
     have h1:=ih (putK kvs a.1 a.2)
     have h2:=z7h kvs a.1 a.2
     show(z6 (putK kvs a.1 a.2) r).length≤_
     simp only[List.length_cons]
     omega
   have:=this ps []
   simp at this
   omega
end
end L2
namespace L2
open PySem PySem.Spec PyProof.Rows
section
variable {X:Cx}
end
end L2
namespace L2
open PySem PySem.Spec PyProof.Rows PySem.SeqAt
section
variable {X:Cx}
def Itn (a:Addr):It :=
 ⟨fun i H=>∃xs x,H a=some (.lst xs)∧xs[i]? = some x,
 fun i H v H'=>∃t,v=.ref t∧H t=none∧∀xs,H a=some (.lst xs)→∃x,xs[i]? = some x∧H' = upd H t (.tup [.int (i:Int),x]),
 fun i H=>∃xs,H a=some (.lst xs)∧xs[i]? = none⟩
theorem x1h {P:Program}{w:World}{K:PySem.W.Frag}{elts:List Expr}{x1:Nat}{pos:Pos}{l e it:Addr}(nd:e≠it) :
  Turn P w K (.Tuple elts x1 pos) (Itn l) [e,it] e (fun i h=>(∃old,IsEnum h e it ((i:Nat):Int) old)∧h.IsListIter it l i) where
 mem:=by simp
 obj:=fun i h st b hb=>by
  obtain⟨⟨old,h1⟩,⟨o4,e4,c4,d4⟩⟩:=st
  simp only[List.mem_cons,List.not_mem_nil,or_false]at hb
  rcases hb with rfl|rfl
  ·exact⟨_,h1,fun v z=>by cases z⟩
  ·exact⟨_,e4,fun v z=>by rw[d4]at z;cases z⟩
 keep:=fun i h h' ⟨⟨old,h1⟩,h4⟩ k=>⟨⟨old,k e (by simp) _ h1⟩,h4.at fun o q=>k it (by simp) o q⟩
 item:=by
  intro X hP hw hK hc i pins s σ H E I hf st hg
  subst hP hw hK
  obtain⟨⟨old,h1⟩,h4⟩:=st
  obtain⟨xs,x,ha,hx⟩:=hg
  obtain⟨us,ru,pu,_⟩:=I.list (SqL.of ha)
  obtain⟨ux,ex,rx⟩:=ru.get hx
  refine wpAny_pyNext_enum_item h1 h4 pu.isList (x:=ux) (by simpa using ex) nd fun h' a1 a3 a5 a6 a7=>?_
  have I1:Inv X pins σ (upd H s.heap.objs.size (.tup [.int (i:Int),x])) { s with heap:=h',toks:=s.toks+1 }:=I.turnsLaid (t':=s.toks+1) (ch:=[e,it]) (fun b u hb q=>a7 b u (fun z=>hb (by simp[z])) (fun z=>hb (by simp[z])) q)
   hf (Nat.le_refl _) (show ObjOk X.prog X.w _ h' _ (.tup [.int (i:Int),x]) from⟨by show 2≤sizeLine;decide,[_,ux],.cons ⟨_,rfl⟩ (.cons rx .nil),⟨_,a5,rfl,_,rfl⟩⟩)
  have hfr:=I.fresh
  have old':∀b∈[e,it],upd H s.heap.objs.size (.tup [.int (i:Int),x]) b=none:=fun b hb=>by
   rw[z4w]
   refine⟨fun q=>?_,(hf b hb).1⟩
   have ob:∃o,s.heap.get? b=some o:=by
    obtain⟨o4,e4,_⟩:=h4
    simp only[List.mem_cons,List.not_mem_nil,or_false]at hb
    rcases hb with rfl|rfl
    ·exact⟨_,h1⟩
    ·exact⟨_,e4⟩
   obtain⟨o,eo⟩:=ob
   exact absurd (Heap.lt_size eo) (by rw[q];exact Nat.lt_irrefl _)
  refine⟨_,rfl,wpAny_letOwnedTupleGo_enum (s:={ s with heap:=h',toks:=s.toks+1 }) a1 fun h2' b1 b2=>?_⟩
  obtain⟨_,f1,f2,f3,f4⟩:=hf e (by simp)
  have I2:Inv X pins σ (upd H s.heap.objs.size (.tup [.int (i:Int),x])) { s with heap:=h2',toks:=s.toks+1 }:=I1.turned (t':=s.toks+1) (fun b o hb q=>(b2.2 b hb).trans q) (old' e (by simp)) f1 f3 f4.1 f4.2
  refine⟨.ref s.heap.objs.size,_,I2,rfl,⟨_,rfl,hfr,fun xs' q1=>?_⟩,⟨⟨ux,?_⟩,a3.at fun o q=>(b2.2 it (Ne.symm nd)).trans q⟩,old'⟩
  ·rw[ha]at q1;cases q1
   exact⟨x,hx,rfl⟩
  ·have:((i+1:Nat):Int)=(i:Int)+1:=by push_cast;rfl
   rw[this];exact b1
 done:=by
  intro X hP hw hK hc i pins s σ H E I hf st hg
  subst hP hw hK
  obtain⟨⟨old,h1⟩,h4⟩:=st
  obtain⟨xs,ha,hend⟩:=hg
  obtain⟨us,ru,pu,_⟩:=I.list (SqL.of ha)
  refine wpAny_pyNext_enum_end (I.ok.hd hc) h1 h4 pu.isList (by simpa using Vals.none_of ru hend) fun h' hk=>⟨rfl,I.turneds (t':=s.toks) (ch:=[e,it]) (fun b u hb q=>hk b u (fun z=>hb (by simp[z])) q) hf⟩
 self:=fun _ _ _ _ _ st h=>by
  obtain⟨⟨old,h1⟩,_⟩:=st
  exact wpAny_pyIter_enum h1 h
def iEnum (ta:TA):TI:=fun σ H R=>ta σ H fun vs H1=>∃a,vs=[.ref a]∧∃xs,H1 a=some (.lst xs)∧R (Itn a) H1
theorem pi_enum {elts:List Expr}{x1:Nat}{pt:Pos}{e1:Expr}{ta:TA}{p pos:Pos}(hg:Gl X "enumerate")(hm:X.mg "enumerate" = none)(ha:PA X [e1] ta)(hs:starEach [e1] X.env=(false,eval e1 X.env)::starEach [] X.env:=by rfl)(hpl:(backTo pos (starEach [] X.env)).any (·.1)=false:=by rfl) :
  PI X (.Tuple elts x1 pt) (.Call (.Name "enumerate" p) [e1] [] pos) (iEnum ta):=by
 intro pins s σ H R I h
 refine wpAny_Call_Name_kw (z9d I hg hm PyProof.Rows.boot_enumerate ?_)
 refine PyProof.Rows.callWith_type1 (thn (ha pos pins s σ H _ I h) fun us s1 ⟨vs,H1,I1,r1,q1⟩=>?_) hs hpl
 obtain⟨a,rfl,xs,hA,q⟩:=q1
 obtain⟨u,rfl,ru⟩:=z8m r1
 cases ru
 obtain⟨us,ru,pu,_⟩:=I1.list (SqL.of hA)
 refine call_enumerate_list pu.isList fun h' z1 z2 z3 z7=>wpAny_pyIter_enum z1 ?_
 refine⟨s1.heap.objs.size+1,_,_,_,H1,rfl,I1.kept (t':=s1.toks) z7,x1h (by show(_:Nat)≠_;omega),⟨⟨_,z1⟩,z2⟩,fun c hc=>?_,q⟩
 have hge:s1.heap.objs.size≤c:=by
  simp only[List.mem_cons,List.not_mem_nil,or_false]at hc
  rcases hc with rfl|rfl
  ·exact Nat.le_add_right _ _
  ·exact Nat.le_refl _
 exact I1.fpOk hge (I1.hok.fresh hge)
end
end L2
namespace L2
open PySem PySem.Spec PyProof.Rows
def z6b (acc:List Str)(x:Str):List Str:=if x∈acc then acc else acc++[x]
def metS (val:Nat→Str)(i:Nat):List Str:=((List.range i).map val).foldl z6b []
theorem y6z (val:Nat→Str)(i:Nat):metS val (i+1)=z6b (metS val i) (val i):=by
 unfold metS
 rw[List.range_succ,List.map_append,List.foldl_append]
 rfl
theorem y6f (acc:List Str)(x:Str):(z6b acc x).length=if decide (x∈acc)=true then acc.length else acc.length+1:=by
 unfold z6b
 by_cases h:x∈acc<;>simp[h]
theorem x3a (acc:List Str)(x y:Str):decide (y∈z6b acc x)=(decide (y∈acc)||decide (y=x)):=by
 unfold z6b
 by_cases h:x∈acc
 ·rw[if_pos h]
  by_cases e:y=x
  ·subst e;simp[h]
  ·simp[e]
 ·rw[if_neg h];simp
theorem y3y (val:Nat→Str):∀i,(metS val i).length≤i
 |0=>Nat.le_refl _
 |i+1=>by
  have h0:=y3y val i
  rw[y6z,y6f]
  split<;>omega
section
variable {pg:Program}{w:World}{A:Around}{R:Result→Shared→Prop}{J:Addr}{fp wr:List Addr}{G:Array GenState→Array GenState→Prop}{n:Nat}{P:Nat→Value→Prop}{St:Nat→Shared→Prop}
theorem y2w {a:Addr}{M:Str→Bool}{c:Nat}{h1 h2:Heap}(k:∀o,h1.get? a=some o→h2.get? a=some o)(z:h1.SetOf (strKind pg w) a M c):h2.SetOf (strKind pg w) a M c:=by
 obtain⟨o,es,ep,tb,ho,more⟩:=z
 exact⟨o,es,ep,tb,k _ ho,more⟩
theorem y2a (W:WalksS pg w A.in1 J fp wr G n P St)(a:Addr)(out:a∉fp)(val:Nat→Str)(txt:∀i v,P i v→∃t,v=.str (val i) t)(room:n+1<scanBound) :
  ∀(k i:Nat) (s:Shared),n - i=k→i≤n→St i s→s.heap.SetOf (strKind pg w) a (fun c=>decide (c∈metS val i)) (metS val i).length →
   (∀s2,Moved (a::wr) G s s2→s2.heap.SetOf (strKind pg w) a (fun c=>decide (c∈metS val n)) (metS val n).length→R (.ok (.ret .none)) s2) →
   codeAny (model pg w) A (.builtin "set.update.loop" ⟨[.ref a,.ref J],[]⟩) R s:=by
 have outw:a∉wr:=fun z=>out (W.sub _ z)
 have wider:∀b∈wr,b∈a::wr:=fun b q=>List.mem_cons_of_mem _ q
 intro k
 induction k with
 |zero =>
  intro i s ek le st z kR
  have e:i=n:=by omega
  subst e
  refine codeAny_builtin PyProof.Rows.F.entry_set_update_loop ?_
  rw[Around.under_plainId PyProof.Rows.F.plain_set_update_loop _]
  show wpAny _ A.in1 (pyNext (.ref J) >>= _) _ _ s
  refine wpAny_bind (W.done s _ _ st fun s2 mv=>?_)
  show wpAny _ A.in1 (ret Value.none) _ _ s2
  exact wpAny_pure (kR s2 (mv.mono wider) (y2w (fun o q=>mv.heap a o outw q) z))
 |succ k ih =>
  intro i s ek le st z kR
  have lt:i<n:=by omega
  refine codeAny_builtin PyProof.Rows.F.entry_set_update_loop ?_
  rw[Around.under_plainId PyProof.Rows.F.plain_set_update_loop _]
  show wpAny _ A.in1 (pyNext (.ref J) >>= _) _ _ s
  refine wpAny_bind (W.item i s _ _ lt st fun v s2 hP st2 mv=>?_)
  obtain⟨t,rfl⟩:=txt i v hP
  have z2:=y2w (pg:=pg) (w:=w) (fun o q=>mv.heap a o outw q) z
  show wpAny _ A.in1 (holding [Value.str (val i) t] (setAdd a (.str (val i) t)) >>= _) _ _ s2
  refine wpAny_bind (wpAny_holding ?_)
  unfold setAdd
  refine wpAny_holding ?_
  refine wpAny_bind ((strKind pg w).pyHash (k:=val i) (strKind_is _ _ _ _) ?_)
  have few:=y3y val i
  refine wpAny_setAddHashed_of (knd:=strKind pg w) (s:={ s2 with toks:=s2.toks+1 }) (strKind_is _ _ _ _) rfl z2 (by omega) fun h2 sb z3=>?_
  have z4:h2.SetOf (strKind pg w) a (fun c=>decide (c∈metS val (i+1))) (metS val (i+1)).length :=
   PyProof.Rows.SetOf_congr z3 (fun c=>by rw[y6z,x3a]) (by rw[y6z,y6f])
  refine wpAny_pure ⟨plainId_quiet PyProof.Rows.F.plain_set_update_loop _,ih (i+1) _ (by omega) lt (W.frame _ s2 _ _ st2 (Nat.le_succ _) fun b hb o q=>?_) z4 fun s3 mv3 z5=>?_⟩
  ·rw[sb.2 b (fun y:b=a=>out (by rw[←y];exact hb))];exact q
  ·refine kR s3 (Moved.trans W.gtrans ((mv.mono wider).then_heap (Nat.le_succ _) fun b o hb q=>?_) mv3) z5
   rw[sb.2 b (fun y:b=a=>hb (by rw[y];exact List.mem_cons_self))];exact q
end
section
variable {pg:Program}{w:World}{A:Around}{E:Value→Shared→Prop}{s:Shared}
set_option maxHeartbeats 3200000 in
theorem y2c {l:Addr}{its:Array Value}{ks:List Str}{Q:Value→Shared→Prop}(calm:A.handled=none)(lst:s.heap.IsList l its)
  (txt:∀(i:Nat) (v:Value),its[i]? = some v→∃t,v=.str (ks.getD i "") t)(room:its.size+1<scanBound)
  (kQ:∀(h2:Heap) (tk:Nat),h2.SetOf (strKind pg w) s.heap.objs.size (fun c=>decide (c∈metS (fun i=>ks.getD i "") its.size)) (metS (fun i=>ks.getD i "") its.size).length →
   (∀b o,b<s.heap.objs.size→s.heap.get? b=some o→h2.get? b=some o)→Q (.ref s.heap.objs.size) { s with heap:=h2,toks:=tk }) :
  wpAny (model pg w) A (call (.type "set") [.ref l]) Q E s:=by
 obtain⟨c0,c1,mro⟩:=PySem.F.called_set.mro
 have made0:=PySem.F.called_set.made
 have sub0:=PySem.F.called_set.sub
 refine wpAny_call (codeAny_of_tree (?_:wpAny _ _ (callAny (.type "set") _) _ _ _))
 refine wpAny_pure ⟨Code.quiet_builtin _ (by decide +kernel),codeAny_builtin PySem.F.entry_type_call ?_⟩
 rw[Around.under_plain (weight_type_call_type "set" [.ref l] []) rfl]
 have f1:=PySem.F.called_set.notType
 have f2:=PySem.F.called_set.canCreate
 have f3:=PySem.F.typeCall_set_1 (.ref l)
 repeat (any_goals (first|assumption|wp_step))
 refine codeAny_mono (code_set_new_1 (.ref l) (E:=E) (Q₁:=fun ob s2=>∃led:Bool,ob=.ref s.heap.objs.size∧s2 = { s with heap:=s.heap.push (⟨.type "set",none,.set #[] 0 (.fresh 0 0 led),#[]⟩:Obj) }) fun led=>⟨led,rfl,rfl⟩) fun r s2 hr=>?_
 cases r with
 |error e=>exact hr
 |ok fl =>
  cases fl with
  |ret ob =>
   obtain⟨led,rfl,rfl⟩:=hr
   have at0:(s.heap.push (⟨.type "set",none,.set #[] 0 (.fresh 0 0 led),#[]⟩:Obj)).get? s.heap.objs.size=some ⟨.type "set",none,.set #[] 0 (.fresh 0 0 led),#[]⟩:=Heap.get?_push_size _ rfl
   have ty0:Shared.TypeIs { s with heap:=s.heap.push (⟨.type "set",none,.set #[] 0 (.fresh 0 0 led),#[]⟩:Obj) } (.ref s.heap.objs.size) "set":=⟨_,at0,rfl⟩
   have f4:=PySem.F.called_set.init.lookup
   have f5:=PySem.F.called_set.init.bind (.ref s.heap.objs.size)
   repeat (any_goals (first|assumption|wp_step))
   refine codeAny_mono (codeAny_call_builtin (R:=wants (fun r s3=>r=.none∧∃h2 tk,s3 = { s with heap:=h2,toks:=tk } ∧
     h2.SetOf (strKind pg w) s.heap.objs.size (fun c=>decide (c∈metS (fun i=>ks.getD i "") its.size)) (metS (fun i=>ks.getD i "") its.size).length ∧
     (∀b o,b<s.heap.objs.size→s.heap.get? b=some o→h2.get? b=some o)) E) PySem.F.called_set.init.plain PySem.F.entry_set_init (check_set_init_1 ty0 ?_)) fun r3 s3 hr3=>?_
   ·obtain⟨⟨ocls,odict,odata,oslots⟩,ol1,ol2,nl,ol3⟩:=lst
    replace ol2:ocls=.type "list":=ol2
    replace ol3:odata=.seq its nl:=ol3
    subst ol2 ol3
    have ol4:(s.heap.push (⟨.type "set",none,.set #[] 0 (.fresh 0 0 led),#[]⟩:Obj)).get? l=some ⟨.type "list",odict,.seq its nl,oslots⟩:=Heap.get?_push_of_some _ ol1
    have f6:=PySem.F.sub_list_set
    have f7:=PySem.F.sub_list_frozenset
    have f8:(Value.type "list" == Value.type "dict")=false:=by decide
    have lst1:(s.heap.push (⟨.type "set",none,.set #[] 0 (.fresh 0 0 led),#[]⟩:Obj)).IsList l its:=⟨_,ol4,rfl,nl,rfl⟩
    unfold Builtin.«set.__init__» noKeywords Builtin.Frozenset.updateFrom
    generalize ePI:pyIter=PI
    wp_walk
    subst ePI
    refine wpAny_pyIter_list lst1 (wpAny_bind (wpAny_runValue ?_))
    have lt0:l<s.heap.objs.size:=Heap.lt_size ol1
    have calm3:A.in1.in1.in1.handled=none:=by simp[calm]
    have far:l≠(s.heap.push (⟨.type "set",none,.set #[] 0 (.fresh 0 0 led),#[]⟩:Obj)).objs.size:=by
     rw[Heap.size_push];exact Nat.ne_of_lt (Nat.lt_succ_of_lt lt0)
    have out:s.heap.objs.size∉[(s.heap.push (⟨.type "set",none,.set #[] 0 (.fresh 0 0 led),#[]⟩:Obj)).objs.size,l]:=by
     rw[Heap.size_push]
     simp only[List.mem_cons,List.mem_singleton,List.not_mem_nil,or_false,not_or]
     exact⟨Nat.ne_of_lt (Nat.lt_succ_self _),Nat.ne_of_gt lt0⟩
    refine y2a ((Walks.list calm3 _ l far its).toS) s.heap.objs.size out (fun i=>ks.getD i "") txt room (its.size - 0) 0 _ (by omega) (Nat.zero_le _) ⟨⟨_,Heap.get?_push_size _ rfl,rfl,rfl⟩,lst1.push _⟩ ?z0 ?kR
    case z0 =>
     have at1:=Heap.get?_push_of_some (⟨.type "list_iterator",none,.fields #[.ref l,.int 0 0],#[]⟩:Obj) at0
     exact PyProof.Rows.SetOf_congr ((PyProof.Rows.setObjOf_fresh (knd:=strKind pg w) led).setOf at1 (by unfold scanBound;omega)) (fun _=>rfl) rfl
    case kR =>
     rintro⟨h2,g2,d2,tk2,os2⟩ mv z
     have eg:g2=s.gens:=mv.gens
     have ed:d2=s.drawn:=mv.drawn
     have eo:os2=s.os:=mv.os
     subst eg ed eo
     refine(?_:wpAny _ _ _ _ _ _)
     refine wpAny_pure (?_:wpAny _ _ (ret Value.none) _ _ _)
     refine wpAny_pure ⟨rfl,h2,tk2,rfl,z,fun b o hb q=>mv.heap b o ?_ (Heap.get?_push_of_some _ (Heap.get?_push_of_some _ q))⟩
     simp only[List.mem_cons,List.mem_singleton,List.not_mem_nil,or_false,not_or]
     exact⟨Nat.ne_of_lt hb,by rw[Heap.size_push];exact Nat.ne_of_lt (Nat.lt_succ_of_lt hb)⟩
   ·cases r3 with
    |error e=>exact hr3
    |ok fl3 =>
     cases fl3 with
     |ret r =>
      obtain⟨rfl,h2,tk,rfl,z,kk⟩:=hr3
      repeat (any_goals (first|assumption|wp_step))
      exact kQ _ _ z kk
     |_=>exact hr3.elim
  |_=>exact hr.elim
end
section
variable {X:Cx}
def y0r (te:TE):TE:=fun σ H Q=>te σ H fun x H1=>∃(a:Addr) (ks:List Str),x=.ref a∧H1 a=some (.lst (ks.map V.str))∧ks.length≤4000∧Q (.int (metS (fun i=>ks.getD i "") ks.length).length) H1
theorem y4z {e:Expr}{te:TE}{p p2 p3 p4:Pos}(hc:X.calm=true)(gl:Gl X "len")(ml:X.mg "len" = none)(gs:Gl X "set")(ms:X.mg "set" = none)(he:PE X e te)
  (s2:starEach [e] X.env=(false,eval e X.env)::starEach [] X.env:=by rfl)(n2:(backTo p3 (starEach [] X.env)).any (·.1)=false:=by rfl)
  (s1:starEach [.Call (.Name "set" p2) [e] [] p3] X.env=(false,eval (.Call (.Name "set" p2) [e] [] p3) X.env)::starEach [] X.env:=by rfl)(n1:(backTo p4 (starEach [] X.env)).any (·.1)=false:=by rfl) :
  PE X (.Call (.Name "len" p) [.Call (.Name "set" p2) [e] [] p3] [] p4) (y0r te):=by
 intro pins s σ H Q I h
 refine wpAny_Call_Name_kw (z9d I gl ml PySem.boot_len ?_)
 refine PyProof.Rows.callWith_builtin1 ?_ s1 n1
 rw[s1]
 show wpAny _ _ (spliced ((false,eval (.Call (.Name "set" p2) [e] [] p3) X.env)::backTo p4 (starEach [] X.env))) _ _ s
 refine Calls.spliced_cons ?_
 refine wpAny_Call_Name_kw (z9d I gs ms PyProof.Rows.boot_set ?_)
 refine PyProof.Rows.callWith_type1 (thn (z0d he z0j s2 p3 pins s σ H (fun vs H1=>∃(a:Addr) (ks:List Str),vs=[.ref a]∧H1 a=some (.lst (ks.map V.str))∧ks.length≤4000∧Q (.int (metS (fun i=>ks.getD i "") ks.length).length) H1) I ?_) fun us sa ⟨vs,H1,I1,r1,q1⟩=>?_) s2 n2
 ·show te σ H fun x H1=>_
  refine(?_:te σ H _)
  have e:(fun(x:V) (H1:Hp)=>∃(a:Addr) (ks:List Str),x=V.ref a∧H1 a=some (.lst (ks.map V.str))∧ks.length≤4000∧Q (.int (metS (fun i=>ks.getD i "") ks.length).length) H1)=fun x H1=>tNil σ H1 fun vs H2=>∃(a:Addr) (ks:List Str),x::vs=[V.ref a]∧H2 a=some (.lst (ks.map V.str))∧ks.length≤4000∧Q (.int (metS (fun i=>ks.getD i "") ks.length).length) H2:=by
   funext x H1
   simp only[tNil,List.cons.injEq,and_true]
  rw[←e]
  exact h
 ·obtain⟨a,ks,rfl,ha,hl,q⟩:=q1
  obtain⟨u,rfl,ru⟩:=z8m r1
  cases ru
  obtain⟨its,rv,pl,_⟩:=I1.list (SqL.of ha)
  have len:its.length=ks.length:=by have:=rv.length;simp at this;exact this.symm
  refine y2c (ks:=ks) (I1.ok.hd hc) pl.isList (fun i v ev=>?_) (by simp[len,scanBound];omega) fun h2 tk z kk=>?_
  ·have ev':its[i]? = some v:=by simpa using ev
   have hi:i<ks.length:=by rw[←len];exact(List.getElem?_eq_some_iff.mp ev').1
   obtain⟨u,eu,ru⟩:=rv.get (i:=i) (x:=.str (ks.getD i "")) (by simp[hi])
   rw[ev']at eu
   cases eu
   exact ru
  ·refine Calls.spliced_nil ?_
   obtain⟨o,es,ep,tb,ho,ex,hd,_,_,_,hf,hz⟩:=z
   have I2:Inv X pins σ H1 { sa with heap:=h2,toks:=tk }:=I1.kept (t':=tk) fun b o q=>kk b o (Heap.lt_size q) q
   have few:=y3y (fun i=>ks.getD i "") its.toArray.size
   refine call_len_set ho ex hd hf (by rw[hz];simp at few ⊢;omega) ⟨.int (es.size:Int),H1,I2.tok _,⟨_,rfl⟩,?_⟩
   rw[hz]
   simpa[len] using q
end
end L2
namespace L2
open PySem PySem.Spec PyProof.Rows
section
variable {X:Cx}
def tSlR (te:TE):TE:=fun σ H Q=>te σ H fun x H1=>∃a,x=.ref a∧∃xs,H1 a=some (.lst xs)∧∀p,H1 p=none→Q (.ref p) (upd H1 p (.lst xs.reverse))
theorem x1l {e:Expr}{te:TE}{k1:Nat}{p1 p0 p2 pos:Pos}(he:PE X e te):PE X (.Subscript e (.Slice none none (some (.UnaryOp .USub (.Constant (.int 1) k1 p1) p0)) p2) pos) (tSlR te):=by
 intro pins s σ H Q I h
 refine Subscript_ (thn (he pins s σ H _ I h) fun v s1 ⟨x,H1,I1,r1,q1⟩=>?_)
 obtain⟨a,rfl,xs,ha,q⟩:=q1
 cases r1
 refine wpAny_Slice ?_
 rw[evalPart_none]
 refine wpAny_pure (wpAny_pure ?_)
 refine thn (y0m (x0b y2g z1h) pins s1 σ H1 (fun o H2=>o=some (-1)∧H2=H1) I1 ⟨1,rfl,-1,rfl,rfl,rfl⟩) fun vu s3 ⟨o,H3,I3,pu,eo,eH⟩=>?_
 subst eo eH
 have I4:Inv X pins σ H3 { s3 with heap:=s3.heap.push { cls:=.type "slice",data:=.fields #[.none,.none,vu] } }:=I3.kept (t':=s3.toks) fun b ob q=>Heap.get?_push_of_some _ q
 refine(?_:wpAny (model X.prog X.w) X.A (subscriptTail e _ (.ref a) (.ref s3.heap.objs.size)) (EP X pins σ Q) X.xe { s3 with heap:=s3.heap.push { cls:=.type "slice",data:=.fields #[.none,.none,vu] } })
 obtain⟨its,r,ht,hz⟩:=I4.list (SqL.of ha)
 have hlen:=r.length
 refine tail_any (ops:=[.ref a,.ref s3.heap.objs.size]) ht.isList.typeIs slot_list_getitem.lookup ?_ (by with_unfolding_all rfl)
 refine wpAny_getItem_list_slice ht.isList (Heap.IsSliceOf.new ..) .none .none pu (by simp) ?_ (by rw[List.size_toArray]<;>omega)
 rw[PySem.W.krv_pick]
 refine⟨.ref _,_,I4.laid (t':=s3.toks) (o:=.lst xs.reverse) (fun b ob q=>Heap.get?_push_of_some _ q) (Nat.le_refl _) ?_,rfl,q _ (I4.hok.fresh (Nat.le_refl _))⟩
 exact⟨by simpa using hz,its.reverse,0,r.reverse,Heap.get?_push_size _ rfl⟩
end
end L2
namespace VL
open PySem L2
inductive D where
 |non|bl (b:Bool)|int (i:Int)|str (x:Str)|ty (n:String)
 |lst (xs:List D)|tup (xs:List D)|dct (kvs:List (Key×D))
mutual
def Rep (F:Hp):D→V→Prop
 |.non,v=>v=.non
 |.bl b,v=>v=.bl b
 |.int i,v=>v=.int i
 |.str x,v=>v=.str x
 |.ty n,v=>v=.ty n
 |.lst ds,v=>∃a vs,v=.ref a∧F a=some (.lst vs)∧Reps F ds vs
 |.tup ds,v=>∃a vs,v=.ref a∧F a=some (.tup vs)∧Reps F ds vs
 |.dct kds,v=>∃a kvs,v=.ref a∧F a=some (.dK kvs)∧RepK F kds kvs
def Reps (F:Hp):List D→List V→Prop
 | [],vs=>vs=[]
 |d::ds,vs=>∃v r,vs=v::r∧Rep F d v∧Reps F ds r
def RepK (F:Hp):List (Key×D)→List (Key×V)→Prop
 | [],vs=>vs=[]
 |p::ds,vs=>∃v r,vs=v::r∧RepP F p v∧RepK F ds r
def RepP (F:Hp):Key×D→Key×V→Prop
 |(k,d),q=>q.1=k∧Rep F d q.2
end
mutual
theorem Rep.mono {F F':Hp}(s:Same F F'):∀(d:D) (v:V),Rep F d v→Rep F' d v
 |.non,v,h=>h
 |.bl b,v,h=>h
 |.int i,v,h=>h
 |.str x,v,h=>h
 |.ty n,v,h=>h
 |.lst ds,v,h=>by obtain⟨a,vs,e,h1,h2⟩:=h;exact⟨a,vs,e,s _ _ h1,Reps.mono s ds vs h2⟩
 |.tup ds,v,h=>by obtain⟨a,vs,e,h1,h2⟩:=h;exact⟨a,vs,e,s _ _ h1,Reps.mono s ds vs h2⟩
 |.dct kds,v,h=>by obtain⟨a,vs,e,h1,h2⟩:=h;exact⟨a,vs,e,s _ _ h1,RepK.mono s kds vs h2⟩
theorem Reps.mono {F F':Hp}(s:Same F F'):∀(ds:List D) (vs:List V),Reps F ds vs→Reps F' ds vs
 | [],vs,h=>h
 |d::ds,vs,h=>by obtain⟨v,r,e,h1,h2⟩:=h;exact⟨v,r,e,Rep.mono s d v h1,Reps.mono s ds r h2⟩
theorem RepK.mono {F F':Hp}(s:Same F F'):∀(ds:List (Key×D)) (vs:List (Key×V)),RepK F ds vs→RepK F' ds vs
 | [],vs,h=>h
 |p::ds,vs,h=>by obtain⟨v,r,e,h1,h2⟩:=h;exact⟨v,r,e,RepP.mono s p v h1,RepK.mono s ds r h2⟩
theorem RepP.mono {F F':Hp}(s:Same F F'):∀(p:Key×D) (q:Key×V),RepP F p q→RepP F' p q
 |(k,d),q,h=>⟨h.1,Rep.mono s d q.2 h.2⟩
end
theorem Reps.len {F:Hp}:∀{ds:List D}{vs:List V},Reps F ds vs→ds.length=vs.length
 | [],vs,h=>by cases(show vs=[] from h);rfl
 |d::ds,vs,h=>by obtain⟨v,r,rfl,h1,h2⟩:=h;simp[Reps.len h2]
theorem Reps.get {F:Hp}:∀{ds:List D}{vs:List V}{i:Nat}{d:D},Reps F ds vs→ds[i]? = some d→∃v,vs[i]? = some v∧Rep F d v
 | [],vs,i,d,h,e=>by simp at e
 |d::ds,vs,0,d',h,e=>by obtain⟨v,r,rfl,h1,h2⟩:=h;simp at e;subst e;exact⟨v,rfl,h1⟩
 |d::ds,vs,i+1,d',h,e=>by obtain⟨v,r,rfl,h1,h2⟩:=h;simpa using Reps.get h2 (by simpa using e)
theorem Reps.get' {F:Hp}:∀{ds:List D}{vs:List V}{i:Nat}{v:V},Reps F ds vs→vs[i]? = some v→∃d,ds[i]? = some d∧Rep F d v
 | [],vs,i,d,h,e=>by cases(show vs=[] from h);simp at e
 |d::ds,vs,0,d',h,e=>by obtain⟨v,r,rfl,h1,h2⟩:=h;simp at e;subst e;exact⟨d,rfl,h1⟩
 |d::ds,vs,i+1,d',h,e=>by obtain⟨v,r,rfl,h1,h2⟩:=h;simpa using Reps.get' h2 (by simpa using e)
theorem Reps.app {F:Hp}:∀{ds es:List D}{vs us:List V},Reps F ds vs→Reps F es us→Reps F (ds++es) (vs++us)
 | [],es,vs,us,h,h'=>by cases(show vs=[] from h);exact h'
 |d::ds,es,vs,us,h,h'=>by obtain⟨v,r,rfl,h1,h2⟩:=h;exact⟨v,r++us,rfl,h1,Reps.app h2 h'⟩
theorem Reps.one {F:Hp}{d:D}{v:V}(h:Rep F d v):Reps F [d] [v]:=⟨v,[],rfl,h,rfl⟩
theorem Reps.take {F:Hp}:∀{ds:List D}{vs:List V}(n:Nat),Reps F ds vs→Reps F (ds.take n) (vs.take n)
 |_,_,0,_=>by rw[List.take_zero,List.take_zero];rfl
 | [],vs,n+1,h=>by cases(show vs=[] from h);rfl
 |d::ds,vs,n+1,h=>by obtain⟨v,r,rfl,h1,h2⟩:=h;exact⟨v,r.take n,rfl,h1,Reps.take n h2⟩
theorem Reps.drop {F:Hp}:∀{ds:List D}{vs:List V}(n:Nat),Reps F ds vs→Reps F (ds.drop n) (vs.drop n)
 |_,_,0,h=>h
 | [],vs,n+1,h=>by cases(show vs=[] from h);rfl
 |d::ds,vs,n+1,h=>by obtain⟨v,r,rfl,h1,h2⟩:=h;exact Reps.drop n h2
theorem Reps.set {F:Hp}{d:D}{v:V}(h:Rep F d v):∀{ds:List D}{vs:List V}(n:Nat),Reps F ds vs→Reps F (ds.set n d) (vs.set n v)
 | [],vs,n,h=>by cases(show vs=[] from h);rfl
 |d::ds,vs,0,h=>by obtain⟨v',r,rfl,h1,h2⟩:=h;exact⟨_,r,rfl,by assumption,h2⟩
 |d::ds,vs,n+1,h=>by obtain⟨v',r,rfl,h1,h2⟩:=h;exact⟨v',r.set n v,rfl,h1,Reps.set (by assumption) n h2⟩
theorem Reps.rev {F:Hp}:∀{ds:List D}{vs:List V},Reps F ds vs→Reps F ds.reverse vs.reverse
 | [],vs,h=>by cases(show vs=[] from h);rfl
 |d::ds,vs,h=>by
  obtain⟨v',r,rfl,h1,h2⟩:=h
  rw[List.reverse_cons,List.reverse_cons]
  exact(Reps.rev h2).app (.one h1)
theorem Reps.dropLast {F:Hp}{ds:List D}{vs:List V}(h:Reps F ds vs):Reps F ds.dropLast vs.dropLast:=by
 rw[List.dropLast_eq_take,List.dropLast_eq_take,h.len];exact h.take _
inductive Slot where
 |no
 |fz (d:D)
 |ob (io:Bool)(c:D)
 |sc (K:PySem.W.Frag)(ns:List Int)
def Cont (F H:Hp)(a:Addr):D→Prop
 |.lst ds=>∃vs,H a=some (.lst vs)∧Reps F ds vs
 |.dct kds=>∃kvs,H a=some (.dK kvs)∧RepK F kds kvs
 |_=>False
theorem Cont.mono {F F' H H':Hp}{a:Addr}{c:D}(s:Same F F')(e:∀o,H a=some o→H' a=some o)(h:Cont F H a c):Cont F' H' a c:=by
 cases c with
 |lst ds=>obtain⟨vs,h1,h2⟩:=h;exact⟨vs,e _ h1,Reps.mono s _ _ h2⟩
 |dct ds=>obtain⟨vs,h1,h2⟩:=h;exact⟨vs,e _ h1,RepK.mono s _ _ h2⟩
 |_=>exact h.elim
theorem Cont.some {F H:Hp}{a:Addr}{c:D}(h:Cont F H a c):∃o,H a=some o:=by
 cases c with
 |lst ds=>obtain⟨vs,h1,h2⟩:=h;exact⟨_,h1⟩
 |dct ds=>obtain⟨vs,h1,h2⟩:=h;exact⟨_,h1⟩
 |_=>exact h.elim
theorem Cont.rep {F H:Hp}{a:Addr}{c:D}(h:Cont F H a c)(hf:F a=none):∃o,H a=Option.some o∧Rep (upd F a o) c (.ref a):=by
 have s:∀o,Same F (upd F a o):=fun o=>Same.of_new hf
 cases c with
 |lst ds=>obtain⟨vs,h1,h2⟩:=h;exact⟨_,h1,a,vs,rfl,z0g,Reps.mono (s _) _ _ h2⟩
 |dct ds=>obtain⟨vs,h1,h2⟩:=h;exact⟨_,h1,a,vs,rfl,z0g,RepK.mono (s _) _ _ h2⟩
 |_=>exact h.elim
def SOk (H0 F H:Hp)(io:Option Addr)(o:Option V):Slot→Prop
 |.no=>True
 |.fz d=>∃v,o=some v∧Rep F d v
 |.ob b c=>∃a,o=some (.ref a)∧H0 a=none∧F a=none∧Cont F H a c∧(b=true→io=some a)
 |.sc K ns=>∃a,o=some (.ref a)∧SqL K F a (ns.map V.int)
structure EI (io:List (Option Addr))(H0 F0 F:Hp)(δ:List Slot)(σ:St)(H:Hp):Prop where
 base:Same H0 H
 sub:Same F H
 ext:Same F0 F
 new:∀b o,F b=some o→F0 b=none→H0 b=none
 len:δ.length=σ.length
 get:∀i s,δ[i]? = some s→SOk H0 F H (io.getD i none) (σ.getD i none) s
 apart:∀i j b c b' c' a,i≠j→δ[i]? = some (.ob b c)→δ[j]? = some (.ob b' c')→σ.getD i none=some (.ref a)→σ.getD j none=some (.ref a)→False
def rsl:Bool→D→Slot
 |true,d=>.ob false d
 |false,d=>.fz d
section
variable {io:List (Option Addr)}{H0 F0 F:Hp}{δ:List Slot}{σ:St}{H:Hp}
theorem SOk.mono {F' H':Hp}{i:Option Addr}{o:Option V}{s:Slot}(sf:Same F F')(h:SOk H0 F H i o s)(hn:∀a b c,s=.ob b c→o=some (.ref a)→F' a=none∧∀u,H a=some u→H' a=some u):SOk H0 F' H' i o s:=by
 cases s with
 |no=>trivial
 |fz d=>obtain⟨v,e,r⟩:=h;exact⟨v,e,Rep.mono sf _ _ r⟩
 |sc K ns=>obtain⟨a,e,r⟩:=h;exact⟨a,e,sf.seq r⟩
 |ob b c =>
  obtain⟨a,e,h1,h2,h3,h4⟩:=h
  obtain⟨n1,n2⟩:=hn a b c rfl e
  exact⟨a,e,h1,n1,h3.mono sf n2,h4⟩
theorem EI.alloc {p:Addr}{o:HO}(I:EI io H0 F0 F δ σ H)(hp:H p=none):EI io H0 F0 F δ σ (upd H p o) where
 base:=I.base.upd (I.base.free hp)
 sub:=I.sub.upd (I.sub.free hp)
 ext:=I.ext
 new:=I.new
 len:=I.len
 get:=fun i s e=>(I.get i s e).mono (Same.refl _) fun a b c es eo=>by
  have h:=I.get i s e
  subst es
  obtain⟨a',e1,h1,h2,h3,h4⟩:=h
  rw[eo]at e1;cases e1
  obtain⟨u,hu⟩:=h3.some
  exact⟨h2,fun u' hu'=>by rw[z0i (z0n hu hp)];exact hu'⟩
 apart:=I.apart
theorem EI.allocF {p:Addr}{o:HO}(I:EI io H0 F0 F δ σ H)(hp:H p=none):EI io H0 F0 (upd F p o) δ σ (upd H p o) where
 base:=I.base.upd (I.base.free hp)
 sub:=fun b u e=>by
  by_cases hb:b=p
  ·subst hb;rw[z0g]at e ⊢;exact e
  ·rw[z0i hb]at e ⊢;exact I.sub b u e
 ext:=I.ext.upd (I.ext.free (I.sub.free hp))
 new:=fun b u e h=>by
  by_cases hb:b=p
  ·subst hb;exact I.base.free hp
  ·rw[z0i hb]at e;exact I.new b u e h
 len:=I.len
 get:=fun i s e=>(I.get i s e).mono (Same.of_new (I.sub.free hp)) fun a b c es eo=>by
  have h:=I.get i s e
  subst es
  obtain⟨a',e1,h1,h2,h3,h4⟩:=h
  rw[eo]at e1;cases e1
  obtain⟨u,hu⟩:=h3.some
  have ne:=z0n hu hp
  exact⟨by rw[z0i ne];exact h2,fun u' hu'=>by rw[z0i ne];exact hu'⟩
 apart:=I.apart
theorem EI.push {s:Slot}{v:V}(I:EI io H0 F0 F δ σ H)(h:SOk H0 F H none (some v) s)(ha:∀b c a,s=.ob b c→v=.ref a→∀j b' c',δ[j]? = some (.ob b' c')→σ.getD j none=some (.ref a)→False):EI (none::io) H0 F0 F (s::δ) (some v::σ) H where
 base:=I.base
 sub:=I.sub
 ext:=I.ext
 new:=I.new
 len:=by simp[I.len]
 get:=fun i t e=>by
  cases i with
  |zero=>simp at e;subst e;exact h
  |succ i=>simpa using I.get i t (by simpa using e)
 apart:=fun i j b c b' c' a ne e1 e2 e3 e4=>by
  cases i with
  |zero =>
   cases j with
   |zero=>exact ne rfl
   |succ j =>
    simp at e1 e2 e3 e4
    exact ha b c a e1 e3 j b' c' e2 (by simpa using e4)
  |succ i =>
   cases j with
   |zero =>
    simp at e1 e2 e3 e4
    exact ha b' c' a e2 e4 i b c e1 (by simpa using e3)
   |succ j =>
    simp at e1 e2 e3 e4
    exact I.apart i j b c b' c' a (by omega) e1 e2 (by simpa using e3) (by simpa using e4)
theorem EI.pushF {d:D}{v:V}(I:EI io H0 F0 F δ σ H)(h:Rep F d v):EI (none::io) H0 F0 F (.fz d::δ) (some v::σ) H :=
 I.push ⟨v,rfl,h⟩ fun b c a e=>by cases e
theorem EI.pop {x:Option Addr}{s:Slot}{o:Option V}(I:EI (x::io) H0 F0 F (s::δ) (o::σ) H):EI io H0 F0 F δ σ H where
 base:=I.base
 sub:=I.sub
 ext:=I.ext
 new:=I.new
 len:=by simpa using I.len
 get:=fun i t e=>by simpa using I.get (i+1) t (by simpa using e)
 apart:=fun i j b c b' c' a ne e1 e2 e3 e4=>I.apart (i+1) (j+1) b c b' c' a (by omega) (by simpa using e1) (by simpa using e2) (by simpa using e3) (by simpa using e4)
theorem EI.freeze {i:Nat}{c:D}(I:EI io H0 F0 F δ σ H)(e:δ[i]? = some (.ob false c)):∃F' a,Same F F'∧EI io H0 F0 F' (δ.set i (.fz c)) σ H∧σ.getD i none=some (.ref a)∧Rep F' c (.ref a):=by
 obtain⟨a,e1,h1,h2,h3,_⟩:=I.get i _ e
 obtain⟨o,ho,hr⟩:=h3.rep h2
 have hs:Same F (upd F a o):=Same.of_new h2
 refine⟨upd F a o,a,hs,⟨I.base,fun b u eb=>?_,I.ext.trans hs,fun b u eb hb=>?_,by simp[I.len],fun j s ej=>?_,fun j k b c1 b' c' a' ne e1 e2 e3 e4=>?_⟩,e1,hr⟩
 ·by_cases hb:b=a
  ·subst hb;rw[z0g]at eb;cases eb;exact ho
  ·rw[z0i hb]at eb;exact I.sub b u eb
 ·by_cases hb':b=a
  ·subst hb';exact h1
  ·rw[z0i hb']at eb;exact I.new b u eb hb
 ·rw[List.getElem?_set]at ej
  split at ej
  ·rename_i hij
   subst hij
   split at ej
   ·cases ej
    exact⟨_,e1,hr⟩
   ·cases ej
  ·rename_i hij
   refine(I.get j s ej).mono hs fun a' b' c' es eo=>?_
   subst es
   obtain⟨a'',q1,q2,q3,q4,_⟩:=I.get j _ ej
   rw[eo]at q1;cases q1
   refine⟨?_,fun u hu=>hu⟩
   rw[z0i]
   ·exact q3
   ·rintro rfl
    exact I.apart i j _ _ _ _ _ hij e ej e1 eo
 ·rw[List.getElem?_set]at e1 e2
  split at e1
  ·split at e1<;>cases e1
  ·split at e2
   ·split at e2<;>cases e2
   ·exact I.apart j k b c1 b' c' a' ne e1 e2 e3 e4
theorem EI.fr {b:Bool}{d:D}{v:V}(I:EI (none::io) H0 F0 F (rsl b d::δ) (some v::σ) H):∃F',Same F F'∧EI io H0 F0 F' δ σ H∧Rep F' d v:=by
 cases b with
 |false =>
  obtain⟨v',e,r⟩:=I.get 0 _ rfl
  simp at e;subst e
  exact⟨F,Same.refl _,I.pop,r⟩
 |true =>
  obtain⟨F',a,hs,I',e,r⟩:=I.freeze (i:=0) (c:=d) rfl
  simp at e;subst e
  exact⟨F',hs,I'.pop,r⟩
def peek (δ:List Slot)(i:Nat):Option D :=
 match δ[i]? with
 |some (.fz d)=>some d
 |some (.ob _ c)=>some c
 |_=>none
def Pk (F H:Hp)(d:D)(v:V):Prop:=Rep F d v ∨ ∃a,v=.ref a∧Cont F H a d
theorem EI.pk {i:Nat}{d:D}(I:EI io H0 F0 F δ σ H)(e:peek δ i=some d):∃v,σ[i]? = some (some v)∧Pk F H d v:=by
 unfold peek at e
 split at e
 ·rename_i d' h
  cases e
  obtain⟨v,e1,r⟩:=I.get i _ h
  refine⟨v,?_,.inl r⟩
  rw[List.getD_eq_getElem?_getD]at e1
  cases q:σ[i]? with
  |none=>rw[q]at e1;cases e1
  |some o=>rw[q]at e1;simp at e1;rw[e1]
 ·rename_i b c h
  cases e
  obtain⟨a,e1,_,_,h3,_⟩:=I.get i _ h
  refine⟨.ref a,?_,.inr ⟨a,rfl,h3⟩⟩
  rw[List.getD_eq_getElem?_getD]at e1
  cases q:σ[i]? with
  |none=>rw[q]at e1;cases e1
  |some o=>rw[q]at e1;simp at e1;rw[e1]
 ·cases e
theorem Pk.lst {ds:List D}{v:V}(I:EI io H0 F0 F δ σ H)(h:Pk F H (.lst ds) v):∃a vs,v=.ref a∧H a=some (.lst vs)∧Reps F ds vs:=by
 rcases h with ⟨a,vs,e,h1,h2⟩|⟨a,e,vs,h1,h2⟩
 ·exact⟨a,vs,e,I.sub _ _ h1,h2⟩
 ·exact⟨a,vs,e,h1,h2⟩
theorem Pk.tup {ds:List D}{v:V}(I:EI io H0 F0 F δ σ H)(h:Pk F H (.tup ds) v):∃a vs,v=.ref a∧H a=some (.tup vs)∧Reps F ds vs:=by
 rcases h with ⟨a,vs,e,h1,h2⟩|⟨a,e,h⟩
 ·exact⟨a,vs,e,I.sub _ _ h1,h2⟩
 ·exact h.elim
theorem Pk.dct {ds:List (Key×D)}{v:V}(I:EI io H0 F0 F δ σ H)(h:Pk F H (.dct ds) v):∃a vs,v=.ref a∧H a=some (.dK vs)∧RepK F ds vs:=by
 rcases h with ⟨a,vs,e,h1,h2⟩|⟨a,e,vs,h1,h2⟩
 ·exact⟨a,vs,e,I.sub _ _ h1,h2⟩
 ·exact⟨a,vs,e,h1,h2⟩
theorem Pk.int {i:Int}{v:V}(h:Pk F H (.int i) v):v=.int i:=by
 rcases h with h|⟨a,e,h⟩
 ·exact h
 ·exact h.elim
theorem Pk.str {x:Str}{v:V}(h:Pk F H (.str x) v):v=.str x:=by
 rcases h with h|⟨a,e,h⟩
 ·exact h
 ·exact h.elim
theorem Pk.bl {x:Bool}{v:V}(h:Pk F H (.bl x) v):v=.bl x:=by
 rcases h with h|⟨a,e,h⟩
 ·exact h
 ·exact h.elim
theorem Pk.non {v:V}(h:Pk F H .non v):v=.non:=by
 rcases h with h|⟨a,e,h⟩
 ·exact h
 ·exact h.elim
theorem EI.setv {i:Nat}{b:Bool}{d:D}{v:V}(I:EI (none::io) H0 F0 F (rsl b d::δ) (some v::σ) H)(hn:∀c,δ[i]? ≠ some (.ob true c))(hi:i<δ.length):EI io H0 F0 F (δ.set i (rsl b d)) (σ.set i (some v)) H:=by
 have J:=I.pop
 refine⟨I.base,I.sub,I.ext,I.new,by simpa using J.len,fun j s e=>?_,fun j k b1 c1 b2 c2 a ne e1 e2 e3 e4=>?_⟩
 ·rw[List.getElem?_set]at e
  split at e
  ·rename_i hij
   subst hij
   cases e
   have hl:i<σ.length:=by rw[←J.len];exact hi
   have h0:=I.get 0 _ rfl
   simp[List.getD_eq_getElem?_getD,hl]
   cases b with
   |false=>obtain⟨v',e',r⟩:=h0;simp at e';subst e';exact⟨v,rfl,r⟩
   |true=>obtain⟨a,e',h1,h2,h3,h4⟩:=h0;simp at e';subst e';exact⟨a,rfl,h1,h2,h3,fun z=>by cases z⟩
  ·rename_i hij
   have:=J.get j s e
   simp only[List.getD_eq_getElem?_getD]at this ⊢
   rw[List.getElem?_set_ne hij]
   exact this
 ·have hl:i<σ.length:=by rw[←J.len];exact hi
  have key:∀{j:Nat}{b' c' b1 c1 a},j≠i→(rsl b d)=.ob b1 c1→δ[j]? = some (.ob b' c')→v=.ref a→σ.getD j none=some (.ref a)→False:=fun {j b' c' b1 c1 a} hj e1 e2 e3 e4 =>
   I.apart 0 (j+1) b1 c1 b' c' a (by omega) (by simp[e1]) (by simpa using e2) (by simp[e3]) (by simpa using e4)
  rw[List.getElem?_set]at e1 e2
  rw[List.getD_eq_getElem?_getD,List.getElem?_set]at e3 e4
  by_cases hj:i=j
  ·subst hj
   by_cases hk:i=k
   ·exact ne hk
   ·rw[if_pos rfl,if_pos hi]at e1
    rw[if_pos rfl,if_pos hl]at e3
    rw[if_neg hk]at e2 e4
    exact key (fun z=>hk z.symm) (Option.some.inj e1) e2 (by simpa using e3) (by simpa[List.getD_eq_getElem?_getD] using e4)
  ·rw[if_neg hj]at e1 e3
   by_cases hk:i=k
   ·subst hk
    rw[if_pos rfl,if_pos hi]at e2
    rw[if_pos rfl,if_pos hl]at e4
    exact key (fun z=>hj z.symm) (Option.some.inj e2) e1 (by simpa using e4) (by simpa[List.getD_eq_getElem?_getD] using e3)
   ·rw[if_neg hk]at e2 e4
    exact J.apart j k b1 c1 b2 c2 a ne e1 e2 (by simpa[List.getD_eq_getElem?_getD] using e3) (by simpa[List.getD_eq_getElem?_getD] using e4)
theorem EI.forget {i:Nat}(I:EI io H0 F0 F δ σ H):EI io H0 F0 F (δ.set i .no) σ H:=by
 refine⟨I.base,I.sub,I.ext,I.new,by simpa using I.len,fun j s e=>?_,fun j k b1 c1 b2 c2 a ne e1 e2 e3 e4=>?_⟩
 ·rw[List.getElem?_set]at e
  split at e
  ·split at e
   ·cases e;trivial
   ·cases e
  ·exact I.get j s e
 ·rw[List.getElem?_set]at e1 e2
  split at e1
  ·split at e1<;>cases e1
  ·split at e2
   ·split at e2<;>cases e2
   ·exact I.apart j k b1 c1 b2 c2 a ne e1 e2 e3 e4
theorem EI.change {i:Nat}{b:Bool}{c c':D}{a:Addr}{o:HO}(I:EI io H0 F0 F δ σ H)(e:δ[i]? = some (.ob b c))(ea:σ.getD i none=some (.ref a))(hc:Cont F (upd H a o) a c'):EI io H0 F0 F (δ.set i (.ob b c')) σ (upd H a o):=by
 obtain⟨a',e1,h1,h2,h3,h4⟩:=I.get i _ e
 rw[ea]at e1;cases e1
 refine⟨I.base.upd h1,I.sub.upd h2,I.ext,I.new,by simpa using I.len,fun j s ej=>?_,fun j k b1 c1 b2 c2 a' ne e1 e2 e3 e4=>?_⟩
 ·rw[List.getElem?_set]at ej
  split at ej
  ·rename_i hij
   subst hij
   split at ej
   ·cases ej
    exact⟨a,ea,h1,h2,hc,h4⟩
   ·cases ej
  ·rename_i hij
   refine(I.get j s ej).mono (Same.refl _) fun a' b' c' es eo=>?_
   subst es
   obtain⟨a'',q1,q2,q3,q4,_⟩:=I.get j _ ej
   rw[eo]at q1;cases q1
   refine⟨q3,fun u hu=>?_⟩
   rw[z0i]
   ·exact hu
   ·rintro rfl
    exact I.apart i j _ _ _ _ _ hij e ej ea eo
 ·have key:∀{j:Nat}{b1:Bool}{c1:D},(δ.set i (.ob b c'))[j]? = some (Slot.ob b1 c1)→∃b2 c2,δ[j]? = some (Slot.ob b2 c2):=fun {j b1 c1} h=>by
   rw[List.getElem?_set]at h
   split at h
   ·rename_i hij;subst hij;exact⟨_,_,e⟩
   ·exact⟨_,_,h⟩
  obtain⟨b3,c3,q1⟩:=key e1
  obtain⟨b4,c4,q2⟩:=key e2
  exact I.apart j k _ _ _ _ a' ne q1 q2 e3 e4
end
end VL
namespace VL
open PySem L2
abbrev TEd:=List Slot→(Bool→D→List Slot→Prop)→Prop
abbrev TTd:=List Slot→(Bool→List Slot→Prop)→Prop
abbrev TLd:=List Slot→(List D→List Slot→Prop)→Prop
structure EndsD where
 nx:List Slot→Prop
 rt:Bool→D→List Slot→Prop
 bk:List Slot→Prop:=fun _=>False
 ct:List Slot→Prop:=fun _=>False
abbrev TSd:=EndsD→List Slot→Prop
abbrev TGd:=D→List Slot→(List Slot→Prop)→Prop
def Sim (te:TE)(td:TEd):Prop:=∀(io:List (Option Addr)) (H0 F0 F:Hp) (δ:List Slot) (σ:St) (H:Hp) (Q:VK) (Qd:Bool→D→List Slot→Prop),EI io H0 F0 F δ σ H→td δ Qd →
 (∀b d v δ' F' H',Same F F'→EI (none::io) H0 F0 F' (rsl b d::δ') (some v::σ) H'→Qd b d δ'→Q v H')→te σ H Q
def SimT (te:TT)(td:TTd):Prop:=∀(io:List (Option Addr)) (H0 F0 F:Hp) (δ:List Slot) (σ:St) (H:Hp) (Q:Bool→Hp→Prop) (Qd:Bool→List Slot→Prop),EI io H0 F0 F δ σ H→td δ Qd →
 (∀b δ' F' H',Same F F'→EI io H0 F0 F' δ' σ H'→Qd b δ'→Q b H')→te σ H Q
def SimL (te:TA)(td:TLd):Prop:=∀(io:List (Option Addr)) (H0 F0 F:Hp) (δ:List Slot) (σ:St) (H:Hp) (Q:List V→Hp→Prop) (Qd:List D→List Slot→Prop),EI io H0 F0 F δ σ H→td δ Qd →
 (∀ds vs δ' F' H',Same F F'→EI io H0 F0 F' δ' σ H'→Reps F' ds vs→Qd ds δ'→Q vs H')→te σ H Q
def SimG (g:TG)(gd:TGd):Prop:=∀(io:List (Option Addr)) (H0 F0 F:Hp) (δ:List Slot) (σ:St) (H:Hp) (d:D) (v:V) (Q:St→Hp→Prop) (Qd:List Slot→Prop),EI io H0 F0 F δ σ H→Rep F d v→gd d δ Qd →
 (∀δ' σ',EI io H0 F0 F δ' σ' H→Qd δ'→Q σ' H)→g v σ H Q
structure ESim (io:List (Option Addr))(H0 F0 F:Hp)(Ed:EndsD)(E:Ends):Prop where
 nx:∀F' δ' σ' H',Same F F'→EI io H0 F0 F' δ' σ' H'→Ed.nx δ'→E.nx σ' H'
 rt:∀b d v F' δ' σ' H',Same F F'→EI (none::io) H0 F0 F' (rsl b d::δ') (some v::σ') H'→Ed.rt b d δ'→E.rt v H'
 bk:∀F' δ' σ' H',Same F F'→EI io H0 F0 F' δ' σ' H'→Ed.bk δ'→E.bk σ' H'
 ct:∀F' δ' σ' H',Same F F'→EI io H0 F0 F' δ' σ' H'→Ed.ct δ'→E.ct σ' H'
theorem ESim.mono {io:List (Option Addr)}{H0 F0 F F1:Hp}{Ed:EndsD}{E:Ends}(s:Same F F1)(h:ESim io H0 F0 F Ed E):ESim io H0 F0 F1 Ed E :=
 ⟨fun F' δ' σ' H' q=>h.nx F' δ' σ' H' (s.trans q),fun b d v F' δ' σ' H' q=>h.rt b d v F' δ' σ' H' (s.trans q),fun F' δ' σ' H' q=>h.bk F' δ' σ' H' (s.trans q),fun F' δ' σ' H' q=>h.ct F' δ' σ' H' (s.trans q)⟩
def SimS (t:TS)(td:TSd):Prop:=∀(io:List (Option Addr)) (H0 F0 F:Hp) (δ:List Slot) (σ:St) (H:Hp) (E:Ends) (Ed:EndsD),EI io H0 F0 F δ σ H→td Ed δ→ESim io H0 F0 F Ed E→t E σ H
def DE (X:Cx)(e:Expr)(td:TEd):Prop:=∃te,PE X e te∧Sim te td
def DT (X:Cx)(e:Expr)(td:TTd):Prop:=∃te,PT X e te∧SimT te td
def DW (X:Cx)(e:Expr)(td:TTd):Prop:=∃te,PW X e te∧SimT te td
def DL (X:Cx)(es:List Expr)(td:TLd):Prop:=∃te,PA X es te∧SimL te td
def DG (X:Cx)(e:Expr)(gd:TGd):Prop:=∃g,PG X e g∧SimG g gd
def DS (X:Cx)(s:Stmt)(td:TSd):Prop:=∃t,PS X s t∧SimS t td
def DSs (X:Cx)(s:List Stmt)(td:TSd):Prop:=∃t,PSs X s t∧SimS t td
section
variable {io:List (Option Addr)}{H0 F0 F:Hp}{δ:List Slot}{σ:St}{H:Hp}
theorem Sim.fz {te:TE}{td:TEd}(s:Sim te td){Q:VK}{Qd:D→List Slot→Prop}(I:EI io H0 F0 F δ σ H)(h:td δ fun _ d δ'=>Qd d δ')
  (k:∀d v δ' F' H',Same F F'→EI io H0 F0 F' δ' σ H'→Rep F' d v→Qd d δ'→Q v H'):te σ H Q :=
 s io H0 F0 F δ σ H Q _ I h fun b d v δ' F' H' sf I' q=>by
  obtain⟨F2,s2,I2,r⟩:=I'.fr
  exact k d v δ' F2 H' (sf.trans s2) I2 r q
theorem z2n {o:V}{i:Nat}(h:σ.getD i none=some o):σ[i]? = some (some o):=by
 rw[List.getD_eq_getElem?_getD]at h
 cases q:σ[i]? with
 |none=>rw[q]at h;cases h
 |some z=>rw[q]at h;simp at h;rw[h]
end
def dC (d:D):TEd:=fun δ Q=>Q false d δ
theorem y9s {d:D}{v:V}(h:∀F,Rep F d v):Sim (tC v) (dC d):=fun io H0 F0 F δ σ H Q Qd I q k=>k false d v δ F H (Same.refl _) (I.pushF (h F)) q
def dVar (i:Nat):TEd:=fun δ Q =>
 match δ[i]? with
 |some (.fz d)=>Q false d δ
 |some (.ob false c)=>Q false c (δ.set i (.fz c))
 |_=>False
def dMv (i:Nat):TEd:=fun δ Q =>
 match δ[i]? with
 |some (.fz d)=>Q false d δ
 |some (.ob false c)=>Q true c (δ.set i .no)
 |_=>False
theorem sim_var (i:Nat):Sim (tVar i) (dVar i):=by
 intro io H0 F0 F δ σ H Q Qd I q k
 unfold dVar at q
 split at q
 ·rename_i d h
  obtain⟨v,e,r⟩:=I.get i _ h
  exact⟨v,z2n e,k false d v δ F H (Same.refl _) (I.pushF r) q⟩
 ·rename_i c h
  obtain⟨F',a,sf,I',e,r⟩:=I.freeze h
  exact⟨.ref a,z2n e,k false c (.ref a) _ F' H sf (I'.pushF r) q⟩
 ·exact q.elim
theorem sim_mv (i:Nat):Sim (tVar i) (dMv i):=by
 intro io H0 F0 F δ σ H Q Qd I q k
 unfold dMv at q
 split at q
 ·rename_i d h
  obtain⟨v,e,r⟩:=I.get i _ h
  exact⟨v,z2n e,k false d v δ F H (Same.refl _) (I.pushF r) q⟩
 ·rename_i c h
  obtain⟨a,e,h1,h2,h3,h4⟩:=I.get i _ h
  refine⟨.ref a,z2n e,k true c (.ref a) _ F H (Same.refl _) (I.forget.push ⟨a,rfl,h1,h2,h3,fun z=>by cases z⟩ ?_) q⟩
  intro b c' a' es ev j b2 c2 ej eo
  cases ev
  rw[List.getElem?_set]at ej
  split at ej
  ·split at ej<;>cases ej
  ·rename_i hij
   exact I.apart i j _ _ _ _ a hij h ej e eo
 ·exact q.elim
section
variable {X:Cx}{pos:Pos}
theorem z0f {i j pos}:DE X (.Constant (.int i) j pos) (dC (.int i)):=⟨_,z1h,y9s fun _=>rfl⟩
theorem y9x {b j pos}:DE X (.Constant (.bool b) j pos) (dC (.bl b)):=⟨_,y1w,y9s fun _=>rfl⟩
theorem de_non {j pos}:DE X (.Constant .none j pos) (dC .non):=⟨_,z6h,y9s fun _=>rfl⟩
theorem z0l {x j pos}:DE X (.Constant (.str x) j pos) (dC (.str x)):=⟨_,z1t,y9s fun _=>rfl⟩
theorem dv (i:Nat){x:Str}{pos:Pos}(hN:X.N[i]? = some x:=by rfl)(hv:Vis X.env.scope x:=by first|exact Or.inl rfl|exact Or.inr (Or.inl rfl)|exact Or.inr (Or.inr rfl))(hd:(x == ("__debug__":Str))=false:=by decide)
  (hcd:(x == ("__classdict__":Str))=false:=by decide):DE X (.Name x pos) (dVar i):=⟨_,y1m hN hv hd hcd,sim_var i⟩
theorem dm (i:Nat){x:Str}{pos:Pos}(hN:X.N[i]? = some x:=by rfl)(hv:Vis X.env.scope x:=by first|exact Or.inl rfl|exact Or.inr (Or.inl rfl)|exact Or.inr (Or.inr rfl))(hd:(x == ("__debug__":Str))=false:=by decide)
  (hcd:(x == ("__classdict__":Str))=false:=by decide):DE X (.Name x pos) (dMv i):=⟨_,y1m hN hv hd hcd,sim_mv i⟩
theorem de_glob {x:Str}{d:D}{v:V}{u:Value}{pos:Pos}(hs:∀F,Rep F d v)(hg:Gl X x)(hm:X.mg x=some u)(r:RelV v u)(hd:(x == ("__debug__":Str))=false:=by decide):DE X (.Name x pos) (dC d):=⟨_,z8s hg hm r hd,y9s hs⟩
theorem y4l {x:Str}{n:String}{pos:Pos}(hg:Gl X x)(hm:X.mg x=none)(hv:bootBuiltins x=some (.type n))(hn:x ≠ "__name__":=by decide)(hd:(x == ("__debug__":Str))=false:=by decide):DE X (.Name x pos) (dC (.ty n)):=⟨_,pe_bltn (v:=.ty n) hg hm hv rfl hn hd,y9s fun _=>rfl⟩
end
def OpS (r:R2)(f:D→D→(Bool→D→Prop)→Prop):Prop:=∀(io:List (Option Addr)) (H0 F0 F:Hp) (δ:List Slot) (σ:St) (H:Hp) (x y:D) (v u:V) (Q:VK) (Qd:Bool→D→Prop),EI io H0 F0 F δ σ H→Pk F H x v→Pk F H y u→f x y Qd →
 (∀b d w F' H',Same F F'→EI (none::io) H0 F0 F' (rsl b d::δ) (some w::σ) H'→Qd b d→Q w H')→r v u H Q
def dOp (f:D→D→(Bool→D→Prop)→Prop)(da db:TEd):TEd:=fun δ Q=>da δ fun _ x δ1=>db δ1 fun _ y δ2=>f x y fun b d=>Q b d δ2
def dOpV (f:D→D→(Bool→D→Prop)→Prop)(i:Nat)(db:TEd):TEd:=fun δ Q=>(peek δ i).isSome=true∧db δ fun _ y δ2=>∃x,peek δ2 i=some x∧f x y fun b d=>Q b d δ2
def dOpW (f:D→D→(Bool→D→Prop)→Prop)(da:TEd)(j:Nat):TEd:=fun δ Q=>da δ fun _ x δ1=>∃y,peek δ1 j=some y∧f x y fun b d=>Q b d δ1
theorem y9e {r:R2}{f:D→D→(Bool→D→Prop)→Prop}{ta tb:TE}{da db:TEd}(hs:OpS r f)(sa:Sim ta da)(sb:Sim tb db):Sim (tOp r ta tb) (dOp f da db):=by
 intro io H0 F0 F δ σ H Q Qd I q k
 refine sa.fz I q fun x v δ1 F1 H1 s1 I1 r1 q1=>sb.fz I1 q1 fun y u δ2 F2 H2 s2 I2 r2 q2=>?_
 exact hs io H0 F0 F2 δ2 σ H2 x y v u Q _ I2 (.inl (Rep.mono s2 _ _ r1)) (.inl r2) q2 fun b d w F' H' s' I' z=>k b d w δ2 F' H' ((s1.trans s2).trans s') I' z
theorem y7t {r:R2}{f:D→D→(Bool→D→Prop)→Prop}{tb:TE}{i:Nat}{db:TEd}(hs:OpS r f)(sb:Sim tb db):Sim (tOp r (tVar i) tb) (dOpV f i db):=by
 intro io H0 F0 F δ σ H Q Qd I q k
 obtain⟨p0,q⟩:=q
 obtain⟨d0,e0⟩:=Option.isSome_iff_exists.mp p0
 obtain⟨v0,ev,_⟩:=I.pk e0
 refine⟨v0,ev,?_⟩
 refine sb.fz I q fun y u δ2 F2 H2 s2 I2 r2 q2=>?_
 obtain⟨x,ex,q2⟩:=q2
 obtain⟨v,ev',pv⟩:=I2.pk ex
 rw[ev]at ev';cases ev'
 exact hs io H0 F0 F2 δ2 σ H2 x y _ u Q _ I2 pv (.inl r2) q2 fun b d w F' H' s' I' z=>k b d w δ2 F' H' (s2.trans s') I' z
theorem sim_opW {r:R2}{f:D→D→(Bool→D→Prop)→Prop}{ta:TE}{j:Nat}{da:TEd}(hs:OpS r f)(sa:Sim ta da):Sim (tOp r ta (tVar j)) (dOpW f da j):=by
 intro io H0 F0 F δ σ H Q Qd I q k
 refine sa.fz I q fun x v δ1 F1 H1 s1 I1 r1 q1=>?_
 obtain⟨y,ey,q1⟩:=q1
 obtain⟨u,eu,pu⟩:=I1.pk ey
 exact⟨u,eu,hs io H0 F0 F1 δ1 σ H1 x y v u Q _ I1 (.inl r1) pu q1 fun b d w F' H' s' I' z=>k b d w δ1 F' H' (s1.trans s') I' z⟩
section
variable {X:Cx}{pos:Pos}{a b:Expr}{da db:TEd}{f:D→D→(Bool→D→Prop)→Prop}{r:R2}
theorem z0m {op:Operator}(hs:OpS r f)(ho:OpR X (binaryOp op) r)(ha:DE X a da)(hb:DE X b db):DE X (.BinOp a op b pos) (dOp f da db):=by
 obtain⟨ta,pa,sa⟩:=ha;obtain⟨tb,pb,sb⟩:=hb;exact⟨_,y7i ho pa pb,y9e hs sa sb⟩
theorem y8v {op:CmpOp}(hs:OpS r f)(ho:OpR X (compareOp op) r)(ha:DE X a da)(hb:DE X b db)(hm:behindInMarks op b=false):DE X (.Compare a [op] [b] pos) (dOp f da db):=by
 obtain⟨ta,pa,sa⟩:=ha;obtain⟨tb,pb,sb⟩:=hb;exact⟨_,x2m ho pa pb hm,y9e hs sa sb⟩
theorem de_cmpV {op:CmpOp}{i:Nat}{x:Str}{p:Pos}(hs:OpS r f)(ho:OpR X (compareOp op) r)(ha:PE X (.Name x p) (tVar i))(hb:DE X b db)(hm:behindInMarks op b=false):DE X (.Compare (.Name x p) [op] [b] pos) (dOpV f i db):=by
 obtain⟨tb,pb,sb⟩:=hb;exact⟨_,x2m ho ha pb hm,y7t hs sb⟩
theorem x3m (hs:OpS r f)(ho:IxR X r)(ha:DE X a da)(hb:DE X b db)(h:y7m b):DE X (.Subscript a b pos) (dOp f da db):=by
 obtain⟨ta,pa,sa⟩:=ha;obtain⟨tb,pb,sb⟩:=hb;exact⟨_,z2w ho pa pb h,y9e hs sa sb⟩
theorem z0t {i:Nat}{x:Str}{p:Pos}(hs:OpS r f)(ho:IxR X r)(ha:PE X (.Name x p) (tVar i))(hb:DE X b db)(h:y7m b):DE X (.Subscript (.Name x p) b pos) (dOpV f i db):=by
 obtain⟨tb,pb,sb⟩:=hb;exact⟨_,z2w ho ha pb h,y7t hs sb⟩
end
section
def fI (g:Int→Int→D):D→D→(Bool→D→Prop)→Prop:=fun x y Q=>∃i j,x=.int i∧y=.int j∧Q false (g i j)
def fIc (C:Int→Int→Prop)(g:Int→Int→D):D→D→(Bool→D→Prop)→Prop:=fun x y Q=>∃i j,x=.int i∧y=.int j∧C i j∧Q false (g i j)
theorem os_I {g:Int→Int→V}{g':Int→Int→D}(h:∀i j F,Rep F (g' i j) (g i j)):OpS (rI0 g) (fI g'):=by
 intro io H0 F0 F δ σ H x y v u Q Qd I px py q k
 obtain⟨i,j,rfl,rfl,q⟩:=q
 exact⟨i,j,px.int,py.int,k false _ _ F H (Same.refl _) (I.pushF (h i j F)) q⟩
theorem os_Ic {C:Int→Int→Prop}{g:Int→Int→V}{g':Int→Int→D}(h:∀i j F,Rep F (g' i j) (g i j)):OpS (rI C g) (fIc C g'):=by
 intro io H0 F0 F δ σ H x y v u Q Qd I px py q k
 obtain⟨i,j,rfl,rfl,c,q⟩:=q
 exact⟨i,j,px.int,py.int,c,k false _ _ F H (Same.refl _) (I.pushF (h i j F)) q⟩
end
end VL
namespace VL
open PySem L2
section
variable {io:List (Option Addr)}{H0 F0 F:Hp}{δ:List Slot}{σ:St}{H:Hp}
theorem EI.pS {x:Str}(I:EI io H0 F0 F δ σ H):EI (none::io) H0 F0 F (rsl false (.str x)::δ) (some (.str x)::σ) H:=I.pushF rfl
theorem EI.pI {x:Int}(I:EI io H0 F0 F δ σ H):EI (none::io) H0 F0 F (rsl false (.int x)::δ) (some (.int x)::σ) H:=I.pushF rfl
theorem EI.pB {x:Bool}(I:EI io H0 F0 F δ σ H):EI (none::io) H0 F0 F (rsl false (.bl x)::δ) (some (.bl x)::σ) H:=I.pushF rfl
theorem EI.pN (I:EI io H0 F0 F δ σ H):EI (none::io) H0 F0 F (rsl false .non::δ) (some .non::σ) H:=I.pushF rfl
end
theorem z2r:OpS (rI0 fun i j=>.int (i+j)) (fI fun i j=>.int (i+j)):=os_I fun _ _ _=>rfl
theorem os_sub:OpS (rI0 fun i j=>.int (i - j)) (fI fun i j=>.int (i - j)):=os_I fun _ _ _=>rfl
theorem z7v:OpS (rI CMul fun i j=>.int (i * j)) (fIc CMul fun i j=>.int (i * j)):=os_Ic fun _ _ _=>rfl
theorem z1l:OpS (rI (fun _ j=>0<j) fun i j=>.int (i % j)) (fIc (fun _ j=>0<j) fun i j=>.int (i % j)):=os_Ic fun _ _ _=>rfl
theorem z2d:OpS (rI (fun _ j=>0<j∧j.natAbs.log2<9000) fun i j=>.int (i / j)) (fIc (fun _ j=>0<j∧j.natAbs.log2<9000) fun i j=>.int (i / j)):=os_Ic fun _ _ _=>rfl
theorem y5r:OpS (rI0 fun i j=>.bl (decide (i<j))) (fI fun i j=>.bl (decide (i<j))):=os_I fun _ _ _=>rfl
theorem os_gt:OpS (rI0 fun i j=>.bl (decide (j<i))) (fI fun i j=>.bl (decide (j<i))):=os_I fun _ _ _=>rfl
theorem os_ge:OpS (rI0 fun i j=>.bl (decide (j≤i))) (fI fun i j=>.bl (decide (j≤i))):=os_I fun _ _ _=>rfl
def sEq:D→D→Option Bool
 |.int i,.int j=>some (decide (i=j))
 |.str i,.str j=>some (decide (i=j))
 |.bl i,.bl j=>some (decide (i=j))
 |.non,.non=>some true
 |.non,.int _=>some false | .int _,.non=>some false | .non,.str _=>some false | .str _,.non=>some false | .non,.bl _=>some false | .bl _,.non=>some false
 |.int _,.str _=>some false | .str _,.int _=>some false | .bl _,.str _=>some false | .str _,.bl _=>some false
 |_,_=>none
def fEq:D→D→(Bool→D→Prop)→Prop:=fun x y Q=>∃b,sEq x y=some b∧Q false (.bl b)
def fNe:D→D→(Bool→D→Prop)→Prop:=fun x y Q=>∃b,sEq x y=some b∧Q false (.bl (!b))
theorem y8i {F H:Hp}{x y:D}{v u:V}{b:Bool}(px:Pk F H x v)(py:Pk F H y u)(h:sEq x y=some b):scal v u=true∧decide (v=u)=b:=by
 cases x<;>cases y<;>simp only[sEq]at h<;>first
  |(cases h;fail)
  |(have e1:=px.int;have e2:=py.int;subst e1 e2;cases h;exact⟨rfl,by simp⟩)
  |(have e1:=px.str;have e2:=py.str;subst e1 e2;cases h;exact⟨rfl,by simp⟩)
  |(have e1:=px.bl;have e2:=py.bl;subst e1 e2;cases h;exact⟨rfl,by simp⟩)
  |(have e1:=px.non;have e2:=py.non;subst e1 e2;cases h;exact⟨rfl,by simp⟩)
  |(have e1:=px.non;have e2:=py.int;subst e1 e2;cases h;exact⟨rfl,by simp⟩)
  |(have e1:=px.int;have e2:=py.non;subst e1 e2;cases h;exact⟨rfl,by simp⟩)
  |(have e1:=px.non;have e2:=py.str;subst e1 e2;cases h;exact⟨rfl,by simp⟩)
  |(have e1:=px.str;have e2:=py.non;subst e1 e2;cases h;exact⟨rfl,by simp⟩)
  |(have e1:=px.non;have e2:=py.bl;subst e1 e2;cases h;exact⟨rfl,by simp⟩)
  |(have e1:=px.bl;have e2:=py.non;subst e1 e2;cases h;exact⟨rfl,by simp⟩)
  |(have e1:=px.int;have e2:=py.str;subst e1 e2;cases h;exact⟨rfl,by simp⟩)
  |(have e1:=px.str;have e2:=py.int;subst e1 e2;cases h;exact⟨rfl,by simp⟩)
  |(have e1:=px.bl;have e2:=py.str;subst e1 e2;cases h;exact⟨rfl,by simp⟩)
  |(have e1:=px.str;have e2:=py.bl;subst e1 e2;cases h;exact⟨rfl,by simp⟩)
  |(cases h)
theorem z4q:OpS rEq fEq:=by
 intro io H0 F0 F δ σ H x y v u Q Qd I px py q k
 obtain⟨b,e,q⟩:=q
 obtain⟨h1,h2⟩:=y8i px py e
 refine⟨h1,k false (.bl b) _ F H (Same.refl _) (I.pushF ?_) q⟩
 rw[h2];rfl
theorem y9v:OpS rNe fNe:=by
 intro io H0 F0 F δ σ H x y v u Q Qd I px py q k
 obtain⟨b,e,q⟩:=q
 obtain⟨h1,h2⟩:=y8i px py e
 refine⟨h1,k false (.bl (!b)) _ F H (Same.refl _) (I.pushF ?_) q⟩
 rw[h2];rfl
def fCatS:D→D→(Bool→D→Prop)→Prop:=fun x y Q=>∃i j,x=.str i∧y=.str j∧i.length+j.length≤sizeLine∧Q false (.str (i++j))
theorem z2u:OpS (fun x y H Q=>∃i j,x=.str i∧y=.str j∧i.length+j.length≤sizeLine∧Q (.str (i++j)) H) fCatS:=by
 intro io H0 F0 F δ σ H x y v u Q Qd I px py q k
 obtain⟨i,j,rfl,rfl,h,q⟩:=q
 exact⟨i,j,px.str,py.str,h,k false _ _ F H (Same.refl _) I.pS q⟩
theorem EI.newL {io:List (Option Addr)}{H0 F0 F:Hp}{δ:List Slot}{σ:St}{H:Hp}{p:Addr}{ds:List D}{vs:List V}(I:EI io H0 F0 F δ σ H)(hp:H p=none)(r:Reps F ds vs):EI (none::io) H0 F0 F (rsl true (.lst ds)::δ) (some (.ref p)::σ) (upd H p (.lst vs)):=by
 refine(I.alloc hp).push ⟨p,rfl,I.base.free hp,I.sub.free hp,⟨vs,z0g,r⟩,fun z=>by cases z⟩ fun b c a es ev j b' c' ej eo=>?_
 cases ev
 obtain⟨a',e1,_,_,h3,_⟩:=I.get j _ ej
 rw[eo]at e1;cases e1
 obtain⟨u,hu⟩:=h3.some
 rw[hp]at hu;cases hu
theorem EI.newD {io:List (Option Addr)}{H0 F0 F:Hp}{δ:List Slot}{σ:St}{H:Hp}{p:Addr}{ds:List (Key×D)}{vs:List (Key×V)}(I:EI io H0 F0 F δ σ H)(hp:H p=none)(r:RepK F ds vs):EI (none::io) H0 F0 F (rsl true (.dct ds)::δ) (some (.ref p)::σ) (upd H p (.dK vs)):=by
 refine(I.alloc hp).push ⟨p,rfl,I.base.free hp,I.sub.free hp,⟨vs,z0g,r⟩,fun z=>by cases z⟩ fun b c a es ev j b' c' ej eo=>?_
 cases ev
 obtain⟨a',e1,_,_,h3,_⟩:=I.get j _ ej
 rw[eo]at e1;cases e1
 obtain⟨u,hu⟩:=h3.some
 rw[hp]at hu;cases hu
theorem EI.newT {io:List (Option Addr)}{H0 F0 F:Hp}{δ:List Slot}{σ:St}{H:Hp}{p:Addr}{ds:List D}{vs:List V}(I:EI io H0 F0 F δ σ H)(hp:H p=none)(r:Reps F ds vs):∃F',Same F F'∧EI io H0 F0 F' δ σ (upd H p (.tup vs))∧Rep F' (.tup ds) (.ref p) :=
 ⟨upd F p (.tup vs),Same.of_new (I.sub.free hp),I.allocF hp,p,vs,rfl,z0g,Reps.mono (Same.of_new (I.sub.free hp)) _ _ r⟩
def fCat:D→D→(Bool→D→Prop)→Prop:=fun x y Q=>∃xs ys,x=.lst xs∧y=.lst ys∧xs.length+ys.length≤sizeLine∧Q true (.lst (xs++ys))
theorem z4r:OpS rCat fCat:=by
 intro io H0 F0 F δ σ H x y v u Q Qd I px py q k
 obtain⟨xs,ys,rfl,rfl,hl,q⟩:=q
 obtain⟨a,vs,rfl,h1,r1⟩:=px.lst I
 obtain⟨b,us,rfl,h2,r2⟩:=py.lst I
 exact⟨a,b,vs,us,rfl,rfl,h1,h2,by rw[←r1.len,←r2.len];exact hl,fun p hp=>k true _ _ F _ (Same.refl _) (I.newL hp (r1.app r2)) q⟩
def fIxL:D→D→(Bool→D→Prop)→Prop:=fun x y Q=>∃xs i d,x=.lst xs∧y=.int i∧atI xs i=some d∧Q false d
def fIxT:D→D→(Bool→D→Prop)→Prop:=fun x y Q=>∃xs i d,x=.tup xs∧y=.int i∧atI xs i=some d∧Q false d
def fIxS:D→D→(Bool→D→Prop)→Prop:=fun x y Q=>∃z i c,x=.str z∧y=.int i∧z.length≤sizeLine∧atI z.cps.toList i=some c∧Q false (.str ⟨#[c]⟩)
theorem Reps.atI {F:Hp}{ds:List D}{vs:List V}{i:Int}{d:D}(r:Reps F ds vs)(h:atI ds i=some d):∃v,L2.atI vs i=some v∧Rep F d v:=by
 unfold L2.atI at h ⊢
 rw[←r.len]
 cases e:ixN ds.length i with
 |none=>rw[e]at h;cases h
 |some j=>rw[e]at h;exact r.get h
theorem z4k:OpS (fun x y H Q=>∃p i,x=.ref p∧y=.int i∧∃xs,H p=some (.lst xs)∧∃v,atI xs i=some v∧Q v H) fIxL:=by
 intro io H0 F0 F δ σ H x y v u Q Qd I px py q k
 obtain⟨xs,i,d,rfl,rfl,h,q⟩:=q
 obtain⟨a,vs,rfl,h1,r1⟩:=px.lst I
 obtain⟨w,e,r⟩:=r1.atI h
 exact⟨a,i,rfl,py.int,vs,h1,w,e,k false d w F H (Same.refl _) (I.pushF r) q⟩
theorem z1c:OpS (fun x y H Q=>∃p i,x=.ref p∧y=.int i∧∃xs,H p=some (.tup xs)∧∃v,atI xs i=some v∧Q v H) fIxT:=by
 intro io H0 F0 F δ σ H x y v u Q Qd I px py q k
 obtain⟨xs,i,d,rfl,rfl,h,q⟩:=q
 obtain⟨a,vs,rfl,h1,r1⟩:=px.tup I
 obtain⟨w,e,r⟩:=r1.atI h
 exact⟨a,i,rfl,py.int,vs,h1,w,e,k false d w F H (Same.refl _) (I.pushF r) q⟩
theorem y6h:OpS rIxS fIxS:=by
 intro io H0 F0 F δ σ H x y v u Q Qd I px py q k
 obtain⟨z,i,c,rfl,rfl,hl,h,q⟩:=q
 exact⟨z,i,c,px.str,py.int,hl,h,k false _ _ F H (Same.refl _) I.pS q⟩
mutual
def eqb:D→Bool
 |.int _=>true
 |.str _=>true
 |.lst xs=>eqbL xs
 |.tup xs=>eqbL xs
 |_=>false
def eqbL:List D→Bool
 | []=>true
 |d::r=>eqb d&&eqbL r
end
mutual
def dep:D→Nat
 |.lst xs=>depL xs+1
 |.tup xs=>depL xs+1
 |_=>0
def depL:List D→Nat
 | []=>0
 |d::r=>max (dep d) (depL r)
end
mutual
theorem eqT_of {F H:Hp}(s:Same F H):∀(d:D) (n:Nat) (v u:V),eqb d=true→dep d≤n→Rep F d v→Rep F d u→EqT H n v u
 |.int i,n,v,u,_,_,h1,h2=>by cases(show v=.int i from h1);cases(show u=.int i from h2);exact .int i
 |.str i,n,v,u,_,_,h1,h2=>by cases(show v=.str i from h1);cases(show u=.str i from h2);exact .str i
 |.lst ds,0,v,u,_,h,h1,h2=>by simp[dep]at h
 |.lst ds,n+1,v,u,he,hn,h1,h2=>by
  obtain⟨a,vs,rfl,e1,r1⟩:=h1
  obtain⟨b,us,rfl,e2,r2⟩:=h2
  exact .lst (s _ _ e1) (s _ _ e2) (by rw[←r1.len,←r2.len]) (y1o s ds n vs us (by simpa[eqb] using he) (by simp[dep]at hn;omega) r1 r2)
 |.tup ds,0,v,u,_,h,h1,h2=>by simp[dep]at h
 |.tup ds,n+1,v,u,he,hn,h1,h2=>by
  obtain⟨a,vs,rfl,e1,r1⟩:=h1
  obtain⟨b,us,rfl,e2,r2⟩:=h2
  exact .tup (s _ _ e1) (s _ _ e2) (by rw[←r1.len,←r2.len]) (y1o s ds n vs us (by simpa[eqb] using he) (by simp[dep]at hn;omega) r1 r2)
 |.non,n,v,u,h,_,h1,h2=>by simp[eqb]at h
 |.bl _,n,v,u,h,_,h1,h2=>by simp[eqb]at h
 |.ty _,n,v,u,h,_,h1,h2=>by simp[eqb]at h
 |.dct _,n,v,u,h,_,h1,h2=>by simp[eqb]at h
theorem y1o {F H:Hp}(s:Same F H):∀(ds:List D) (n:Nat) (vs us:List V),eqbL ds=true→depL ds≤n→Reps F ds vs→Reps F ds us→∀(i:Nat) x y,vs[i]? = some x→us[i]? = some y→EqT H n x y
 | [],n,vs,us,_,_,h1,h2,i,x,y,e1,e2=>by cases(show vs=[] from h1);simp at e1
 |d::ds,n,vs,us,he,hn,h1,h2,i,x,y,e1,e2=>by
  obtain⟨v,r,rfl,q1,r1⟩:=h1
  obtain⟨u,r',rfl,q2,r2⟩:=h2
  simp[eqbL]at he
  simp[depL]at hn
  cases i with
  |zero=>simp at e1 e2;subst e1 e2;exact eqT_of s d n v u he.1 (by omega) q1 q2
  |succ i=>exact y1o s ds n r r' he.2 (by omega) r1 r2 i x y (by simpa using e1) (by simpa using e2)
end
def fEqL:D→D→(Bool→D→Prop)→Prop:=fun x y Q=>∃xs ys,x=.lst xs∧y=.lst ys∧((xs.length≠ys.length∧Q false (.bl false))∨(xs=ys∧eqbL xs=true∧depL xs≤90∧Q false (.bl true)))
def fNeL:D→D→(Bool→D→Prop)→Prop:=fun x y Q=>∃xs ys,x=.lst xs∧y=.lst ys∧((xs.length≠ys.length∧Q false (.bl true))∨(xs=ys∧eqbL xs=true∧depL xs≤90∧Q false (.bl false)))
theorem x1u {X:Cx}(hu:X.A.units+100<cLine):OpS (fun x y H Q=>∃a b,x=.ref a∧y=.ref b∧∃xs,H a=some (.lst xs)∧∃ys,H b=some (.lst ys)∧X.A.units<cLine ∧
  ((xs.length≠ys.length∧Q (.bl false) H)∨(xs.length=ys.length∧(∃n,(∀(i:Nat) x y,xs[i]? = some x→ys[i]? = some y→EqT H n x y)∧X.A.units+n+1<cLine)∧Q (.bl true) H))) fEqL:=by
 intro io H0 F0 F δ σ H x y v u Q Qd I px py q k
 obtain⟨xs,ys,rfl,rfl,q⟩:=q
 obtain⟨a,vs,rfl,h1,r1⟩:=px.lst I
 obtain⟨b,us,rfl,h2,r2⟩:=py.lst I
 refine⟨a,b,rfl,rfl,vs,h1,us,h2,by omega,?_⟩
 rcases q with ⟨hl,q⟩|⟨rfl,he,hd,q⟩
 ·exact .inl ⟨by rw[←r1.len,←r2.len];exact hl,k false _ _ F H (Same.refl _) I.pB q⟩
 ·exact .inr ⟨by rw[←r1.len,←r2.len],⟨90,y1o I.sub xs 90 vs us he hd r1 r2,by omega⟩,k false _ _ F H (Same.refl _) I.pB q⟩
theorem os_neL {X:Cx}(hu:X.A.units+100<cLine):OpS (fun x y H Q=>∃a b,x=.ref a∧y=.ref b∧∃xs,H a=some (.lst xs)∧∃ys,H b=some (.lst ys)∧X.A.units<cLine ∧
  ((xs.length≠ys.length∧Q (.bl true) H)∨(xs.length=ys.length∧(∃n,(∀(i:Nat) x y,xs[i]? = some x→ys[i]? = some y→EqT H n x y)∧X.A.units+n+1<cLine)∧Q (.bl false) H))) fNeL:=by
 intro io H0 F0 F δ σ H x y v u Q Qd I px py q k
 obtain⟨xs,ys,rfl,rfl,q⟩:=q
 obtain⟨a,vs,rfl,h1,r1⟩:=px.lst I
 obtain⟨b,us,rfl,h2,r2⟩:=py.lst I
 refine⟨a,b,rfl,rfl,vs,h1,us,h2,by omega,?_⟩
 rcases q with ⟨hl,q⟩|⟨rfl,he,hd,q⟩
 ·exact .inl ⟨by rw[←r1.len,←r2.len];exact hl,k false _ _ F H (Same.refl _) I.pB q⟩
 ·exact .inr ⟨by rw[←r1.len,←r2.len],⟨90,y1o I.sub xs 90 vs us he hd r1 r2,by omega⟩,k false _ _ F H (Same.refl _) I.pB q⟩
theorem Reps.strs {F:Hp}:∀{ks:List Str}{vs:List V},Reps F (ks.map D.str) vs→vs=ks.map V.str
 | [],vs,h=>h
 |k::ks,vs,h=>by obtain⟨v,r,rfl,h1,h2⟩:=h;rw[Reps.strs h2];cases(show v=.str k from h1);rfl
theorem Reps.bls {F:Hp}:∀{ks:List Bool}{vs:List V},Reps F (ks.map D.bl) vs→vs=ks.map V.bl
 | [],vs,h=>h
 |k::ks,vs,h=>by obtain⟨v,r,rfl,h1,h2⟩:=h;rw[Reps.bls h2];cases(show v=.bl k from h1);rfl
def fInL:D→D→(Bool→D→Prop)→Prop:=fun x y Q=>∃(k:Str) (ks:List Str),x=.str k∧y=.lst (ks.map .str)∧Q false (.bl (decide (k∈ks)))
def x1w:D→D→(Bool→D→Prop)→Prop:=fun x y Q=>∃(k:Str) (ks:List Str),x=.str k∧y=.lst (ks.map .str)∧Q false (.bl (!decide (k∈ks)))
def fInT:D→D→(Bool→D→Prop)→Prop:=fun x y Q=>∃(k:Str) (ks:List Str),x=.str k∧y=.tup (ks.map .str)∧Q false (.bl (decide (k∈ks)))
theorem os_inL:OpS (fun x y H Q=>∃p,y=.ref p∧∃xs,H p=some (.lst xs)∧z5k x=true∧xs.all z5k=true∧Q (.bl (inV x xs)) H) fInL:=by
 intro io H0 F0 F δ σ H x y v u Q Qd I px py q k
 obtain⟨s,ks,rfl,rfl,q⟩:=q
 obtain⟨b,us,rfl,h2,r2⟩:=py.lst I
 cases px.str
 cases r2.strs
 refine⟨b,rfl,_,h2,rfl,y1f ks,k false _ _ F H (Same.refl _) (I.pushF ?_) q⟩
 rw[y3j];rfl
theorem y5j:OpS (fun x y H Q=>∃p,y=.ref p∧∃xs,H p=some (.lst xs)∧z5k x=true∧xs.all z5k=true∧Q (.bl (!inV x xs)) H) x1w:=by
 intro io H0 F0 F δ σ H x y v u Q Qd I px py q k
 obtain⟨s,ks,rfl,rfl,q⟩:=q
 obtain⟨b,us,rfl,h2,r2⟩:=py.lst I
 cases px.str
 cases r2.strs
 refine⟨b,rfl,_,h2,rfl,y1f ks,k false _ _ F H (Same.refl _) (I.pushF ?_) q⟩
 rw[y3j];rfl
theorem y2h:OpS (fun x y H Q=>∃p,y=.ref p∧∃xs,H p=some (.tup xs)∧z5k x=true∧xs.all z5k=true∧Q (.bl (inV x xs)) H) fInT:=by
 intro io H0 F0 F δ σ H x y v u Q Qd I px py q k
 obtain⟨s,ks,rfl,rfl,q⟩:=q
 obtain⟨b,us,rfl,h2,r2⟩:=py.tup I
 cases px.str
 cases r2.strs
 refine⟨b,rfl,_,h2,rfl,y1f ks,k false _ _ F H (Same.refl _) (I.pushF ?_) q⟩
 rw[y3j];rfl
end VL
namespace VL
open PySem L2
def y1z (td:TEd):TTd:=fun δ Q=>td δ fun _ d δ'=>∃c,d=.bl c∧Q c δ'
theorem z9k {te:TE}{td:TEd}(s:Sim te td):SimT (tB te) (y1z td):=by
 intro io H0 F0 F δ σ H Q Qd I q k
 refine s.fz I q fun d v δ' F' H' sf I' r q'=>?_
 obtain⟨c,rfl,q'⟩:=q'
 exact⟨c,r,k c δ' F' H' sf I' q'⟩
theorem y0u {te:TE}{td:TEd}(s:Sim te td):SimT (tTest te) (y1z td):=z9k s
def dNot (t:TTd):TTd:=fun δ Q=>t δ fun c δ'=>Q (!c) δ'
def dAnd (t u:TTd):TTd:=fun δ Q=>t δ fun c δ'=>if c=true then u δ' Q else Q false δ'
def dOr (t u:TTd):TTd:=fun δ Q=>t δ fun c δ'=>if c=true then Q true δ' else u δ' Q
theorem simT_not {t:TT}{td:TTd}(s:SimT t td):SimT (tNot t) (dNot td):=fun io H0 F0 F δ σ H Q Qd I q k =>
 s io H0 F0 F δ σ H _ _ I q fun b δ' F' H' sf I' q'=>k (!b) δ' F' H' sf I' q'
theorem simT_and {t u:TT}{td ud:TTd}(s:SimT t td)(s':SimT u ud):SimT (tAnd t u) (dAnd td ud):=by
 intro io H0 F0 F δ σ H Q Qd I q k
 refine s io H0 F0 F δ σ H _ _ I q fun b δ' F' H' sf I' q'=>?_
 cases b with
 |true=>rw[if_pos rfl]at q' ⊢;exact s' io H0 F0 F' δ' σ H' _ _ I' q' fun b δ2 F2 H2 s2 I2 q2=>k b δ2 F2 H2 (sf.trans s2) I2 q2
 |false=>rw[if_neg Bool.false_ne_true]at q' ⊢;exact k false δ' F' H' sf I' q'
theorem simT_or {t u:TT}{td ud:TTd}(s:SimT t td)(s':SimT u ud):SimT (tOr t u) (dOr td ud):=by
 intro io H0 F0 F δ σ H Q Qd I q k
 refine s io H0 F0 F δ σ H _ _ I q fun b δ' F' H' sf I' q'=>?_
 cases b with
 |false=>rw[if_neg Bool.false_ne_true]at q' ⊢;exact s' io H0 F0 F' δ' σ H' _ _ I' q' fun b δ2 F2 H2 s2 I2 q2=>k b δ2 F2 H2 (sf.trans s2) I2 q2
 |true=>rw[if_pos rfl]at q' ⊢;exact k true δ' F' H' sf I' q'
def truD:D→Option Bool
 |.lst xs=>some (!xs.isEmpty)
 |.tup xs=>some (!xs.isEmpty)
 |.dct xs=>some (!xs.isEmpty)
 |.bl b=>some b
 |.int i=>some (i != 0)
 |.non=>some false
 |_=>none
theorem Reps.isEmpty {F:Hp}{ds:List D}{vs:List V}(h:Reps F ds vs):vs.isEmpty=ds.isEmpty:=by
 cases ds with
 |nil=>cases(show vs=[] from h);rfl
 |cons d ds=>obtain⟨v,r,rfl,_⟩:=h;rfl
theorem RepK.isEmpty {F:Hp}{ds:List (Key×D)}{vs:List (Key×V)}(h:RepK F ds vs):vs.isEmpty=ds.isEmpty:=by
 cases ds with
 |nil=>cases(show vs=[] from h);rfl
 |cons d ds=>obtain⟨v,r,rfl,_⟩:=h;rfl
theorem truV_of {K:PySem.W.Frag}{io:List (Option Addr)}{H0 F0 F:Hp}{δ:List Slot}{σ:St}{H:Hp}{d:D}{v:V}{b:Bool}(I:EI io H0 F0 F δ σ H)(p:Pk F H d v)(h:truD d=some b):TruV K v H b:=by
 cases d with
 |lst xs =>
  obtain⟨a,vs,rfl,h1,r⟩:=p.lst I
  cases h
  exact .inl ⟨vs,SqL.of h1,by rw[r.isEmpty]⟩
 |tup xs =>
  obtain⟨a,vs,rfl,h1,r⟩:=p.tup I
  cases h
  exact .inr (.inl ⟨vs,SqT.of h1,by rw[r.isEmpty]⟩)
 |dct xs =>
  obtain⟨a,vs,rfl,h1,r⟩:=p.dct I
  cases h
  exact .inr (.inr ⟨vs,h1,by rw[r.isEmpty]⟩)
 |bl c=>cases p.bl;cases h;rfl
 |int c=>cases p.int;cases h;rfl
 |non=>cases p.non;cases h;rfl
 |str c=>cases h
 |ty c=>cases h
def dTruV (i:Nat):TTd:=fun δ Q=>∃d c,peek δ i=some d∧truD d=some c∧Q c δ
section
variable {X:Cx}{pos:Pos}{a b:Expr}{da db:TEd}{f:D→D→(Bool→D→Prop)→Prop}{r:R2}{rest:List Expr}
theorem z8x (h:DE X a da)(he:∀whole,isTrue a X.env whole=(do let v ←whole;standAt a.pos;holding [v] (truthy v)):=by intro _;rfl):DT X a (y1z da):=by
 obtain⟨ta,pa,sa⟩:=h;exact⟨_,z4u pa he,z9k sa⟩
theorem z1f {op:CmpOp}(hs:OpS r f)(ho:OpR X (compareOp op) r)(ha:DE X a da)(hb:DE X b db)(hm:behindInMarks op b=false):DT X (.Compare a [op] [b] pos) (y1z (dOp f da db)):=by
 obtain⟨ta,pa,sa⟩:=ha;obtain⟨tb,pb,sb⟩:=hb;exact⟨_,z1y ho pa pb hm,y0u (y9e hs sa sb)⟩
theorem y7b {op:CmpOp}{i:Nat}{x:Str}{p:Pos}(hs:OpS r f)(ho:OpR X (compareOp op) r)(ha:PE X (.Name x p) (tVar i))(hb:DE X b db)(hm:behindInMarks op b=false):DT X (.Compare (.Name x p) [op] [b] pos) (y1z (dOpV f i db)):=by
 obtain⟨tb,pb,sb⟩:=hb;exact⟨_,z1y ho ha pb hm,y0u (y7t hs sb)⟩
theorem y0 {op:CmpOp}{i:Nat}{x:Str}{p:Pos}(hs:OpS r f)(ho:OpR X (compareOp op) r)(ha:DE X a da)(hb:PE X (.Name x p) (tVar i))(hm:behindInMarks op (.Name x p)=false):DT X (.Compare a [op] [.Name x p] pos) (y1z (dOpW f da i)):=by
 obtain⟨ta,pa,sa⟩:=ha;exact⟨_,z1y ho pa hb hm,y0u (sim_opW hs sa)⟩
theorem x3w {t:TTd}(h:DT X a t):DT X (.UnaryOp .Not a pos) (dNot t):=by obtain⟨u,p,s⟩:=h;exact⟨_,z8a p,simT_not s⟩
theorem y0v {t:TTd}(h:DT X a t):DW X (.BoolOp .And [a] pos) t:=by obtain⟨u,p,s⟩:=h;exact⟨_,z8t p,s⟩
theorem dw_or1 {t:TTd}(h:DT X a t):DW X (.BoolOp .Or [a] pos) t:=by obtain⟨u,p,s⟩:=h;exact⟨_,y1u p,s⟩
theorem y2r {t u:TTd}(h:DT X a t)(h':DW X (.BoolOp .And (b::rest) pos) u):DW X (.BoolOp .And (a::b::rest) pos) (dAnd t u):=by
 obtain⟨t',p,s⟩:=h;obtain⟨u',p',s'⟩:=h';exact⟨_,y2o p p',simT_and s s'⟩
theorem dw_or {t u:TTd}(h:DT X a t)(h':DW X (.BoolOp .Or (b::rest) pos) u):DW X (.BoolOp .Or (a::b::rest) pos) (dOr t u):=by
 obtain⟨t',p,s⟩:=h;obtain⟨u',p',s'⟩:=h';exact⟨_,y6n p p',simT_or s s'⟩
theorem dt_w {t:TTd}(h:DW X a t):DT X a t:=by obtain⟨u,p,s⟩:=h;exact⟨_,p.pt,s⟩
theorem x2w {i:Nat}{x:Str}{p:Pos}(ha:PE X (.Name x p) (tVar i))(he:∀whole,isTrue (.Name x p) X.env whole=(do let v ←whole;standAt (Expr.Name x p).pos;holding [v] (truthy v)):=by intro _;rfl):DT X (.Name x p) (dTruV i):=by
 refine⟨_,z6w ha he,fun io H0 F0 F δ σ H Q Qd I q k=>?_⟩
 obtain⟨d,c,e,ec,q⟩:=q
 obtain⟨v,ev,pk⟩:=I.pk e
 exact⟨v,ev,c,truV_of I pk ec,k c δ F H (Same.refl _) I q⟩
def dAndV (ta tb:TEd):TEd:=fun δ Q=>ta δ fun _ x δ'=>∃c,x=.bl c∧if c=true then tb δ' Q else Q false (.bl false) δ'
def dNotV (ta:TEd):TEd:=fun δ Q=>ta δ fun _ x δ'=>∃c,x=.bl c∧Q false (.bl (!c)) δ'
def dIf (t:TTd)(ta tb:TEd):TEd:=fun δ Q=>t δ fun c δ'=>if c=true then ta δ' Q else tb δ' Q
theorem x2j {op}(h:DE X a da):DE X (.BoolOp op [a] pos) da:=by obtain⟨t,p,s⟩:=h;exact⟨_,pe_one p,s⟩
theorem y9f (ha:DE X a da)(hb:DE X (.BoolOp .And (b::rest) pos) db):DE X (.BoolOp .And (a::b::rest) pos) (dAndV da db):=by
 obtain⟨ta,pa,sa⟩:=ha;obtain⟨tb,pb,sb⟩:=hb
 refine⟨_,pe_and pa pb,fun io H0 F0 F δ σ H Q Qd I q k=>sa.fz I q fun d v δ' F' H' sf I' r q'=>?_⟩
 obtain⟨c,rfl,q'⟩:=q'
 refine⟨c,r,?_⟩
 cases c with
 |true=>rw[if_pos rfl]at q' ⊢;exact sb io H0 F0 F' δ' σ H' Q Qd I' q' fun b d v δ2 F2 H2 s2 I2 q2=>k b d v δ2 F2 H2 (sf.trans s2) I2 q2
 |false=>rw[if_neg Bool.false_ne_true]at q' ⊢;exact k false _ _ δ' F' H' sf I'.pB q'
theorem de_not (ha:DE X a da):DE X (.UnaryOp .Not a pos) (dNotV da):=by
 obtain⟨ta,pa,sa⟩:=ha
 refine⟨_,pe_not pa,fun io H0 F0 F δ σ H Q Qd I q k=>sa.fz I q fun d v δ' F' H' sf I' r q'=>?_⟩
 obtain⟨c,rfl,q'⟩:=q'
 exact⟨c,r,k false _ _ δ' F' H' sf I'.pB q'⟩
theorem de_if {c:Expr}{t:TTd}(hc:DT X c t)(ha:DE X a da)(hb:DE X b db):DE X (.IfExp c a b pos) (dIf t da db):=by
 obtain⟨tc,pc,sc⟩:=hc;obtain⟨ta,pa,sa⟩:=ha;obtain⟨tb,pb,sb⟩:=hb
 refine⟨_,z5x pc pa pb,fun io H0 F0 F δ σ H Q Qd I q k=>sc io H0 F0 F δ σ H _ _ I q fun c δ' F' H' sf I' q'=>?_⟩
 cases c with
 |true=>rw[if_pos rfl]at q' ⊢;exact sa io H0 F0 F' δ' σ H' Q Qd I' q' fun b d v δ2 F2 H2 s2 I2 q2=>k b d v δ2 F2 H2 (sf.trans s2) I2 q2
 |false=>rw[if_neg Bool.false_ne_true]at q' ⊢;exact sb io H0 F0 F' δ' σ H' Q Qd I' q' fun b d v δ2 F2 H2 s2 I2 q2=>k b d v δ2 F2 H2 (sf.trans s2) I2 q2
def dNil:TLd:=fun δ Q=>Q [] δ
def dCons (t:TEd)(u:TLd):TLd:=fun δ Q=>t δ fun _ d δ'=>u δ' fun ds δ''=>Q (d::ds) δ''
theorem z0e:DL X [] dNil:=⟨_,z0j,fun io H0 F0 F δ σ H Q Qd I q k=>k [] [] δ F H (Same.refl _) I rfl q⟩
theorem z0a {es:List Expr}{u:TLd}(ha:DE X a da)(hr:DL X es u)(hs:starEach (a::es) X.env=(false,eval a X.env)::starEach es X.env:=by rfl):DL X (a::es) (dCons da u):=by
 obtain⟨ta,pa,sa⟩:=ha;obtain⟨tr,pr,sr⟩:=hr
 refine⟨_,z0d pa pr hs,fun io H0 F0 F δ σ H Q Qd I q k=>sa.fz I q fun d v δ' F' H' sf I' r q'=>sr io H0 F0 F' δ' σ H' _ _ I' q' fun ds vs δ2 F2 H2 s2 I2 r2 q2=>?_⟩
 exact k (d::ds) (v::vs) δ2 F2 H2 (sf.trans s2) I2 ⟨v,vs,rfl,Rep.mono s2 _ _ r,r2⟩ q2
def dTup (u:TLd):TEd:=fun δ Q=>u δ fun ds δ'=>ds.length≤sizeLine∧Q false (.tup ds) δ'
def dLst (u:TLd):TEd:=fun δ Q=>u δ fun ds δ'=>ds.length≤sizeLine∧Q true (.lst ds) δ'
theorem z1o {x1}{es:List Expr}{u:TLd}(h:DL X es u):DE X (.Tuple es x1 pos) (dTup u):=by
 obtain⟨t,p,s⟩:=h
 refine⟨_,z5n p,fun io H0 F0 F δ σ H Q Qd I q k=>s io H0 F0 F δ σ H _ _ I q fun ds vs δ' F' H' sf I' r q'=>⟨by rw[←r.len];exact q'.1,fun p hp=>?_⟩⟩
 obtain⟨F2,s2,I2,r2⟩:=I'.newT hp r
 exact k false _ _ δ' F2 _ (sf.trans s2) (I2.pushF r2) q'.2
theorem z1i {es:List Expr}{u:TLd}(h:DL X es u):DE X (.List es pos) (dLst u):=by
 obtain⟨t,p,s⟩:=h
 exact⟨_,z4s p,fun io H0 F0 F δ σ H Q Qd I q k=>s io H0 F0 F δ σ H _ _ I q fun ds vs δ' F' H' sf I' r q'=>⟨by rw[←r.len];exact q'.1,fun p hp=>k true _ _ δ' F' _ sf (I'.newL hp r) q'.2⟩⟩
end
def z8v (r:List V→Hp→VK→Prop)(f:List D→(Bool→D→Prop)→Prop):Prop:=∀(io:List (Option Addr)) (H0 F0 F:Hp) (δ:List Slot) (σ:St) (H:Hp) (xs:List D) (vs:List V) (Q:VK) (Qd:Bool→D→Prop),EI io H0 F0 F δ σ H→Paired (Pk F H) xs vs→f xs Qd →
 (∀b d w F' H',Same F F'→EI (none::io) H0 F0 F' (rsl b d::δ) (some w::σ) H'→Qd b d→Q w H')→r vs H Q
theorem Reps.pks {F H:Hp}:∀{ds:List D}{vs:List V},Reps F ds vs→Paired (Pk F H) ds vs
 | [],vs,h=>by cases(show vs=[] from h);exact .nil
 |d::ds,vs,h=>by obtain⟨v,r,rfl,h1,h2⟩:=h;exact .cons (.inl h1) (Reps.pks h2)
def dCB (f:List D→(Bool→D→Prop)→Prop)(u:TLd):TEd:=fun δ Q=>u δ fun ds δ'=>f ds fun b d=>Q b d δ'
def dCBV (f:List D→(Bool→D→Prop)→Prop)(i:Nat):TEd:=fun δ Q=>∃d,peek δ i=some d∧f [d] fun b d=>Q b d δ
theorem sim_CB {r:List V→Hp→VK→Prop}{f:List D→(Bool→D→Prop)→Prop}{t:TA}{u:TLd}(hs:z8v r f)(s:SimL t u):Sim (tCB r t) (dCB f u):=fun io H0 F0 F δ σ H Q Qd I q k =>
 s io H0 F0 F δ σ H _ _ I q fun ds vs δ' F' H' sf I' r q'=>hs io H0 F0 F' δ' σ H' ds vs Q _ I' r.pks q' fun b d w F2 H2 s2 I2 q2=>k b d w δ' F2 H2 (sf.trans s2) I2 q2
theorem sim_CBV {r:List V→Hp→VK→Prop}{f:List D→(Bool→D→Prop)→Prop}{i:Nat}(hs:z8v r f):Sim (tCB r (x0p (tVar i) tNil)) (dCBV f i):=fun io H0 F0 F δ σ H Q Qd I q k=>by
 obtain⟨d,e,q⟩:=q
 obtain⟨v,ev,pk⟩:=I.pk e
 exact⟨v,ev,hs io H0 F0 F δ σ H [d] [v] Q _ I (.cons pk .nil) q fun b d w F2 H2 s2 I2 q2=>k b d w δ F2 H2 s2 I2 q2⟩
section
variable {X:Cx}{pos p p':Pos}{e:Expr}{es:List Expr}{x y:Str}{u:TLd}{f:List D→(Bool→D→Prop)→Prop}{r:List V→Hp→VK→Prop}{id T:String}
theorem z4x (hs:z8v r f)(hc:z7d X (.builtin id) r)(hg:Gl X x)(hm:X.mg x=none)(hv:bootBuiltins x=some (.builtin id))(ha:DL X (e::es) u)(hn:x ≠ "__name__":=by decide)(hdb:(x == ("__debug__":Str))=false:=by decide)
  (he:starEach (e::es) X.env=(false,eval e X.env)::starEach es X.env:=by rfl)(hpl:(backTo pos (starEach es X.env)).any (·.1)=false:=by rfl):DE X (.Call (.Name x p) (e::es) [] pos) (dCB f u):=by
 obtain⟨t,pt,s⟩:=ha;exact⟨_,z3e hc hg hm hv pt hn hdb he hpl,sim_CB hs s⟩
theorem z1q {i:Nat}(hs:z8v r f)(hc:z7d X (.builtin id) r)(hg:Gl X x)(hm:X.mg x=none)(hv:bootBuiltins x=some (.builtin id))(ha:PE X (.Name y p') (tVar i))(hn:x ≠ "__name__":=by decide)(hdb:(x == ("__debug__":Str))=false:=by decide)
  (he:starEach [.Name y p'] X.env=[(false,eval (.Name y p') X.env)]:=by rfl)(hpl:(backTo pos (starEach [] X.env)).any (·.1)=false:=by rfl):DE X (.Call (.Name x p) [.Name y p'] [] pos) (dCBV f i) :=
 ⟨_,z3e hc hg hm hv (z0d ha z0j he) hn hdb he hpl,sim_CBV hs⟩
theorem z8f (hs:z8v r f)(hc:z7d X (.type T) r)(hg:Gl X x)(hm:X.mg x=none)(hv:bootBuiltins x=some (.type T))(ha:DL X (e::es) u)(hn:x ≠ "__name__":=by decide)(hdb:(x == ("__debug__":Str))=false:=by decide)
  (he:starEach (e::es) X.env=(false,eval e X.env)::starEach es X.env:=by rfl)(hpl:(backTo pos (starEach es X.env)).any (·.1)=false:=by rfl):DE X (.Call (.Name x p) (e::es) [] pos) (dCB f u):=by
 obtain⟨t,pt,s⟩:=ha;exact⟨_,y4k hc hg hm hv pt hn hdb he hpl,sim_CB hs s⟩
end
theorem pks1 {F H:Hp}{d:D}{vs:List V}(h:Paired (Pk F H) [d] vs):∃v,vs=[v]∧Pk F H d v:=by
 cases h with
 |cons h t=>cases t;exact⟨_,rfl,h⟩
theorem pks2 {F H:Hp}{d d':D}{vs:List V}(h:Paired (Pk F H) [d,d'] vs):∃v v',vs=[v,v']∧Pk F H d v∧Pk F H d' v':=by
 cases h with
 |cons h t =>
  cases t with
  |cons h' t=>cases t;exact⟨_,_,rfl,h,h'⟩
def fLenL:List D→(Bool→D→Prop)→Prop:=fun ds Q=>∃xs,ds=[.lst xs]∧Q false (.int xs.length)
def fLenS:List D→(Bool→D→Prop)→Prop:=fun ds Q=>∃z,ds=[.str z]∧z.length≤sizeLine∧Q false (.int z.length)
theorem z3x:z8v (fun xs H Q=>∃p,xs=[.ref p]∧∃ys,H p=some (.lst ys)∧Q (.int ys.length) H) fLenL:=by
 intro io H0 F0 F δ σ H xs vs Q Qd I px q k
 obtain⟨ys,rfl,q⟩:=q
 obtain⟨v,rfl,pk⟩:=pks1 px
 obtain⟨a,us,rfl,h1,r⟩:=pk.lst I
 refine⟨a,rfl,us,h1,k false (.int ys.length) _ F H (Same.refl _) (I.pushF ?_) q⟩
 rw[r.len];rfl
theorem y6r:z8v (fun xs H Q=>∃z,xs=[.str z]∧z.length≤sizeLine∧Q (.int z.length) H) fLenS:=by
 intro io H0 F0 F δ σ H xs vs Q Qd I px q k
 obtain⟨z,rfl,hz,q⟩:=q
 obtain⟨v,rfl,pk⟩:=pks1 px
 cases pk.str
 exact⟨z,rfl,hz,k false _ _ F H (Same.refl _) I.pI q⟩
def tyD:D→String
 |.non=>"NoneType" | .bl _=>"bool" | .int _=>"int" | .str _=>"str" | .ty _=>"type" | .lst _=>"list" | .tup _=>"tuple" | .dct _=>"dict"
def isTy (t T:String):Bool:=t == T||(t == "bool"&&T == "int")
def KitOk (K:PySem.W.Frag):Prop:=∀t∈["str","int","bool","list","tuple","dict","NoneType"],∀T∈["str","int","bool","list","tuple","dict"],PySem.W.kitOne K (.type t) (.type T)=some (isTy t T)
def fIsI:List D→(Bool→D→Prop)→Prop:=fun ds Q=>∃d T,ds=[d,.ty T]∧tyD d ≠ "type"∧T∈["str","int","bool","list","tuple","dict"]∧Q false (.bl (isTy (tyD d) T))
theorem tyOf_pk {K:PySem.W.Frag}{io:List (Option Addr)}{H0 F0 F:Hp}{δ:List Slot}{σ:St}{H:Hp}{d:D}{v:V}(I:EI io H0 F0 F δ σ H)(p:Pk F H d v)(h:tyD d ≠ "type"):TyOf K H v (.type (tyD d)):=by
 cases d with
 |lst xs=>obtain⟨a,vs,rfl,h1,r⟩:=p.lst I;exact .lst h1
 |tup xs=>obtain⟨a,vs,rfl,h1,r⟩:=p.tup I;exact .tup h1
 |dct xs=>obtain⟨a,vs,rfl,h1,r⟩:=p.dct I;exact .dK h1
 |bl c=>cases p.bl;exact .bl c
 |int c=>cases p.int;exact .int c
 |str c=>cases p.str;exact .str c
 |non=>cases p.non;exact .non
 |ty c=>exact absurd rfl h
theorem z9 {K:PySem.W.Frag}(hk:KitOk K):z8v (fun xs H Q=>∃x T t b,xs=[x,.ty T]∧TyOf K H x t∧PySem.W.kitOne K t (.type T)=some b∧Q (.bl b) H) fIsI:=by
 intro io H0 F0 F δ σ H xs vs Q Qd I px q k
 obtain⟨d,T,rfl,hd,hT,q⟩:=q
 obtain⟨v,v',rfl,p1,p2⟩:=pks2 px
 have e:v' = .ty T:=by
  rcases p2 with h|⟨a,_,h⟩
  ·exact h
  ·exact h.elim
 subst e
 refine⟨v,T,_,_,rfl,tyOf_pk I p1 hd,hk _ ?_ T hT,k false _ _ F H (Same.refl _) I.pB q⟩
 cases d<;>first|exact absurd rfl hd|simp[tyD]
def y7:List D→(Bool→D→Prop)→Prop:=fun ds Q=>∃xs,ds=[.lst xs]∧Q true (.lst xs)
theorem x2f:z8v (fun xs H Q=>∃p,xs=[.ref p]∧∃ys,H p=some (.lst ys)∧∀l,H l=none→Q (.ref l) (upd H l (.lst ys))) y7:=by
 intro io H0 F0 F δ σ H xs vs Q Qd I px q k
 obtain⟨ys,rfl,q⟩:=q
 obtain⟨v,rfl,pk⟩:=pks1 px
 obtain⟨a,us,rfl,h1,r⟩:=pk.lst I
 exact⟨a,rfl,us,h1,fun l hl=>k true _ _ F _ (Same.refl _) (I.newL hl r) q⟩
def fInt1:List D→(Bool→D→Prop)→Prop:=fun ds Q=>(∃i,ds=[.int i]∧Q false (.int i)) ∨ ∃b,ds=[.bl b]∧Q false (.int (if b then 1 else 0))
theorem cs_int:z8v (fun xs H Q=>(∃i,xs=[.int i]∧Q (.int i) H) ∨ ∃k,xs=[.bl k]∧Q (.int (if k then 1 else 0)) H) fInt1:=by
 intro io H0 F0 F δ σ H xs vs Q Qd I px q k
 rcases q with ⟨i,rfl,q⟩|⟨b,rfl,q⟩
 ·obtain⟨v,rfl,pk⟩:=pks1 px
  cases pk.int
  exact .inl ⟨i,rfl,k false _ _ F H (Same.refl _) I.pI q⟩
 ·obtain⟨v,rfl,pk⟩:=pks1 px
  cases pk.bl
  exact .inr ⟨b,rfl,k false _ _ F H (Same.refl _) I.pI q⟩
def MtS (r:V→List V→Hp→VK→Prop)(f:D→List D→(D→D→Prop)→Prop):Prop:=∀(F H:Hp) (a:Addr) (c:D) (xs:List D) (vs:List V) (Q:VK) (Qd:D→D→Prop),Same F H→Cont F H a c→F a=none→Reps F xs vs→f c xs Qd →
 (∀c' d w o,Cont F (upd H a o) a c'→Rep F d w→Qd c' d→Q w (upd H a o))→r (.ref a) vs H Q
def isL:D→Bool
 |.lst _=>true
 |_=>false
def dMt (f:D→List D→(D→D→Prop)→Prop)(i:Nat)(u:TLd):TEd:=fun δ Q=>((peek δ i).map isL=some true)∧u δ fun ds δ'=>∃fl c,δ'[i]? = some (.ob fl c)∧f c ds fun c' d=>Q false d (δ'.set i (.ob fl c'))
theorem isL_ex {d:D}(h:isL d=true):∃xs,d=.lst xs:=by cases d<;>first|exact⟨_,rfl⟩|cases h
theorem sim_mt {r:V→List V→Hp→VK→Prop}{f:D→List D→(D→D→Prop)→Prop}{i:Nat}{t:TA}{u:TLd}(hs:MtS r f)(s:SimL t u):Sim (tLM r (tVar i) t) (dMt f i u):=fun io H0 F0 F δ σ H Q Qd I q k=>by
 obtain⟨h0,q⟩:=q
 obtain⟨d0,e0,e1⟩:=Option.map_eq_some_iff.mp h0
 obtain⟨xs,rfl⟩:=isL_ex e1
 obtain⟨v,ev,pk⟩:=I.pk e0
 obtain⟨a,vs,rfl,h1,_⟩:=pk.lst I
 refine⟨_,ev,a,rfl,⟨vs,h1⟩,s io H0 F0 F δ σ H _ _ I q fun ds us δ' F' H' sf I' r q'=>?_⟩
 obtain⟨fl,c,ec,q'⟩:=q'
 obtain⟨a',ea,n1,n2,hc,hio⟩:=I'.get i _ ec
 have:a' = a:=by
  have:=z2n ea
  rw[ev]at this;cases this;rfl
 subst this
 refine hs F' H' a' c ds us Q _ I'.sub hc n2 r q' fun c' d w o hc' rd qd=>?_
 exact k false d w _ F' _ sf ((I'.change ec ea hc').pushF rd) qd
theorem sim_mt0 {r:V→List V→Hp→VK→Prop}{f:D→List D→(D→D→Prop)→Prop}{i:Nat}(hs:MtS r f):Sim (tLM0 r (tVar i)) (dMt f i dNil):=fun io H0 F0 F δ σ H Q Qd I q k=>by
 obtain⟨v,ev,a,e,h1,h2⟩:=(sim_mt (t:=tNil) (u:=dNil) hs fun io H0 F0 F δ σ H Q Qd I q k=>k [] [] δ F H (Same.refl _) I rfl q) io H0 F0 F δ σ H Q Qd I q k
 exact⟨v,ev,a,e,h1,h2⟩
section
variable {X:Cx}{x name:Str}{p apos cpos:Pos}{e:Expr}{es:List Expr}{i:Nat}{u:TLd}{f:D→List D→(D→D→Prop)→Prop}{r:V→List V→Hp→VK→Prop}{id:String}
theorem de_mt0 (hs:MtS r f)(slot:PySem.Slot "list" name id)(hty:typeOf (.builtin id)=pure (.type "method_descriptor"))(hm:MtR X id r)(ho:PE X (.Name x p) (tVar i))
  (hbase:attributeBase (.Name x p) name X.env (eval (.Name x p) X.env)=eval (.Name x p) X.env:=by rfl)(hline:(apos.endLine == cpos.line)=true:=by rfl):DE X (.Call (.Attribute (.Name x p) name apos) [] [] cpos) (dMt f i dNil):=⟨_,x2l slot hty hm ho hbase hline,sim_mt0 hs⟩
theorem y3b (hs:MtS r f)(slot:PySem.Slot "list" name id)(hty:typeOf (.builtin id)=pure (.type "method_descriptor"))(hm:MtR X id r)(ho:PE X (.Name x p) (tVar i))(ha:DL X (e::es) u)
  (hbase:attributeBase (.Name x p) name X.env (eval (.Name x p) X.env)=eval (.Name x p) X.env:=by rfl)
  (hfew:((backTo cpos (starEach (e::es) X.env)).all (fun x=>!x.1)&&(backToKw cpos (keywordEach [] X.env)).all (fun x=>x.1.isSome)
  &&decide ((e::es).length+([]:List Keyword).length+(if ([]:List Keyword).isEmpty then 0 else 1)<30))=true:=by rfl)
  (hline:(apos.endLine == cpos.line)=true:=by rfl)(hst:starEach (e::es) X.env=(false,eval e X.env)::starEach es X.env:=by rfl)(hplain:(backTo cpos (starEach es X.env)).any (·.1)=false:=by rfl) :
  DE X (.Call (.Attribute (.Name x p) name apos) (e::es) [] cpos) (dMt f i u):=by
 obtain⟨t,pt,s⟩:=ha;exact⟨_,z9h slot hty hm ho pt hbase hfew hline hst hplain,sim_mt hs s⟩
end
def y7u:D→List D→(D→D→Prop)→Prop:=fun c ds Q=>∃xs d,c=.lst xs∧ds=[d]∧xs.length<sizeLine∧Q (.lst (xs++[d])) .non
def y7h:D→List D→(D→D→Prop)→Prop:=fun c ds Q=>∃xs ys,c=.lst xs∧ds=[.lst ys]∧xs.length+ys.length≤sizeLine∧Q (.lst (xs++ys)) .non
def fPop:D→List D→(D→D→Prop)→Prop:=fun c ds Q=>∃xs d,c=.lst xs∧ds=[]∧xs[xs.length - 1]? = some d∧Q (.lst xs.dropLast) d
theorem Reps.one_inv {F:Hp}{d:D}{vs:List V}(h:Reps F [d] vs):∃v,vs=[v]∧Rep F d v:=by
 obtain⟨v,r,rfl,h1,h2⟩:=h
 cases(show r=[] from h2)
 exact⟨v,rfl,h1⟩
theorem z4i:MtS z8p y7u:=by
 intro F H a c xs vs Q Qd s hc hf r q k
 obtain⟨ys,d,rfl,rfl,hl,q⟩:=q
 obtain⟨us,h1,r1⟩:=hc
 obtain⟨v,rfl,rv⟩:=r.one_inv
 exact⟨a,us,v,rfl,rfl,h1,by rw[←r1.len];exact hl,k (.lst _) .non .non _ ⟨_,z0g,r1.app (.one rv)⟩ rfl q⟩
theorem ms_extend:MtS rExtend y7h:=by
 intro F H a c xs vs Q Qd s hc hf r q k
 obtain⟨ys,d,rfl,rfl,hl,q⟩:=q
 obtain⟨us,h1,r1⟩:=hc
 obtain⟨v,rfl,b,ws,rfl,h2,r2⟩:=r.one_inv
 exact⟨a,b,us,ws,rfl,rfl,h1,s _ _ h2,by rw[←r1.len,←r2.len];exact hl,k (.lst _) .non .non _ ⟨_,z0g,r1.app r2⟩ rfl q⟩
theorem ms_pop:MtS rPop fPop:=by
 intro F H a c xs vs Q Qd s hc hf r q k
 obtain⟨ys,d,rfl,rfl,hl,q⟩:=q
 obtain⟨us,h1,r1⟩:=hc
 cases(show vs=[] from r)
 obtain⟨v,ev,rv⟩:=r1.get hl
 exact⟨a,us,v,rfl,rfl,h1,by rw[←r1.len];exact ev,k (.lst _) d v _ ⟨_,z0g,r1.dropLast⟩ rv q⟩
end VL
namespace VL
open PySem L2
def dNext:TSd:=fun E δ=>E.nx δ
def dSeq (t u:TSd):TSd:=fun E δ=>t { E with nx:=u E } δ
def dRet (td:TEd):TSd:=fun E δ=>td δ E.rt
def x1a:TSd:=fun _ _=>False
def dDrop (td:TEd):TSd:=fun E δ=>td δ fun _ _ δ'=>E.nx δ'
def dIfS (c:TTd)(t u:TSd):TSd:=fun E δ=>c δ fun b δ'=>if b=true then t E δ' else u E δ'
def noIo (δ:List Slot)(i:Nat):Prop :=
 match δ[i]? with
 |some (.ob true _)=>False
 |none=>False
 |_=>True
theorem noIo.ne {δ:List Slot}{i:Nat}(h:noIo δ i):(∀c,δ[i]? ≠ some (.ob true c))∧i<δ.length:=by
 unfold noIo at h
 split at h
 ·exact h.elim
 ·exact h.elim
 ·rename_i h1 h2
  refine⟨fun c e=>h1 c e,?_⟩
  cases q:δ[i]? with
  |none=>exact absurd q h2
  |some s=>exact(List.getElem?_eq_some_iff.mp q).1
def dSet (i:Nat)(td:TEd):TSd:=fun E δ=>td δ fun b d δ'=>noIo δ' i∧E.nx (δ'.set i (rsl b d))
section
variable {X:Cx}{pos:Pos}{a b:Expr}{da db:TEd}
theorem x0z:SimS tNext dNext:=fun io H0 F0 F δ σ H E Ed I q S=>S.nx F δ σ H (Same.refl _) I q
theorem x0d:SimS z9x x1a:=fun io H0 F0 F δ σ H E Ed I q S=>q.elim
theorem simS_seq {t u:TS}{td ud:TSd}(s:SimS t td)(s':SimS u ud):SimS (tSeq t u) (dSeq td ud):=fun io H0 F0 F δ σ H E Ed I q S =>
 s io H0 F0 F δ σ H _ _ I q ⟨fun F' δ' σ' H' sf I' q'=>s' io H0 F0 F' δ' σ' H' E Ed I' q' (S.mono sf),S.rt,S.bk,S.ct⟩
theorem simS_ret {te:TE}{td:TEd}(s:Sim te td):SimS (tRet te) (dRet td):=fun io H0 F0 F δ σ H E Ed I q S =>
 s io H0 F0 F δ σ H _ _ I q fun b d v δ' F' H' sf I' q'=>S.rt b d v F' δ' σ H' sf I' q'
theorem x2o {te:TE}{td:TEd}(s:Sim te td):SimS (tDrop te) (dDrop td):=fun io H0 F0 F δ σ H E Ed I q S =>
 s io H0 F0 F δ σ H _ _ I q fun b d v δ' F' H' sf I' q'=>S.nx F' δ' σ H' sf I'.pop q'
theorem simS_if {c:TT}{cd:TTd}{t u:TS}{td ud:TSd}(sc:SimT c cd)(s:SimS t td)(s':SimS u ud):SimS (tIfS c t u) (dIfS cd td ud):=fun io H0 F0 F δ σ H E Ed I q S =>
 sc io H0 F0 F δ σ H _ _ I q fun b δ' F' H' sf I' q'=>by
  cases b with
  |true=>rw[if_pos rfl]at q' ⊢;exact s io H0 F0 F' δ' σ H' E Ed I' q' (S.mono sf)
  |false=>rw[if_neg Bool.false_ne_true]at q' ⊢;exact s' io H0 F0 F' δ' σ H' E Ed I' q' (S.mono sf)
theorem y8k {te:TE}{td:TEd}{i:Nat}(s:Sim te td):SimS (tAsg te (y2e i)) (dSet i td):=fun io H0 F0 F δ σ H E Ed I q S =>
 s io H0 F0 F δ σ H _ _ I q fun b d v δ' F' H' sf I' q'=>by
  obtain⟨h,q'⟩:=q'
  obtain⟨h1,h2⟩:=h.ne
  exact S.nx F' _ _ H' sf (I'.setv h1 h2) q'
theorem z0v:DSs X [] dNext:=⟨_,z1w,x0z⟩
theorem z0c {st:Stmt}{rest:List Stmt}{t u:TSd}(h:DS X st t)(h':DSs X rest u):DSs X (st::rest) (dSeq t u):=by
 obtain⟨t,p,s⟩:=h;obtain⟨t',p',s'⟩:=h';exact⟨_,z0k p p',simS_seq s s'⟩
theorem z0h {st:Stmt}{t:TSd}(h:DS X st t):DSs X [st] t:=by obtain⟨t,p,s⟩:=h;exact⟨_,z0q p,s⟩
theorem z7r {st:Stmt}:DS X st x1a:=⟨_,z8b,x0d⟩
theorem z0r (h:DE X a da):DS X (.Return (some a) pos) (dRet da):=by obtain⟨t,p,s⟩:=h;exact⟨_,z3t p,simS_ret s⟩
theorem z5a (h:DE X a da)(hs:swapsWith a none pos.line X.env=pure false:=by rfl):DS X (.Expr a pos) (dDrop da):=by obtain⟨t,p,s⟩:=h;exact⟨_,z2t p hs,x2o s⟩
theorem z1x {c:Expr}{x y:List Stmt}{cd:TTd}{t u:TSd}(hc:DT X c cd)(h:DSs X x t)(h':DSs X y u):DS X (.If c x y pos) (dIfS cd t u):=by
 obtain⟨tc,pc,sc⟩:=hc;obtain⟨t,p,s⟩:=h;obtain⟨t',p',s'⟩:=h';exact⟨_,z3u pc p p',simS_if sc s s'⟩
theorem z1b {i:Nat}{x:Str}{pos':Pos}(hN:X.N.Nodup)(hi:X.N[i]? = some x)(hx:Loc X.env.scope x)(he:DE X a da)(hs:swapsWith a (some (.Name x pos')) pos.line X.env=pure false:=by rfl)(hf:X.fn x=true∨X.env.scope.names.lookup x=some .local:=by first|exact .inl rfl|exact .inr rfl|assumption) :
  DS X (.Assign [.Name x pos'] a pos) (dSet i da):=by obtain⟨t,p,s⟩:=he;exact⟨_,z2g hN hi hx p hs hf,y8k s⟩
def dgN (i:Nat):TGd:=fun d δ Q=>noIo δ i∧Q (δ.set i (.fz d))
abbrev TGsd:=List D→List Slot→(List Slot→Prop)→Prop
def x2n:TGsd:=fun ds δ Q=>ds=[]∧Q δ
def y4s (g:TGd)(u:TGsd):TGsd:=fun ds δ Q=>∃d r,ds=d::r∧g d δ fun δ'=>u r δ' Q
def x3d (n:Nat)(u:TGsd):TGd:=fun d δ Q=>∃ds,d=.tup ds∧ds.length=n∧u ds δ Q
def SimGs (g:TGs)(gd:TGsd):Prop:=∀(io:List (Option Addr)) (H0 F0 F:Hp) (δ:List Slot) (σ:St) (H:Hp) (ds:List D) (vs:List V) (Q:St→Hp→Prop) (Qd:List Slot→Prop),EI io H0 F0 F δ σ H→Reps F ds vs→gd ds δ Qd →
 (∀δ' σ',EI io H0 F0 F δ' σ' H→Qd δ'→Q σ' H)→g vs σ H Q
def DGs (X:Cx)(es:List Expr)(gd:TGsd):Prop:=∃g,PGs X es g∧SimGs g gd
theorem x0v (i:Nat):SimG (y2e i) (dgN i):=fun io H0 F0 F δ σ H d v Q Qd I r q k=>by
 obtain⟨h,q⟩:=q
 obtain⟨h1,h2⟩:=h.ne
 exact k _ _ ((I.pushF r).setv (b:=false) h1 h2) q
theorem z2f {i:Nat}{x:Str}(hN:X.N.Nodup)(hi:X.N[i]? = some x)(hx:Loc X.env.scope x)(hf:X.fn x=true∨X.env.scope.names.lookup x=some .local:=by first|exact .inl rfl|exact .inr rfl|assumption):DG X (.Name x pos) (dgN i):=⟨_,z4o hN hi hx hf,x0v i⟩
theorem z8l:DGs X [] x2n:=⟨_,y1p,fun io H0 F0 F δ σ H ds vs Q Qd I r q k=>by
 obtain⟨rfl,q⟩:=q
 exact⟨r,k _ _ I q⟩⟩
theorem z3f {e:Expr}{es:List Expr}{g:TGd}{u:TGsd}(h1:DG X e g)(h2:DGs X es u)
  (hs:(assignEach (e::es) X.env).map (·.2)=assign e X.env::(assignEach es X.env).map (·.2):=by rfl):DGs X (e::es) (y4s g u):=by
 obtain⟨t,p,s⟩:=h1;obtain⟨t',p',s'⟩:=h2
 refine⟨_,z5i p p' hs,fun io H0 F0 F δ σ H ds vs Q Qd I r q k=>?_⟩
 obtain⟨d,dr,rfl,q⟩:=q
 obtain⟨v,vr,rfl,r1,r2⟩:=r
 exact⟨v,vr,rfl,s io H0 F0 F δ σ H d v _ _ I r1 q fun δ' σ' I' q'=>s' io H0 F0 F δ' σ' H dr vr Q Qd I' r2 q' k⟩
theorem y2p {es:List Expr}{k:Nat}{u:TGsd}{n:Nat}(hc:X.calm=true)(h:DGs X es u)
  (hn:(assignEach es X.env).length=n:=by rfl)(hst:(assignEach es X.env).findIdx? (·.1)=none:=by rfl):DG X (.Tuple es k pos) (x3d n u):=by
 obtain⟨t,p,s⟩:=h
 refine⟨_,y5v hc p hn hst,fun io H0 F0 F δ σ H d v Q Qd I r q k=>?_⟩
 obtain⟨ds,rfl,hl,q⟩:=q
 obtain⟨a,vs,rfl,h1,r1⟩:=r
 exact⟨a,vs,rfl,SqT.of (I.sub _ _ h1),by rw[←r1.len];exact hl,s io H0 F0 F δ σ H ds vs Q Qd I r1 q k⟩
def dAsg (td:TEd)(g:TGd):TSd:=fun E δ=>td δ fun _ d δ'=>g d δ' E.nx
theorem ds_asg {tg:Expr}{g:TGd}(he:DE X a da)(hg:DG X tg g)(hs:swapsWithSole [tg] a pos.line X.env=pure false:=by rfl)(hw:swappedStores [tg] a X.env=pure none:=by rfl)
  (h1:(assignEach [tg] X.env).map (·.2)=[assign tg X.env]:=by rfl):DS X (.Assign [tg] a pos) (dAsg da g):=by
 obtain⟨t,p,s⟩:=he;obtain⟨t',p',s'⟩:=hg
 exact⟨_,ps_asg p p' hs hw h1,fun io H0 F0 F δ σ H E Ed I q S=>s.fz I q fun d v δ' F' H' sf I' r q'=>s' io H0 F0 F' δ' σ H' d v _ _ I' r q' fun δ2 σ2 I2 q2=>S.nx F' δ2 σ2 H' sf I2 q2⟩
def dSetL (i:Nat)(ti tv:TEd):TSd:=fun E δ=>tv δ fun _ v δ1=>(peek δ1 i).isSome=true∧ti δ1 fun _ y δ2=>∃fl xs k j,δ2[i]? = some (.ob fl (.lst xs))∧y=.int k∧ixN xs.length k=some j∧E.nx (δ2.set i (.ob fl (.lst (xs.set j v))))
theorem ds_setL {i:Nat}{x:Str}{p pos':Pos}{ie ve:Expr}{ti tv:TEd}(ho:PE X (.Name x p) (tVar i))(hi:DE X ie ti)(hv:DE X ve tv)(ha:∀v,assign (.Subscript (.Name x p) ie pos') X.env v=(do
   let ov ←holding [v] (eval (.Name x p) X.env)
   let iv ←holding [v,ov] (eval ie X.env)
   standAt pos'
   holding [v,ov,iv] (setItem ov iv v)
   release [v,ov,iv] []):=by intro _;rfl)(hs:swapsWithSole [.Subscript (.Name x p) ie pos'] ve pos.line X.env=pure false:=by rfl)(hw:swappedStores [.Subscript (.Name x p) ie pos'] ve X.env=pure none:=by rfl)
  (h1:(assignEach [.Subscript (.Name x p) ie pos'] X.env).map (·.2)=[assign (.Subscript (.Name x p) ie pos') X.env]:=by rfl):DS X (.Assign [.Subscript (.Name x p) ie pos'] ve pos) (dSetL i ti tv):=by
 obtain⟨t,pi,si⟩:=hi;obtain⟨t',pv,sv⟩:=hv
 refine⟨_,ps_asg pv (pg_sub ho pi set_list ha) hs hw h1,fun io H0 F0 F δ σ H E Ed I q S=>sv.fz I q fun d v δ1 F1 H1 s1 I1 r1 q1=>?_⟩
 obtain⟨p0,q1⟩:=q1
 obtain⟨d0,e0⟩:=Option.isSome_iff_exists.mp p0
 obtain⟨v0,ev,_⟩:=I1.pk e0
 refine⟨v0,ev,si.fz I1 q1 fun y u δ2 F2 H2 s2 I2 r2 q2=>?_⟩
 obtain⟨fl,xs,k,j,ec,rfl,hj,q2⟩:=q2
 obtain⟨a',ea,n1,n2,⟨vs,hc,rc⟩,hio⟩:=I2.get i _ ec
 have e:=z2n ea
 rw[ev]at e;cases e
 exact⟨a',vs,k,j,rfl,r2,hc,by rw[←rc.len];exact hj,S.nx F2 _ σ _ (s1.trans s2) (I2.change (c':=.lst (xs.set j d)) ec ea ⟨_,z0g,rc.set (Rep.mono s2 _ _ r1) j⟩) q2⟩
def ItOk (J:It)(F:Hp)(ds:List D):Prop:=∀(io:List (Option Addr)) (H0 F0 F':Hp) (δ:List Slot) (σ:St) (H':Hp),Same F F'→EI io H0 F0 F' δ σ H'→∀i,
 (∀d,ds[i]? = some d→J.go i H'∧∀x H'',J.yld i H' x H''→∃F'',Same F' F''∧EI io H0 F0 F'' δ σ H''∧Rep F'' d x)∧(i=ds.length→J.stop i H')
def SimI (wi:TI)(di:TLd):Prop:=∀(io:List (Option Addr)) (H0 F0 F:Hp) (δ:List Slot) (σ:St) (H:Hp) (R:It→Hp→Prop) (Qd:List D→List Slot→Prop),EI io H0 F0 F δ σ H→di δ Qd →
 (∀J ds δ' F' H',Same F F'→EI io H0 F0 F' δ' σ H'→ItOk J F' ds→Qd ds δ'→R J H')→wi σ H R
def DI (X:Cx)(tg e:Expr)(di:TLd):Prop:=∃wi,PI X tg e wi∧SimI wi di
def diList (td:TEd):TLd:=fun δ Q=>td δ fun _ d δ'=>∃ds,d=.lst ds∧Q ds δ'
theorem x1t {K:PySem.W.Frag}{F:Hp}{a:Addr}{vs:List V}{ds:List D}(h:F a=some (.lst vs))(r:Reps F ds vs):ItOk (Itl K a) F ds:=by
 intro io H0 F0 F' δ σ H' sf I i
 have hH:H' a=some (.lst vs):=I.sub _ _ (sf _ _ h)
 refine⟨fun d e=>?_,fun e=>?_⟩
 ·obtain⟨v,ev,rv⟩:=r.get e
  refine⟨⟨vs,v,SqL.of hH,ev⟩,fun x H'' y=>?_⟩
  obtain⟨e1,y⟩:=y
  subst e1
  have:=y vs (SqL.of hH)
  rw[ev]at this
  cases this
  exact⟨F',Same.refl _,I,Rep.mono sf _ _ rv⟩
 ·exact⟨vs,SqL.of hH,by rw[e,r.len];exact Nat.le_refl _⟩
theorem z2h {tg:Expr}(h:DE X a da):DI X tg a (diList da):=by
 obtain⟨t,p,s⟩:=h
 refine⟨_,z8k p,fun io H0 F0 F δ σ H R Qd I q k=>s.fz I q fun d v δ' F' H' sf I' r q'=>?_⟩
 obtain⟨ds,rfl,q'⟩:=q'
 obtain⟨a,vs,rfl,h1,r1⟩:=r
 exact⟨a,rfl,⟨vs,SqL.of (I'.sub _ _ h1)⟩,k _ ds δ' F' H' sf I' (x1t h1 r1) q'⟩
def rngD (lo:Int)(n:Nat):List D:=(List.range n).map fun(k:Nat)=>D.int (lo+(k:Int))
def x3h (u:TLd):TLd:=fun δ Q=>u δ fun ds δ'=>∃j:Int,ds=[.int j]∧-(2 ^ 62)≤j∧j<2 ^ 62∧Q (rngD 0 j.toNat) δ'
theorem itOk_rng {F:Hp}(lo:Int)(n:Nat):ItOk (Itr lo n) F (rngD lo n):=by
 intro io H0 F0 F' δ σ H' sf I i
 refine⟨fun d e=>?_,fun e=>?_⟩
 ·have hi:i<n:=by
   have:=(List.getElem?_eq_some_iff.mp e).1
   simpa[rngD] using this
  have ed:d=.int (lo+(i:Int)):=by
   simp[rngD,hi]at e
   exact e.symm
  subst ed
  refine⟨by simpa[Itr] using hi,fun x H'' y=>?_⟩
  have y':x=.int (lo+(i:Int))∧H'' = H':=by
   obtain⟨y1,y2⟩:=y
   first
    |exact⟨y1,y2⟩
    |exact⟨y2,y1⟩
    |exact⟨y1,y2.symm⟩
  obtain⟨rfl,rfl⟩:=y'
  exact⟨F',Same.refl _,I,rfl⟩
 ·simp[rngD]at e
  subst e
  simp[Itr]
theorem z5p {tg e:Expr}{u:TLd}{p pos:Pos}(hg:Gl X "range")(hm:X.mg "range" = none)(ha:DL X [e] u)(hs:starEach [e] X.env=[(false,eval e X.env)]:=by rfl):DI X tg (.Call (.Name "range" p) [e] [] pos) (x3h u):=by
 obtain⟨t,pt,s⟩:=ha
 refine⟨_,y5z hg hm pt hs,fun io H0 F0 F δ σ H R Qd I q k=>s io H0 F0 F δ σ H _ _ I q fun ds vs δ' F' H' sf I' r q'=>?_⟩
 obtain⟨j,rfl,h1,h2,q'⟩:=q'
 obtain⟨v,rfl,rv⟩:=r.one_inv
 cases(show v=.int j from rv)
 exact⟨j,rfl,h1,h2,k _ _ δ' F' H' sf I' (itOk_rng 0 _) q'⟩
def fgt:List Nat→List Slot→List Slot
 | [],δ=>δ
 |i::is,δ=>fgt is (δ.set i .no)
theorem EI.fgt {io:List (Option Addr)}{H0 F0 F H:Hp}{σ:St}:∀(is:List Nat) {δ:List Slot},EI io H0 F0 F δ σ H→EI io H0 F0 F (VL.fgt is δ) σ H
 | [],_,I=>I
 |i::is,_,I=>EI.fgt is I.forget
def dFor (di:TLd)(g:TGd)(tb:TSd):TSd:=fun E δ=>di δ fun ds δ'=>∃(fg:List Nat) (P:List D→List Slot→Prop),P ds (fgt fg δ') ∧
 (∀d r δ,P (d::r) δ→g d δ fun δ2=>tb { E with nx:=fun δ'=>P r (fgt fg δ'),ct:=fun δ'=>P r (fgt fg δ'),bk:=E.nx } δ2)∧∀δ,P [] δ→E.nx δ
theorem simS_for {wi:TI}{di:TLd}{g:TG}{gd:TGd}{tb:TS}{td:TSd}(si:SimI wi di)(sg:SimG g gd)(s:SimS tb td):SimS (tFor wi g tb) (dFor di gd td):=by
 intro io H0 F0 F δ σ H E Ed I q S
 refine si io H0 F0 F δ σ H _ _ I q fun J ds δ' F' H' sf I' ok q'=>?_
 obtain⟨fg,P,p0,step,fin⟩:=q'
 refine⟨fun i m σ H=>m=ds.length - i∧i≤ds.length∧∃F1 δ1,Same F' F1∧EI io H0 F0 F1 δ1 σ H∧P (ds.drop i) δ1,⟨ds.length,by simp,Nat.zero_le _,F',_,Same.refl _,I'.fgt fg,p0⟩,?_⟩
 rintro i m σ1 H1 ⟨rfl,hi,F1,δ1,s1,I1,p1⟩
 obtain⟨o1,o2⟩:=ok io H0 F0 F1 δ1 σ1 H1 s1 I1 i
 by_cases hlt:i<ds.length
 ·have ed:ds[i]? = some ds[i]:=by simp[hlt]
  have edr:ds.drop i=ds[i]::ds.drop (i+1):=List.drop_eq_getElem_cons hlt
  rw[edr]at p1
  obtain⟨go,yl⟩:=o1 _ ed
  refine .inr ⟨go,fun σ' H'=>∃F2 δ2,Same F' F2∧EI io H0 F0 F2 δ2 σ' H'∧P (ds.drop (i+1)) δ2,fun σ' H' hN=>⟨ds.length - (i+1),by omega,rfl,hlt,hN⟩,fun x H2 y=>?_⟩
  obtain⟨F2,s2,I2,r2⟩:=yl x H2 y
  refine sg io H0 F0 F2 δ1 σ1 H2 _ x _ _ I2 r2 (step _ _ δ1 p1) fun δ3 σ3 I3 q3=>?_
  refine s io H0 F0 F2 δ3 σ3 H2 _ _ I3 q3 ⟨fun F4 δ4 σ4 H4 s4 I4 q4=>⟨F4,_,(s1.trans s2).trans s4,I4.fgt fg,q4⟩,fun b d v F4 δ4 σ4 H4 s4 I4 q4=>S.rt b d v F4 δ4 σ4 H4 (((sf.trans s1).trans s2).trans s4) I4 q4,fun F4 δ4 σ4 H4 s4 I4 q4=>S.nx F4 δ4 σ4 H4 (((sf.trans s1).trans s2).trans s4) I4 q4,fun F4 δ4 σ4 H4 s4 I4 q4=>⟨F4,_,(s1.trans s2).trans s4,I4.fgt fg,q4⟩⟩
 ·have e:i=ds.length:=by omega
  subst e
  rw[List.drop_length]at p1
  exact .inl ⟨o2 rfl,S.nx F1 δ1 σ1 H1 (sf.trans s1) I1 (fin δ1 p1)⟩
theorem z5h {tg iter:Expr}{body:List Stmt}{di:TLd}{gd:TGd}{td:TSd}(hp:PassesOwn (model X.prog X.w) X.A X.env X.xe)(hc:X.calm=true)(hi:DI X tg iter di)(hg:DG X tg gd)(hb:DSs X body td)
  (hs:∀x,foldedSetIterable iter X.env x=pure x:=by intro _;rfl):DS X (.For tg iter body [] pos) (dFor di gd td):=by
 obtain⟨wi,p1,s1⟩:=hi;obtain⟨g,p2,s2⟩:=hg;obtain⟨t,p3,s3⟩:=hb
 exact⟨_,z9c hp hc p1 p2 p3 hs,simS_for s1 s2 s3⟩
def dWhile (c:TTd)(tb:TSd):TSd:=fun E δ=>∃(fg:List Nat) (P:List Slot→Prop) (μ:List Slot→Nat),P (fgt fg δ)∧∀δ,P δ→c δ fun b δ'=>if b=true then tb { E with nx:=fun δ2=>P (fgt fg δ2)∧μ (fgt fg δ2)<μ δ,ct:=fun δ2=>P (fgt fg δ2)∧μ (fgt fg δ2)<μ δ,bk:=E.nx } δ' else E.nx δ'
theorem y9y {c:TT}{cd:TTd}{tb:TS}{td:TSd}(sc:SimT c cd)(s:SimS tb td):SimS (tWhile c tb) (dWhile cd td):=by
 intro io H0 F0 F δ σ H E Ed I q S
 obtain⟨fg,P,μ,p0,step⟩:=q
 refine⟨fun m σ H=>∃F1 δ1,Same F F1∧EI io H0 F0 F1 δ1 σ H∧P δ1∧μ δ1=m,⟨_,F,_,Same.refl _,I.fgt fg,p0,rfl⟩,?_⟩
 rintro m σ1 H1 ⟨F1,δ1,s1,I1,p1,rfl⟩
 refine sc io H0 F0 F1 δ1 σ1 H1 _ _ I1 (step δ1 p1) fun b δ2 F2 H2 s2 I2 q2=>?_
 cases b with
 |false=>rw[if_neg Bool.false_ne_true]at q2 ⊢;exact S.nx F2 δ2 σ1 H2 (s1.trans s2) I2 q2
 |true =>
  rw[if_pos rfl]at q2 ⊢
  refine⟨fun σ' H'=>∃F3 δ3,Same F F3∧EI io H0 F0 F3 δ3 σ' H'∧P δ3∧μ δ3<μ δ1,fun σ' H' ⟨F3,δ3,h1,h2,h3,h4⟩=>⟨μ δ3,h4,F3,δ3,h1,h2,h3,rfl⟩,?_⟩
  exact s io H0 F0 F2 δ2 σ1 H2 _ _ I2 q2 ⟨fun F4 δ4 σ4 H4 s4 I4 q4=>⟨F4,_,(s1.trans s2).trans s4,I4.fgt fg,q4.1,q4.2⟩,fun b d v F4 δ4 σ4 H4 s4 I4 q4=>S.rt b d v F4 δ4 σ4 H4 ((s1.trans s2).trans s4) I4 q4,fun F4 δ4 σ4 H4 s4 I4 q4=>S.nx F4 δ4 σ4 H4 ((s1.trans s2).trans s4) I4 q4,fun F4 δ4 σ4 H4 s4 I4 q4=>⟨F4,_,(s1.trans s2).trans s4,I4.fgt fg,q4.1,q4.2⟩⟩
theorem y3l {c:Expr}{body:List Stmt}{cd:TTd}{td:TSd}(hp:PassesOwn (model X.prog X.w) X.A X.env X.xe)(hc:DT X c cd)(hb:DSs X body td):DS X (.While c body [] pos) (dWhile cd td):=by
 obtain⟨t1,p1,s1⟩:=hc;obtain⟨t,p3,s3⟩:=hb
 exact⟨_,ps_while hp p1 p3,y9y s1 s3⟩
end
end VL
namespace VL
open PySem L2 PySem.Spec PyProof.Rows
def er (H:Hp):Option Addr→Hp
 |none=>H
 |some a=>fun b=>if b=a then none else H b
abbrev RD:=List Slot→(Bool→D→List Slot→Prop)→Prop
def spD (R:RD):Sp:=fun vs H Q _=>∃(Hx:Hp) (ic:List (Option Addr)) (F:Hp) (δ:List Slot) (Qd:Bool→D→List Slot→Prop),(∀p a,ic.getD p none=some a→vs[p]? = some (.ref a))∧EI ic Hx F F δ (vs.map some) H∧R δ Qd ∧
 ∀b d v δ' F' H',EI (none::ic) Hx F F' (rsl b d::δ') (some v::vs.map some) H'→Qd b d δ'→Q v H'
section
variable {io ic:List (Option Addr)}{H0 F0 F F' H H':Hp}{δ δc:List Slot}{σ σc:L2.St}{b:Bool}{d:D}{v:V}
theorem EI.back0 (I:EI io H0 F0 F δ σ H)(s:Same F F')(s':Same H H')(sub:Same F' H')(new:∀b o,F' b=some o→F b=none→H b=none):EI io H0 F0 F' δ σ H' where
 base:=I.base.trans s'
 sub:=sub
 ext:=I.ext.trans s
 new:=fun b o e h=>by
  cases q:F b with
  |none=>exact I.base.free (new b o e q)
  |some u=>exact I.new b u q h
 len:=I.len
 get:=fun i t e=>(I.get i t e).mono s fun a b c es eo=>by
  subst es
  obtain⟨a',e1,h1,h2,h3,h4⟩:=I.get i _ e
  rw[eo]at e1;cases e1
  obtain⟨u,hu⟩:=h3.some
  refine⟨?_,fun u hu=>s' _ _ hu⟩
  cases q:F' a with
  |none=>rfl
  |some o=>rw[new a o q h2]at hu;cases hu
 apart:=I.apart
theorem EI.back (I:EI io H0 F0 F δ σ H)(C:EI ic H F F' (rsl b d::δc) (some v::σc) H'):EI (none::io) H0 F0 F' (rsl b d::δ) (some v::σ) H':=by
 have J:=I.back0 C.ext C.base C.sub C.new
 refine J.push ?_ fun b' c a es ev j b2 c2 ej eo=>?_
 ·have h0:=C.get 0 _ rfl
  cases b with
  |false=>obtain⟨v',e,r⟩:=h0;simp at e;subst e;exact⟨v,rfl,r⟩
  |true =>
   obtain⟨a,e,h1,h2,h3,h4⟩:=h0
   simp at e;subst e
   exact⟨a,rfl,I.base.free h1,h2,h3,fun z=>by cases z⟩
 ·subst ev
  obtain⟨a',e1,h1,h2,h3,h4⟩:=I.get j _ ej
  rw[eo]at e1;cases e1
  obtain⟨u,hu⟩:=h3.some
  have h0:=C.get 0 _ rfl
  cases b with
  |false=>cases es
  |true =>
   obtain⟨a,e,h1,_⟩:=h0
   simp at e;subst e
   rw[h1]at hu;cases hu
theorem y2j {ds:List D}{vs:List V}(s:Same F H)(r:Reps F ds vs):EI [] H F F (ds.map .fz) (vs.map some) H where
 base:=Same.refl _
 sub:=s
 ext:=Same.refl _
 new:=fun b o e h=>by rw[h]at e;cases e
 len:=by simp[r.len]
 get:=fun i t e=>by
  rw[List.getElem?_map]at e
  cases q:ds[i]? with
  |none=>rw[q]at e;cases e
  |some d =>
   rw[q]at e
   cases e
   obtain⟨v,ev,rv⟩:=r.get q
   exact⟨v,by simp[List.getD_eq_getElem?_getD,ev],rv⟩
 apart:=fun i j b c b' c' a ne e1=>by
  rw[List.getElem?_map]at e1
  cases q:ds[i]?<;>rw[q]at e1<;>cases e1
end
def dCall (R:RD)(u:TLd):TEd:=fun δ Q=>u δ fun ds δ'=>R (ds.map .fz) fun b d _=>Q b d δ'
theorem sim_call {R:RD}{t:TA}{u:TLd}{E:XK}(s:SimL t u):Sim (x0x (spD R) [] E t) (dCall R u):=fun io H0 F0 F δ σ H Q Qd I q k =>
 s io H0 F0 F δ σ H _ _ I q fun ds vs δ' F' H' sf I' r q'=>by
  show spD R (vs++[]) H' Q E
  rw[List.append_nil]
  refine⟨H',[],F',_,_,fun p a e=>by simp at e,y2j I'.sub r,q',fun b d v δ2 F2 H2 C q2=>?_⟩
  exact k b d v δ' F2 H2 (sf.trans C.ext) (I'.back C) q2
section
variable {X:Cx}{CX:CXT}{k:Nat}{f:Addr}{fd:FuncData}{ps:List Str}{R:RD}{E:XK}{x:Str}{p pos:Pos}{e:Expr}{es:List Expr}{u:TLd}
theorem z0y (G:FnOk X.prog X.w X.K X.mg X.base CX k f fd ps (spD R))(hr:Room k X.A)(hg:Gl X x)(hm:X.mg x=some (.ref f))(hk:PySem.W.keepIn X.K (.ref f)=true)(hb:Binds X.K fd ps [])(hx:z9f CX X E)
  (ha:DL X (e::es) u)(hdb:(x == ("__debug__":Str))=false:=by decide)(he:starEach (e::es) X.env=(false,eval e X.env)::starEach es X.env:=by rfl)(hpl:(backTo pos (starEach es X.env)).any (·.1)=false:=by rfl) :
  DE X (.Call (.Name x p) (e::es) [] pos) (dCall R u):=by
 obtain⟨t,pt,s⟩:=ha
 exact⟨_,z1e G hr hg hm hk hb .nil hx pt hdb he hpl,sim_call s⟩
end
abbrev TAd:=List Slot→(List (Option D)→List Slot→Prop)→Prop
def AOk (F:Hp)(w:V)(o:Option D)(v:V):Prop:=match o with|some d=>Rep F d v|none=>v=w
def SimA (i:Nat)(te:TA)(td:TAd):Prop:=∀(io:List (Option Addr)) (H0 F0 F:Hp) (δ:List Slot) (σ:L2.St) (H:Hp) (w:V) (Q:List V→Hp→Prop) (Qd:List (Option D)→List Slot→Prop),EI io H0 F0 F δ σ H→σ[i]? = some (some w)→td δ Qd →
 (∀os vs δ' F' H',Same F F'→EI io H0 F0 F' δ' σ H'→Paired (AOk F' w) os vs→Qd os δ'→Q vs H')→te σ H Q
def DA (X:Cx)(i:Nat)(es:List Expr)(td:TAd):Prop:=∃te,PA X es te∧SimA i te td
def daNil:TAd:=fun δ Q=>Q [] δ
def daV (t:TEd)(u:TAd):TAd:=fun δ Q=>t δ fun _ d δ'=>u δ' fun os δ''=>Q (some d::os) δ''
def daO (u:TAd):TAd:=fun δ Q=>u δ fun os δ''=>Q (none::os) δ''
section
variable {X:Cx}{i:Nat}{a:Expr}{es:List Expr}{da:TEd}{u:TAd}
theorem y2l:DA X i [] daNil:=⟨_,z0j,fun io H0 F0 F δ σ H w Q Qd I hw q k=>k [] [] δ F H (Same.refl _) I .nil q⟩
theorem da_v (ha:DE X a da)(hr:DA X i es u)(hs:starEach (a::es) X.env=(false,eval a X.env)::starEach es X.env:=by rfl):DA X i (a::es) (daV da u):=by
 obtain⟨ta,pa,sa⟩:=ha;obtain⟨tr,pr,sr⟩:=hr
 refine⟨_,z0d pa pr hs,fun io H0 F0 F δ σ H w Q Qd I hw q k=>sa.fz I q fun d v δ' F' H' sf I' r q'=>sr io H0 F0 F' δ' σ H' w _ _ I' hw q' fun ds vs δ2 F2 H2 s2 I2 r2 q2=>?_⟩
 exact k (some d::ds) (v::vs) δ2 F2 H2 (sf.trans s2) I2 (.cons (show Rep F2 d v from Rep.mono s2 _ _ r) r2) q2
theorem da_o {x:Str}{p:Pos}(ha:PE X (.Name x p) (tVar i))(hr:DA X i es u)(hs:starEach (.Name x p::es) X.env=(false,eval (.Name x p) X.env)::starEach es X.env:=by rfl):DA X i (.Name x p::es) (daO u):=by
 obtain⟨tr,pr,sr⟩:=hr
 refine⟨_,z0d ha pr hs,fun io H0 F0 F δ σ H w Q Qd I hw q k=>⟨w,hw,sr io H0 F0 F δ σ H w _ _ I hw q fun ds vs δ2 F2 H2 s2 I2 r2 q2=>?_⟩⟩
 exact k (none::ds) (w::vs) δ2 F2 H2 s2 I2 (.cons rfl r2) q2
end
def z6j (c:D):Option D→Slot
 |some d=>.fz d
 |none=>.ob true c
def y2b:List Slot→Option D
 |.ob true c::_=>some c
 |_::r=>y2b r
 | []=>none
def y4e (R:RD)(i:Nat)(u:TAd):TEd:=fun δ Q=>(peek δ i).isSome=true∧u δ fun os δ'=>∃fl c,δ'[i]? = some (.ob fl c)∧(os.filter Option.isNone).length=1∧R (os.map (z6j c)) fun b d δ2=>∃c',y2b δ2=some c'∧Q b d (δ'.set i (.ob fl c'))
theorem z6i:∀{δ:List Slot}{c:D},y2b δ=some c→∃p:Nat,δ[p]? = some (Slot.ob true c)
 | [],c,h=>by cases h
 |.no::r,c,h=>by obtain⟨p,e⟩:=z6i (δ:=r) h;exact⟨p+1,by simpa using e⟩
 |.fz d::r,c,h=>by obtain⟨p,e⟩:=z6i (δ:=r) h;exact⟨p+1,by simpa using e⟩
 |.sc K d::r,c,h=>by obtain⟨p,e⟩:=z6i (δ:=r) h;exact⟨p+1,by simpa using e⟩
 |.ob false d::r,c,h=>by obtain⟨p,e⟩:=z6i (δ:=r) h;exact⟨p+1,by simpa using e⟩
 |.ob true d::r,c,h=>by cases h;exact⟨0,rfl⟩
theorem Paired.getE {α β:Type}{R:α→β→Prop}:∀{xs:List α}{ys:List β}{i:Nat}{x:α},Paired R xs ys→xs[i]? = some x→∃y,ys[i]? = some y∧R x y
 |_,_,_,_,.nil,e=>by simp at e
 |_,_,0,_,.cons r _,e=>by simp at e;subst e;exact⟨_,rfl,r⟩
 |_,_,i+1,x,.cons _ t,e=>by
  obtain⟨u,h1,h2⟩:=Paired.getE (i:=i) (x:=x) t (by simpa using e)
  exact⟨u,by simpa using h1,h2⟩
theorem one_none {os:List (Option D)}(h:(os.filter Option.isNone).length=1){i j:Nat}(hi:os[i]? = some none)(hj:os[j]? = some none):i=j:=by
 induction os generalizing i j with
 |nil=>simp at hi
 |cons o os ih =>
  cases o with
  |none =>
   simp at h
   have key:∀k,os[k]? ≠ some none:=fun k e=>by
    have:=List.mem_of_getElem? e
    exact absurd rfl (h none this)
   cases i with
   |zero =>
    cases j with
    |zero=>rfl
    |succ j=>exact absurd (by simpa using hj) (key j)
   |succ i=>exact absurd (by simpa using hi) (key i)
  |some d =>
   cases i with
   |zero=>simp at hi
   |succ i =>
    cases j with
    |zero=>simp at hj
    |succ j=>exact congrArg (· + 1) (ih (by simpa using h) (by simpa using hi) (by simpa using hj))
theorem x0r {R:RD}{i:Nat}{t:TA}{u:TAd}{E:XK}(s:SimA i t u):Sim (x0x (spD R) [] E t) (y4e R i u):=fun io H0 F0 F δ σ H Q Qd I q k=>by
 obtain⟨p0,q⟩:=q
 obtain⟨d0,e0⟩:=Option.isSome_iff_exists.mp p0
 obtain⟨w,ew,_⟩:=I.pk e0
 refine s io H0 F0 F δ σ H w _ _ I ew q fun os vs δ' F' H' sf I' r q'=>?_
 obtain⟨fl,c,ec,hone,q'⟩:=q'
 obtain⟨a,ea,n1,n2,hc,hio⟩:=I'.get i _ ec
 have e:=z2n ea
 rw[ew]at e;cases e
 show spD R (vs++[]) H' Q E
 rw[List.append_nil]
 have erNe:∀b,b≠a→er H' (some a) b=H' b:=fun b hb=>if_neg hb
 have erA:er H' (some a) a=none:=if_pos rfl
 have lenE:os.length=vs.length:=Paired.length r
 refine⟨er H' (some a),os.map (fun o=>match o with|none=>some a|some _=>none),F',_,_,fun p b ep=>?_,⟨fun b o eb=>?_,I'.sub,Same.refl _,fun b o eb hb=>?_,by simp[lenE],fun j t ej=>?_,fun j l b1 c1 b2 c2 a' ne e1 e2 _ _=>?_⟩,q',fun b d v δ2 F2 H2 C q2=>?_⟩
 ·rw[List.getD_eq_getElem?_getD,List.getElem?_map]at ep
  cases eo:os[p]? with
  |none=>rw[eo]at ep;cases ep
  |some o =>
   rw[eo]at ep
   cases o with
   |some d=>cases ep
   |none =>
    cases ep
    obtain⟨v,ev,rv⟩:=Paired.getE r eo
    cases(show v=.ref a from rv)
    exact ev
 ·by_cases hb:b=a
  ·subst hb;rw[erA]at eb;cases eb
  ·rw[erNe b hb]at eb;exact eb
 ·rw[hb]at eb;cases eb
 ·rw[List.getElem?_map]at ej
  cases eo:os[j]? with
  |none=>rw[eo]at ej;cases ej
  |some o =>
   rw[eo]at ej
   cases ej
   obtain⟨v,ev,rv⟩:=Paired.getE r eo
   cases o with
   |some d=>exact⟨v,by simp[List.getD_eq_getElem?_getD,ev],rv⟩
   |none =>
    cases(show v=.ref a from rv)
    exact⟨a,by simp[List.getD_eq_getElem?_getD,ev],erA,n2,hc,fun _=>by simp[List.getD_eq_getElem?_getD,eo]⟩
 ·rw[List.getElem?_map]at e1 e2
  have key:∀{j:Nat}{b:Bool}{c':D},Option.map (z6j c) os[j]? = some (.ob b c')→os[j]? = some none:=fun {j b c'} h=>by
   cases eo:os[j]? with
   |none=>rw[eo]at h;cases h
   |some o =>
    rw[eo]at h
    cases o with
    |none=>rfl
    |some d=>cases h
  exact ne (one_none hone (key e1) (key e2))
 ·obtain⟨c',eo,q2⟩:=q2
  obtain⟨p,ep⟩:=z6i eo
  obtain⟨a2,ea2,m1,m2,hc2,hio2⟩:=C.get (p+1) _ (by simpa using ep)
  have ea3:a2=a:=by
   have h1:=hio2 rfl
   simp only[List.getD_cons_succ]at h1
   rw[List.getD_eq_getElem?_getD,List.getElem?_map]at h1
   cases eo:os[p]? with
   |none=>rw[eo]at h1;cases h1
   |some o =>
    rw[eo]at h1
    cases o with
    |some d=>cases h1
    |none=>cases h1;rfl
  subst ea3
  have hnew:∀b o,F2 b=some o→F' b=none→H' b=none∨b=a2:=fun b o e1 e2=>by
   by_cases hb:b=a2
   ·exact .inr hb
   ·have:=C.new b o e1 e2
    rw[erNe b hb]at this
    exact .inl this
  have oth:∀j b1 c1 a3,j≠i→δ'[j]? = some (.ob b1 c1)→σ.getD j none=some (.ref a3)→a3≠a2:=fun j b1 c1 a3 hj e1 e2 z=>I'.apart j i _ _ _ _ a2 hj e1 ec (by rw[e2,z]) ea
  have keepH:∀b o,b≠a2→H' b=some o→H2 b=some o:=fun b o hb e=>C.base b o (by rw[erNe b hb];exact e)
  have J:EI io H0 F0 F2 (δ'.set i (.ob fl c')) σ H2:=by
   refine⟨fun b o eb=>?_,C.sub,I'.ext.trans C.ext,fun b o e h=>?_,by simpa using I'.len,fun j t ej=>?_,fun j l b1 c1 b2 c2 a' ne e1 e2 e3 e4=>?_⟩
   ·exact keepH b o (fun z=>by rw[z,n1]at eb;cases eb) (I'.base b o eb)
   ·cases q:F' b with
    |some u=>exact I'.new b u q h
    |none =>
     rcases hnew b o e q with z|z
     ·exact I'.base.free z
     ·rw[z];exact n1
   ·rw[List.getElem?_set]at ej
    split at ej
    ·rename_i hij
     subst hij
     split at ej
     ·cases ej
      exact⟨a2,ea,n1,m2,hc2,hio⟩
     ·cases ej
    ·rename_i hij
     refine(I'.get j t ej).mono C.ext fun a3 b3 c3 es eo=>?_
     subst es
     obtain⟨a4,e1,h1,h2,h3,h4⟩:=I'.get j _ ej
     rw[eo]at e1;cases e1
     have hne:=oth j _ _ _ (fun z=>hij z.symm) ej eo
     refine⟨?_,fun u hu=>keepH _ _ hne hu⟩
     cases q:F2 a3 with
     |none=>rfl
     |some o =>
      rcases hnew a3 o q h2 with z|z
      ·obtain⟨u,hu⟩:=h3.some
       rw[z]at hu;cases hu
      ·exact absurd z hne
   ·have key:∀{j:Nat}{b1:Bool}{c1:D},(δ'.set i (.ob fl c'))[j]? = some (Slot.ob b1 c1)→∃b2 c2,δ'[j]? = some (Slot.ob b2 c2):=fun {j b1 c1} h=>by
     rw[List.getElem?_set]at h
     split at h
     ·rename_i hij;subst hij;exact⟨_,_,ec⟩
     ·exact⟨_,_,h⟩
    obtain⟨b3,c3,q1⟩:=key e1
    obtain⟨b4,c4,q2⟩:=key e2
    exact I'.apart j l _ _ _ _ a' ne q1 q2 e3 e4
  refine k b d v _ F2 H2 (sf.trans C.ext) (J.push ?_ fun b' c3 a3 es ev j b2 c2 ej eo=>?_) q2
  ·have h0:=C.get 0 _ rfl
   cases b with
   |false=>obtain⟨v',e,r⟩:=h0;simp at e;subst e;exact⟨v,rfl,r⟩
   |true =>
    obtain⟨a3,e,h1,h2,h3,h4⟩:=h0
    simp at e;subst e
    refine⟨a3,rfl,?_,h2,h3,fun z=>by cases z⟩
    by_cases hb:a3=a2
    ·rw[hb];exact n1
    ·rw[erNe a3 hb]at h1;exact I'.base.free h1
  ·subst ev
   have h0:=C.get 0 _ rfl
   cases b with
   |false=>cases es
   |true =>
    obtain⟨a5,e5,h5,_⟩:=h0
    simp at e5;subst e5
    rw[List.getElem?_set]at ej
    split at ej
    ·rename_i hij
     subst hij
     rw[ea]at eo;cases eo
     exact C.apart 0 (p+1) false d true c' a2 (by omega) rfl (by simpa using ep) rfl ea2
    ·rename_i hij
     have hne:=oth j _ _ _ (fun z=>hij z.symm) ej eo
     rw[erNe _ hne]at h5
     obtain⟨a4,e1,h1,h2,h3,h4⟩:=I'.get j _ ej
     rw[eo]at e1;cases e1
     obtain⟨u,hu⟩:=h3.some
     rw[h5]at hu;cases hu
section
variable {X:Cx}{CX:CXT}{k:Nat}{f:Addr}{fd:FuncData}{ps:List Str}{R:RD}{E:XK}{x:Str}{p pos:Pos}{e:Expr}{es:List Expr}{i:Nat}{u:TAd}
theorem z5r (G:FnOk X.prog X.w X.K X.mg X.base CX k f fd ps (spD R))(hr:Room k X.A)(hg:Gl X x)(hm:X.mg x=some (.ref f))(hk:PySem.W.keepIn X.K (.ref f)=true)(hb:Binds X.K fd ps [])(hx:z9f CX X E)
  (ha:DA X i (e::es) u)(hdb:(x == ("__debug__":Str))=false:=by decide)(he:starEach (e::es) X.env=(false,eval e X.env)::starEach es X.env:=by rfl)(hpl:(backTo pos (starEach es X.env)).any (·.1)=false:=by rfl) :
  DE X (.Call (.Name x p) (e::es) [] pos) (y4e R i u):=by
 obtain⟨t,pt,s⟩:=ha
 exact⟨_,z1e G hr hg hm hk hb .nil hx pt hdb he hpl,x0r s⟩
end
def y6a:Slot→Slot
 |.ob true c=>.ob true c
 |_=>.no
def outS:Nat→List Slot→List Slot
 |0,_=>[]
 |n+1,[]=>.no::outS n []
 |n+1,s::r=>y6a s::outS n r
theorem y3p:∀(n:Nat) (δ:List Slot),(outS n δ).length=n
 |0,_=>rfl
 |n+1,[]=>by simp[outS,y3p n]
 |n+1,s::r=>by simp[outS,y3p n]
theorem z9o:∀{n:Nat}{δ:List Slot}{p:Nat}{s:Slot},(outS n δ)[p]? = some s→s=.no ∨ ∃c,s=.ob true c∧δ[p]? = some (.ob true c)
 |0,δ,p,s,h=>by simp[outS]at h
 |n+1,[],0,s,h=>by simp[outS]at h;exact .inl h.symm
 |n+1,[],p+1,s,h=>by
  rcases z9o (n:=n) (δ:=[]) (p:=p) (s:=s) (by simpa[outS] using h) with z|⟨c,_,z⟩
  ·exact .inl z
  ·simp at z
 |n+1,t::r,0,s,h=>by
  simp[outS]at h
  cases t with
  |no=>exact .inl h.symm
  |fz d=>exact .inl h.symm
  |sc K d=>exact .inl h.symm
  |ob b c =>
   cases b with
   |false=>exact .inl h.symm
   |true=>exact .inr ⟨c,h.symm,rfl⟩
 |n+1,t::r,p+1,s,h=>by simpa using z9o (n:=n) (δ:=r) (p:=p) (s:=s) (by simpa[outS] using h)
section
variable {P:Program}{w:World}{K:PySem.W.Frag}{mg:Str→Option Value}{base:Heap}
theorem _root_.L2.Fun.okC {x qual:Str}{st:Stmt}{f:Addr}{fd:FuncData}{N ps:List Str}{k:Nat}{sp:Sp}(F:Fun K x qual st f fd)(S:FnScope N ps (z0b st))(len:∀vs H Q E,sp vs H Q E→vs.length=ps.length)
  (hbody:∀(cdv:Value) (A:Around) (outer:List Env) (s:Shared) (H:Hp) (vs:List V) (Q:VK) (E:XK),fd.code=cdv→Room k (A.deeper (envOfC qual (z0b st) s.heap.objs.size f cdv))→sp vs H Q E →
   ∃t,PSs (cxOf CX0 P w K mg base N qual (z0b st) f cdv A outer s H E).nox (z0p st) t∧t { nx:=fun _ H'=>Q .non H',rt:=Q } (L2.start N vs) H):FnOk P w K mg base CX0 (k+1) f fd ps sp:=by
 obtain⟨oc,od,kV,doc,pm,an,cdv,ct,osl,rfl,lk,hcd⟩:=F.ex
 refine fn_of lk hcd S len fun A outer s H vs Q E hr hsp=>?_
 obtain⟨t,h,q⟩:=hbody cdv A outer s H vs Q E rfl hr hsp
 exact⟨t,h.nox,q⟩
theorem Fun.dokC {x qual:Str}{st:Stmt}{f:Addr}{fd:FuncData}{N ps:List Str}{k:Nat}{R:RD}(Fn:Fun K x qual st f fd)(S:FnScope N ps (z0b st))(hlen:∀δ Qd,R δ Qd→δ.length=ps.length)(hN:ps.length≤N.length)
  (hbody:∀(cdv:Value) (A:Around) (outer:List Env) (s:Shared) (H:Hp) (E:XK) (δ:List Slot) (Qd:Bool→D→List Slot→Prop),fd.code=cdv→Room k (A.deeper (envOfC qual (z0b st) s.heap.objs.size f cdv))→R δ Qd →
   ∃td,DSs (cxOf CX0 P w K mg base N qual (z0b st) f cdv A outer s H E).nox (z0p st) td∧td { nx:=fun δ'=>Qd false .non (outS ps.length δ'),rt:=fun b d δ'=>Qd b d (outS ps.length δ') } (δ++List.replicate (N.length - ps.length) .no)) :
  FnOk P w K mg base CX0 (k+1) f fd ps (spD R):=by
 refine Fn.okC S (fun vs H Q E h=>?_) (fun cdv A outer s H vs Q E hfc hr h=>?_)
 ·obtain⟨x,ic,F,δ,Qd,_,I,hR,_⟩:=h
  have:=I.len
  rw[List.length_map]at this
  rw[←this]
  exact hlen _ _ hR
 ·obtain⟨x,ic,F,δ,Qd,hic,I,hR,kq⟩:=h
  have l1:=I.len
  rw[List.length_map]at l1
  have l2:=hlen _ _ hR
  obtain⟨td,⟨t,pt,st'⟩,ht⟩:=hbody cdv A outer s H E δ Qd hfc hr hR
  refine⟨t,pt,?_⟩
  have est:L2.start N vs=vs.map some++List.replicate (N.length - ps.length) none:=by rw[L2.start,←l1,l2]
  have I1:EI ic x F F (δ++List.replicate (N.length - ps.length) .no) (L2.start N vs) H:=by
   rw[est]
   refine⟨I.base,I.sub,I.ext,I.new,by simp[l1],fun j s e=>?_,fun i j b c b' c' a ne e1 e2 e3 e4=>?_⟩
   ·by_cases hj:j<δ.length
    ·rw[List.getElem?_append_left hj]at e
     have:=I.get j s e
     rwa [List.getD_eq_getElem?_getD,List.getD_eq_getElem?_getD,List.getElem?_append_left (by simpa[←l1] using hj),←List.getD_eq_getElem?_getD,←List.getD_eq_getElem?_getD]
    ·rw[List.getElem?_append_right (by omega),List.getElem?_replicate]at e
     split at e
     ·cases e;trivial
     ·cases e
   ·have key:∀{j:Nat}{b:Bool}{c:D},(δ++List.replicate (N.length - ps.length) Slot.no)[j]? = some (.ob b c)→j<δ.length∧δ[j]? = some (.ob b c):=fun {j b c} h=>by
     by_cases hj:j<δ.length
     ·rw[List.getElem?_append_left hj]at h;exact⟨hj,h⟩
     ·rw[List.getElem?_append_right (by omega),List.getElem?_replicate]at h
      split at h<;>cases h
    obtain⟨z1,q1⟩:=key e1
    obtain⟨z2,q2⟩:=key e2
    rw[List.getD_eq_getElem?_getD,List.getElem?_append_left (by simpa[←l1] using z1)]at e3
    rw[List.getD_eq_getElem?_getD,List.getElem?_append_left (by simpa[←l1] using z2)]at e4
    exact I.apart i j b c b' c' a ne q1 q2 (by rw[List.getD_eq_getElem?_getD];exact e3) (by rw[List.getD_eq_getElem?_getD];exact e4)
  have fin:∀(b:Bool) (d:D) (v:V) (F':Hp) (δ':List Slot) (σ':L2.St) (H':Hp),EI (none::ic) x F F' (rsl b d::δ') (some v::σ') H'→EI (none::ic) x F F' (rsl b d::outS ps.length δ') (some v::vs.map some) H':=by
   intro b d v F' δ' σ' H' I2
   have key:∀{p:Nat}{c:D},δ'[p]? = some (.ob true c)→∃a,σ'.getD p none=some (.ref a)∧(vs.map some).getD p none=some (.ref a)∧SOk x F' H' (ic.getD p none) (some (.ref a)) (.ob true c):=fun {p c} h=>by
    have q:=I2.get (p+1) _ (by simpa using h)
    simp only[List.getD_cons_succ]at q
    obtain⟨a,e,h1,h2,h3,h4⟩:=q
    have ev:=hic p a (h4 rfl)
    exact⟨a,e,by simp[List.getD_eq_getElem?_getD,ev],a,rfl,h1,h2,h3,h4⟩
   refine⟨I2.base,I2.sub,I2.ext,I2.new,by simp[y3p,←l1,l2],fun j s e=>?_,fun i j b1 c b' c' a ne e1 e2 e3 e4=>?_⟩
   ·cases j with
    |zero=>simp at e;subst e;exact I2.get 0 _ rfl
    |succ j =>
     simp only[List.getElem?_cons_succ,List.getD_cons_succ]at e ⊢
     rcases z9o e with z|⟨c,z,z2⟩
     ·subst z;trivial
     ·subst z
      obtain⟨a,_,e2,q⟩:=key z2
      rw[e2];exact q
   ·have k2:∀{j:Nat}{b1:Bool}{c:D}{a:Addr},(rsl b d::outS ps.length δ')[j]? = some (.ob b1 c)→(some v::vs.map some).getD j none=some (.ref a)→(rsl b d::δ')[j]? = some (.ob b1 c)∧(some v::σ').getD j none=some (.ref a):=fun {j b1 c a} g1 g2=>by
     cases j with
     |zero=>exact⟨g1,g2⟩
     |succ j =>
      simp only[List.getElem?_cons_succ,List.getD_cons_succ]at g1 g2 ⊢
      rcases z9o g1 with z|⟨c',z,z2⟩
      ·cases z
      ·cases z
       obtain⟨a',q1,q2,_⟩:=key z2
       rw[g2]at q2;cases q2
       exact⟨z2,q1⟩
    obtain⟨u1,u2⟩:=k2 e1 e3
    obtain⟨u3,u4⟩:=k2 e2 e4
    exact I2.apart i j _ _ _ _ a ne u1 u3 u2 u4
  exact st' ic x F F _ _ H _ _ I1 ht ⟨fun F' δ' σ' H' sf I2 q2=>kq false .non .non _ F' H' (fin _ _ _ _ _ _ _ I2.pN) q2,fun b d v F' δ' σ' H' sf I2 q2=>kq b d v _ F' H' (fin _ _ _ _ _ _ _ I2) q2,fun _ _ _ _ _ _ z=>z.elim,fun _ _ _ _ _ _ z=>z.elim⟩
theorem Fun.dok {x qual:Str}{st:Stmt}{f:Addr}{fd:FuncData}{N ps:List Str}{k:Nat}{R:RD}(Fn:Fun K x qual st f fd)(S:FnScope N ps (z0b st))(hlen:∀δ Qd,R δ Qd→δ.length=ps.length)(hN:ps.length≤N.length)
  (hbody:∀(cdv:Value) (A:Around) (outer:List Env) (s:Shared) (H:Hp) (E:XK) (δ:List Slot) (Qd:Bool→D→List Slot→Prop),Room k (A.deeper (envOfC qual (z0b st) s.heap.objs.size f cdv))→R δ Qd →
   ∃td,DSs (cxOf CX0 P w K mg base N qual (z0b st) f cdv A outer s H E).nox (z0p st) td∧td { nx:=fun δ'=>Qd false .non (outS ps.length δ'),rt:=fun b d δ'=>Qd b d (outS ps.length δ') } (δ++List.replicate (N.length - ps.length) .no)) :
  FnOk P w K mg base CX0 (k+1) f fd ps (spD R) :=
 VL.Fun.dokC Fn S hlen hN fun cdv A outer s H E δ Qd _=>hbody cdv A outer s H E δ Qd
end
end VL
namespace VL
open PySem L2
section
variable {io:List (Option Addr)}{H0 F0 F F':Hp}{δ:List Slot}{σ:St}{H:Hp}
theorem EI.pushN {o:Option V}(I:EI io H0 F0 F δ σ H):EI (none::io) H0 F0 F (.no::δ) (o::σ) H where
 base:=I.base
 sub:=I.sub
 ext:=I.ext
 new:=I.new
 len:=by simp[I.len]
 get:=fun i t e=>by
  cases i with
  |zero=>simp at e;subst e;trivial
  |succ i=>simpa using I.get i t (by simpa using e)
 apart:=fun i j b c b' c' a ne e1 e2 e3 e4=>by
  cases i with
  |zero=>simp at e1
  |succ i =>
   cases j with
   |zero=>simp at e2
   |succ j=>exact I.apart i j b c b' c' a (by omega) (by simpa using e1) (by simpa using e2) (by simpa using e3) (by simpa using e4)
theorem EI.pad (I:EI io H0 F0 F δ σ H):∀(τ:St),EI (List.replicate τ.length none++io) H0 F0 F (List.replicate τ.length .no++δ) (τ++σ) H
 | []=>I
 |o::τ=>by
  have:=(I.pad τ).pushN (o:=o)
  simpa[List.replicate_succ] using this
theorem EI.unpad:∀{τ:St}{δ:List Slot},EI (List.replicate τ.length none++io) H0 F0 F δ (τ++σ) H→EI io H0 F0 F (δ.drop τ.length) σ H
 | [],δ,I=>I
 |o::τ,[],I=>by have:=I.len;simp at this
 |o::τ,s::δ,I=>by
  have I':EI (none::(List.replicate τ.length none++io)) H0 F0 F (s::δ) (o::(τ++σ)) H:=by simpa[List.replicate_succ] using I
  simpa using EI.unpad I'.pop
theorem EI.hide {p:Addr}{acc:List D}{ys:List V}(I:EI (none::io) H0 F0 F (.ob false (.lst acc)::δ) (some (.ref p)::σ) H)(hp:H p=some (.lst ys)):EI io (upd H0 p (.lst ys)) F0 F δ σ H:=by
 have J:=I.pop
 obtain⟨a,e,h1,h2,h3,h4⟩:=I.get 0 _ rfl
 simp at e;subst e
 refine⟨fun b o eb=>?_,I.sub,I.ext,fun b o e h=>?_,J.len,fun i t e=>?_,J.apart⟩
 ·by_cases hb:b=p
  ·subst hb;rw[z0g]at eb;cases eb;exact hp
  ·rw[z0i hb]at eb;exact I.base b o eb
 ·rw[z0i (fun z=>by rw[z,h2]at e;cases e)]
  exact I.new b o e h
 ·have q:=J.get i t e
  cases t with
  |no=>trivial
  |fz d=>exact q
  |sc K d=>exact q
  |ob b c =>
   obtain⟨a,e1,g1,g2,g3,g4⟩:=q
   refine⟨a,e1,?_,g2,g3,g4⟩
   rw[z0i]
   ·exact g1
   ·rintro rfl
    exact I.apart 0 (i+1) _ _ _ _ _ (by omega) rfl (by simpa using e) rfl (by simpa using e1)
theorem EI.unhide {p:Addr}{acc:List D}{ys ys':List V}(I:EI io (upd H0 p (.lst ys)) F0 F δ σ H)(h0:H0 p=none)(hF:F0 p=none)(r:Reps F acc ys'):EI (none::io) H0 F0 F (.ob false (.lst acc)::δ) (some (.ref p)::σ) (upd H p (.lst ys')):=by
 have hFp:F p=none:=by
  cases q:F p with
  |none=>rfl
  |some o=>have:=I.new p o q hF;rw[z0g]at this;cases this
 have ownNe:∀{i:Nat}{b:Bool}{c:D}{a:Addr},δ[i]? = some (.ob b c)→σ.getD i none=some (.ref a)→a≠p:=fun {i b c a} e eo z=>by
  obtain⟨a',e1,g1,_⟩:=I.get i _ e
  rw[eo]at e1;cases e1
  rw[z,z0g]at g1;cases g1
 refine⟨fun b o eb=>?_,I.sub.upd hFp,I.ext,fun b o e h=>?_,by simp[I.len],fun i t e=>?_,fun i j b c b' c' a ne e1 e2 e3 e4=>?_⟩
 ·have hb:b≠p:=fun z=>by rw[z,h0]at eb;cases eb
  rw[z0i hb]
  exact I.base b o (by rw[z0i hb];exact eb)
 ·have q:=I.new b o e h
  by_cases hb:b=p
  ·rw[hb];exact h0
  ·rw[z0i hb]at q;exact q
 ·cases i with
  |zero=>simp at e;subst e;exact⟨p,rfl,h0,hFp,⟨ys',z0g,r⟩,fun z=>by cases z⟩
  |succ i =>
   have e':δ[i]? = some t:=by simpa using e
   have q:=I.get i t e'
   simp only[List.getD_cons_succ]
   cases t with
   |no=>trivial
   |fz d=>exact q
   |sc K d=>exact q
   |ob b c =>
    obtain⟨a,e1,g1,g2,g3,g4⟩:=q
    have ne:=ownNe e' e1
    rw[z0i ne]at g1
    exact⟨a,e1,g1,g2,g3.mono (Same.refl _) (fun o eo=>by rw[z0i ne];exact eo),g4⟩
 ·cases i with
  |zero =>
   cases j with
   |zero=>exact ne rfl
   |succ j=>simp at e1 e3;subst e3;exact ownNe (by simpa using e2) (by simpa using e4) rfl
  |succ i =>
   cases j with
   |zero=>simp at e2 e4;subst e4;exact ownNe (by simpa using e1) (by simpa using e3) rfl
   |succ j=>exact I.apart i j b c b' c' a (by omega) (by simpa using e1) (by simpa using e2) (by simpa using e3) (by simpa using e4)
end
def SimGn (n:Nat)(g:TG)(gd:TGd):Prop:=∀(io:List (Option Addr)) (H0 F0 F:Hp) (δ:List Slot) (σ:St) (H:Hp) (d:D) (v:V) (Q:St→Hp→Prop) (Qd:List Slot→Prop),EI io H0 F0 F δ σ H→Rep F d v→gd d δ Qd →
 (∀δ' σ',EI io H0 F0 F δ' σ' H→σ'.drop n=σ.drop n→σ'.length=σ.length→Qd δ'→Q σ' H)→g v σ H Q
def SimGsn (n:Nat)(g:TGs)(gd:TGsd):Prop:=∀(io:List (Option Addr)) (H0 F0 F:Hp) (δ:List Slot) (σ:St) (H:Hp) (ds:List D) (vs:List V) (Q:St→Hp→Prop) (Qd:List Slot→Prop),EI io H0 F0 F δ σ H→Reps F ds vs→gd ds δ Qd →
 (∀δ' σ',EI io H0 F0 F δ' σ' H→σ'.drop n=σ.drop n→σ'.length=σ.length→Qd δ'→Q σ' H)→g vs σ H Q
def DGn (X:Cx)(n:Nat)(e:Expr)(gd:TGd):Prop:=∃g,PG X e g∧SimGn n g gd
def DGsn (X:Cx)(n:Nat)(es:List Expr)(gd:TGsd):Prop:=∃g,PGs X es g∧SimGsn n g gd
section
variable {X:Cx}{pos:Pos}{n:Nat}
theorem z2b {i:Nat}{x:Str}(hn:i<n)(hN:X.N.Nodup)(hi:X.N[i]? = some x)(hx:Loc X.env.scope x)(hf:X.fn x=true∨X.env.scope.names.lookup x=some .local:=by first|exact .inl rfl|exact .inr rfl|assumption):DGn X n (.Name x pos) (dgN i) :=
 ⟨_,z4o hN hi hx hf,fun io H0 F0 F δ σ H d v Q Qd I r q k=>by
  obtain⟨h,q⟩:=q
  obtain⟨h1,h2⟩:=h.ne
  refine k _ _ ((I.pushF r).setv (b:=false) h1 h2) ?_ (by simp) q
  rw[List.drop_set_of_lt (by omega)]⟩
theorem y4c:DGsn X n [] x2n:=⟨_,y1p,fun io H0 F0 F δ σ H ds vs Q Qd I r q k=>by
 obtain⟨rfl,q⟩:=q
 exact⟨r,k _ _ I rfl rfl q⟩⟩
theorem z5m {e:Expr}{es:List Expr}{g:TGd}{u:TGsd}(h1:DGn X n e g)(h2:DGsn X n es u)
  (hs:(assignEach (e::es) X.env).map (·.2)=assign e X.env::(assignEach es X.env).map (·.2):=by rfl):DGsn X n (e::es) (y4s g u):=by
 obtain⟨t,p,s⟩:=h1;obtain⟨t',p',s'⟩:=h2
 refine⟨_,z5i p p' hs,fun io H0 F0 F δ σ H ds vs Q Qd I r q k=>?_⟩
 obtain⟨d,dr,rfl,q⟩:=q
 obtain⟨v,vr,rfl,r1,r2⟩:=r
 exact⟨v,vr,rfl,s io H0 F0 F δ σ H d v _ _ I r1 q fun δ' σ' I' e1 e2 q'=>s' io H0 F0 F δ' σ' H dr vr Q Qd I' r2 q' fun δ2 σ2 I2 e3 e4 q2=>k δ2 σ2 I2 (e3.trans e1) (e4.trans e2) q2⟩
theorem y6p {es:List Expr}{k:Nat}{u:TGsd}{m:Nat}(hc:X.calm=true)(h:DGsn X n es u)
  (hn:(assignEach es X.env).length=m:=by rfl)(hst:(assignEach es X.env).findIdx? (·.1)=none:=by rfl):DGn X n (.Tuple es k pos) (x3d m u):=by
 obtain⟨t,p,s⟩:=h
 refine⟨_,y5v hc p hn hst,fun io H0 F0 F δ σ H d v Q Qd I r q k=>?_⟩
 obtain⟨ds,rfl,hl,q⟩:=q
 obtain⟨a,vs,rfl,h1,r1⟩:=r
 exact⟨a,vs,rfl,SqT.of (I.sub _ _ h1),by rw[←r1.len];exact hl,s io H0 F0 F δ σ H ds vs Q Qd I r1 q k⟩
end
def dYes:TTd:=fun δ Q=>Q true δ
def DF (X:Cx)(ifs:List Expr)(td:TTd):Prop:=∃t,PF X ifs t∧SimT t td
theorem z5s {X:Cx}:DF X [] dYes:=⟨_,pf_nil,fun io H0 F0 F δ σ H Q Qd I q k=>k true δ F H (Same.refl _) I q⟩
theorem df_one {X:Cx}{c:Expr}{td:TTd}(h:DT X c td):DF X [c] td:=by obtain⟨t,p,s⟩:=h;exact⟨t,pf_one p,s⟩
def dComp (n:Nat)(di:TLd)(gd:TGd)(tc:TTd)(te:TEd):TEd:=fun δ Q=>di δ fun ds δ'=>∃P:List D→List D→List Slot→Prop,P ds [] δ' ∧
 (∀d r acc δ1,P (d::r) acc δ1→gd d (List.replicate n .no++δ1) fun δ2=>tc δ2 fun b δ3=>if b=true then te δ3 fun _ y δ4=>acc.length<sizeLine∧P r (acc++[y]) (δ4.drop n) else P r acc (δ3.drop n)) ∧
 ∀acc δ1,P [] acc δ1→Q true (.lst acc) δ1
theorem y8a {n:Nat}{wi:TI}{g:TG}{tc:TT}{te:TE}{di:TLd}{gd:TGd}{cd:TTd}{ed:TEd}(si:SimI wi di)(sg:SimGn n g gd)(sc:SimT tc cd)(se:Sim te ed):Sim (x3x n wi g tc te) (dComp n di gd cd ed):=by
 intro io H0 F0 F δ σ H Q Qd I q k
 refine si io H0 F0 F δ σ H _ _ I q fun J ds δ' F' H' sf I' ok q' Dp hD=>?_
 obtain⟨P,p0,step,fin⟩:=q'
 have hF0:F0 Dp=none:=I'.ext.free (I'.sub.free hD)
 refine⟨fun i m ys H=>m=ds.length - i∧i≤ds.length∧∃F1 δ1 acc,Same F' F1∧EI (none::io) H0 F0 F1 (.ob false (.lst acc)::δ1) (some (.ref Dp)::σ) H∧H Dp=some (.lst ys)∧P (ds.drop i) acc δ1,⟨ds.length,by simp,Nat.zero_le _,F',δ',[],Same.refl _,I'.newL hD rfl,z0g,p0⟩,?_⟩
 rintro i m ys H1 ⟨rfl,hi,F1,δ1,acc,s1,I1,hy,p1⟩
 refine⟨hy,?_⟩
 obtain⟨a,e,hH0,hF1,⟨vs,hv,rv⟩,_⟩:=I1.get 0 _ rfl
 simp at e;subst e
 rw[hy]at hv;cases hv
 have Ih:=I1.hide hy
 obtain⟨o1,o2⟩:=ok io _ F0 F1 δ1 σ H1 s1 Ih i
 by_cases hlt:i<ds.length
 ·have ed':ds[i]? = some ds[i]:=by simp[hlt]
  have edr:ds.drop i=ds[i]::ds.drop (i+1):=List.drop_eq_getElem_cons hlt
  rw[edr]at p1
  obtain⟨go,yl⟩:=o1 _ ed'
  refine .inr ⟨go,fun ys' H'=>∃F2 δ2 acc',Same F' F2∧EI (none::io) H0 F0 F2 (.ob false (.lst acc')::δ2) (some (.ref Dp)::σ) H'∧H' Dp=some (.lst ys')∧P (ds.drop (i+1)) acc' δ2,fun ys' H' hN=>⟨ds.length - (i+1),by omega,rfl,hlt,hN⟩,fun x H2 y τ hτ=>?_⟩
  obtain⟨F2,s2,I2,r2⟩:=yl x H2 y
  have I2p:=I2.pad τ
  rw[hτ]at I2p
  refine sg _ _ F0 F2 _ (τ++σ) H2 _ x _ _ I2p r2 (step _ _ acc δ1 p1) fun δ3 σ3 I3 e1 e2 q3=>?_
  have eσ:σ3=σ3.take n++σ:=by
   have h1:σ3.drop n=σ:=by rw[e1,←hτ];simp
   conv=>lhs;rw[←List.take_append_drop n σ3,h1]
  have lτ:(σ3.take n).length=n:=by
   rw[List.length_take,e2,List.length_append,hτ];omega
  refine⟨⟨σ3.take n,lτ,eσ⟩,?_⟩
  refine sc _ _ F0 F2 δ3 σ3 H2 _ _ I3 q3 fun b δ4 F4 H4 s4 I4 q4=>?_
  have back:∀{δ5:List Slot}{F5 H5:Hp},EI (List.replicate n none++io) (upd H0 Dp (.lst ys)) F0 F5 δ5 σ3 H5→EI io (upd H0 Dp (.lst ys)) F0 F5 (δ5.drop n) σ H5:=fun {δ5 F5 H5} I5=>by
   rw[eσ]at I5
   have I5':EI (List.replicate (σ3.take n).length none++io) (upd H0 Dp (.lst ys)) F0 F5 δ5 (σ3.take n++σ) H5:=by rw[lτ];exact I5
   have:=EI.unpad I5'
   rwa [lτ]at this
  cases b with
  |false =>
   rw[if_neg Bool.false_ne_true]at q4 ⊢
   have I5:=(back I4)
   have hy4:H4 Dp=some (.lst ys):=I4.base _ _ z0g
   have I6:=I5.unhide (ys':=ys) hH0 hF0 (Reps.mono (s2.trans s4) _ _ rv)
   have eH:upd H4 Dp (.lst ys)=H4:=by
    funext b;by_cases hb:b=Dp
    ·rw[hb,z0g,hy4]
    ·rw[z0i hb]
   rw[eH]at I6
   exact⟨F4,_,acc,(s1.trans s2).trans s4,I6,hy4,q4⟩
  |true =>
   rw[if_pos rfl]at q4 ⊢
   refine se.fz I4 q4 fun d v δ5 F5 H5 s5 I5 r5 q5=>?_
   refine⟨I5.base _ _ z0g,by rw[←rv.len];exact q5.1,F5,_,acc++[d],((s1.trans s2).trans s4).trans s5,?_,z0g,q5.2⟩
   exact(back I5).unhide hH0 hF0 ((Reps.mono ((s2.trans s4).trans s5) _ _ rv).app (.one r5))
 ·have e:i=ds.length:=by omega
  subst e
  rw[List.drop_length]at p1
  exact .inl ⟨o2 rfl,k true _ _ δ1 F1 H1 (sf.trans s1) I1 (fin acc δ1 p1)⟩
def tOf (td:TEd):TE:=fun σ H Q=>∃io H0 F0 F δ Qd,EI io H0 F0 F δ σ H∧td δ Qd∧∀b d v δ' F' H',Same F F'→EI (none::io) H0 F0 F' (rsl b d::δ') (some v::σ) H'→Qd b d δ'→Q v H'
theorem x2y (td:TEd):Sim (tOf td) td:=fun io H0 F0 F δ σ H Q Qd I q k=>⟨io,H0,F0,F,δ,Qd,I,q,k⟩
theorem DE.pe {X:Cx}{e:Expr}{td:TEd}(h:DE X e td):PE X e (tOf td):=by
 obtain⟨te,p,s⟩:=h
 intro pins s' σ H Q I q
 obtain⟨io,H0,F0,F,δ,Qd,J,q,k⟩:=q
 exact p pins s' σ H Q I (s io H0 F0 F δ σ H Q Qd J q k)
def ttOf (td:TTd):TT:=fun σ H Q=>∃io H0 F0 F δ Qd,EI io H0 F0 F δ σ H∧td δ Qd∧∀b δ' F' H',Same F F'→EI io H0 F0 F' δ' σ H'→Qd b δ'→Q b H'
theorem y9q (td:TTd):SimT (ttOf td) td:=fun io H0 F0 F δ σ H Q Qd I q k=>⟨io,H0,F0,F,δ,Qd,I,q,k⟩
theorem DF.pf {X:Cx}{e:List Expr}{td:TTd}(h:DF X e td):PF X e (ttOf td):=by
 obtain⟨te,p,s⟩:=h
 intro pins s' σ H Q I q
 obtain⟨io,H0,F0,F,δ,Qd,J,q,k⟩:=q
 exact p pins s' σ H Q I (s io H0 F0 F δ σ H Q Qd J q k)
def tgOf (n:Nat)(gd:TGd):TG:=fun v σ H Q=>∃io H0 F0 F δ d Qd,EI io H0 F0 F δ σ H∧Rep F d v∧gd d δ Qd∧∀δ' σ',EI io H0 F0 F δ' σ' H→σ'.drop n=σ.drop n→σ'.length=σ.length→Qd δ'→Q σ' H
theorem y9p (n:Nat)(gd:TGd):SimGn n (tgOf n gd) gd:=fun io H0 F0 F δ σ H d v Q Qd I r q k=>⟨io,H0,F0,F,δ,d,Qd,I,r,q,k⟩
theorem DGn.pg {X:Cx}{n:Nat}{e:Expr}{gd:TGd}(h:DGn X n e gd):PG X e (tgOf n gd):=by
 obtain⟨g,p,s⟩:=h
 intro pins s' σ H v u Q I r q
 obtain⟨io,H0,F0,F,δ,d,Qd,J,rd,q,k⟩:=q
 exact p pins s' σ H v u Q I r (s io H0 F0 F δ σ H d v Q Qd J rd q k)
section
variable {X:Cx}
theorem z4z {elt iter tg:Expr}(xs:List Str){pos:Pos}{ifs:List Expr}{sc:Scope}(M:List Str){di:TLd}{gd:TGd}{cd:TTd}{ed:TEd}(hc:X.calm=true)(S:CScopeG X.env.scope X.N xs sc M)(hi:DI X tg iter di)(hg:∀pins ex H₀ s₀ C,DGn (z3v X sc (xs++M) pins ex H₀ s₀ C) xs.length tg gd)
  (ht:∀pins ex H₀ s₀ C,DF (z3v X sc (xs++M) pins ex H₀ s₀ C) ifs cd)(he:∀pins ex H₀ s₀ C,DE (z3v X sc (xs++M) pins ex H₀ s₀ C) elt ed)
  (hs:∀v,foldedSetIterable iter X.env v=pure v:=by intro _;rfl):DE X (.ListComp elt [⟨tg,iter,ifs,0⟩] sc pos) (dComp xs.length di gd cd ed):=by
 obtain⟨wi,p2,s2⟩:=hi
 exact⟨_,pe_compG xs M hc (fun pins ex H₀ s₀ C=>(hg pins ex H₀ s₀ C).pg) S p2 (fun pins ex H₀ s₀ C=>(ht pins ex H₀ s₀ C).pf) (fun pins ex H₀ s₀ C=>(he pins ex H₀ s₀ C).pe) hs,y8a s2 (y9p _ _) (y9q _) (x2y _)⟩
theorem y3u {elt iter tg:Expr}{y:Str}(xs:List Str){py pos spos:Pos}{ifs:List Expr}{sc:Scope}{j:Nat}(M:List Str){di:TLd}{gd:TGd}{cd:TTd}{ed:TEd}(hN:X.N.Nodup)(hj:X.N[j]? = some y)(hy:X.env.scope.names.lookup y=some .local)(hc:X.calm=true)(S:CScopeG X.env.scope X.N xs sc M)(hi:DI X tg iter di)
  (hg:∀pins ex H₀ s₀ C,DGn (z3v X sc (xs++M) pins ex H₀ s₀ C) xs.length tg gd)(ht:∀pins ex H₀ s₀ C,DF (z3v X sc (xs++M) pins ex H₀ s₀ C) ifs cd)(he:∀pins ex H₀ s₀ C,DE (z3v X sc (xs++M) pins ex H₀ s₀ C) elt ed)
  (hsw:swapsWith (.ListComp elt [⟨tg,iter,ifs,0⟩] sc pos) (some (.Name y py)) spos.line X.env=pure true:=by rfl)
  (hs:∀v,foldedSetIterable iter X.env v=pure v:=by intro _;rfl):DS X (.Assign [.Name y py] (.ListComp elt [⟨tg,iter,ifs,0⟩] sc pos) spos) (dSet j (dComp xs.length di gd cd ed)):=by
 obtain⟨wi,p2,s2⟩:=hi
 exact⟨_,ps_compG xs M hN hj hy hc (fun pins ex H₀ s₀ C=>(hg pins ex H₀ s₀ C).pg) S p2 (fun pins ex H₀ s₀ C=>(ht pins ex H₀ s₀ C).pf) (fun pins ex H₀ s₀ C=>(he pins ex H₀ s₀ C).pe) hsw hs,y8k (y8a s2 (y9p _ _) (y9q _) (x2y _))⟩
end
end VL
namespace VL
open PySem L2
section
variable {X:Cx}{pos:Pos}
theorem de_gS {x:Str}{z:Str}{pos:Pos}(hg:Gl X x)(hm:∃t,X.mg x=some (.str z t))(hd:(x == ("__debug__":Str))=false:=by decide):DE X (.Name x pos) (dC (.str z)):=by
 obtain⟨t,hm⟩:=hm;exact de_glob (v:=.str z) (fun _=>rfl) hg hm ⟨t,rfl⟩ hd
def fIxQ:D→D→(Bool→D→Prop)→Prop:=fun x y Q=>∃xs i d,(x=.lst xs∨x=.tup xs)∧y=.int i∧atI xs i=some d∧Q false d
theorem os_ixQ {K:PySem.W.Frag}:OpS (rIx K) fIxQ:=by
 intro io H0 F0 F δ σ H x y v u Q Qd I px py q k
 obtain⟨xs,i,d,hx,rfl,h,q⟩:=q
 rcases hx with rfl|rfl
 ·obtain⟨a,vs,rfl,h1,r1⟩:=px.lst I
  obtain⟨w,e,r⟩:=r1.atI h
  exact .inl ⟨a,vs,i,w,rfl,py.int,SqL.of h1,e,k false d w F H (Same.refl _) (I.pushF r) q⟩
 ·obtain⟨a,vs,rfl,h1,r1⟩:=px.tup I
  obtain⟨w,e,r⟩:=r1.atI h
  exact .inr (.inl ⟨a,vs,i,w,rfl,py.int,SqT.of h1,e,k false d w F H (Same.refl _) (I.pushF r) q⟩)
def x0t:List D→(Bool→D→Prop)→Prop:=fun ds Q=>∃xs,(ds=[.lst xs]∨ds=[.tup xs])∧Q false (.int xs.length)
theorem y7e {K:PySem.W.Frag}:z8v (fun xs H Q=>∃p ys,xs=[.ref p]∧(SqL K H p ys∨SqT K H p ys)∧Q (.int ys.length) H) x0t:=by
 intro io H0 F0 F δ σ H xs vs Q Qd I px q k
 obtain⟨ys,h,q⟩:=q
 rcases h with rfl|rfl
 ·obtain⟨v,rfl,pk⟩:=pks1 px
  obtain⟨a,us,rfl,h1,r⟩:=pk.lst I
  refine⟨a,us,rfl,.inl (SqL.of h1),k false (.int ys.length) _ F H (Same.refl _) (I.pushF ?_) q⟩
  rw[r.len];rfl
 ·obtain⟨v,rfl,pk⟩:=pks1 px
  obtain⟨a,us,rfl,h1,r⟩:=pk.tup I
  refine⟨a,us,rfl,.inr (SqT.of h1),k false (.int ys.length) _ F H (Same.refl _) (I.pushF ?_) q⟩
  rw[r.len];rfl
abbrev TOd:=List Slot→(Option Int→List Slot→Prop)→Prop
def SimO (t:TO)(td:TOd):Prop:=∀(io:List (Option Addr)) (H0 F0 F:Hp) (δ:List Slot) (σ:St) (H:Hp) (Q:Option Int→Hp→Prop) (Qd:Option Int→List Slot→Prop),EI io H0 F0 F δ σ H→td δ Qd →
 (∀o δ' F' H',Same F F'→EI io H0 F0 F' δ' σ H'→Qd o δ'→Q o H')→t σ H Q
def DO (X:Cx)(e:Option Expr)(td:TOd):Prop:=∃t,PO X e t∧SimO t td
def doN:TOd:=fun δ Q=>Q none δ
def doS (t:TEd):TOd:=fun δ Q=>t δ fun _ d δ'=>∃i,d=.int i∧Q (some i) δ'
theorem z2e:DO X none doN:=⟨_,y3x,fun io H0 F0 F δ σ H Q Qd I q k=>k none δ F H (Same.refl _) I q⟩
theorem z1u {e:Expr}{t:TEd}(h:DE X e t):DO X (some e) (doS t):=by
 obtain⟨t,p,s⟩:=h
 refine⟨_,y0m p,fun io H0 F0 F δ σ H Q Qd I q k=>s.fz I q fun d v δ' F' H' sf I' r q'=>?_⟩
 obtain⟨i,rfl,q'⟩:=q'
 exact⟨i,r,k (some i) δ' F' H' sf I' q'⟩
def cutD (xs:List D)(lo hi:Option Int):List D:=(xs.drop (HT.sIx xs.length 0 lo)).take (HT.sIx xs.length xs.length hi - HT.sIx xs.length 0 lo)
theorem Reps.cut {F:Hp}{ds:List D}{vs:List V}(r:Reps F ds vs)(lo hi:Option Int):Reps F (cutD ds lo hi) (cutV vs lo hi):=by
 unfold cutD cutV
 rw[r.len]
 exact(r.drop _).take _
def dSlLV (i:Nat)(l h:TOd):TEd:=fun δ Q=>(peek δ i).isSome=true∧l δ fun lo δ2=>h δ2 fun hi δ3=>∃xs,peek δ3 i=some (.lst xs)∧Q true (.lst (cutD xs lo hi)) δ3
def dSlS (t:TEd)(l h:TOd):TEd:=fun δ Q=>t δ fun _ d δ1=>l δ1 fun lo δ2=>h δ2 fun hi δ3=>∃z,d=.str z∧z.length≤sizeLine∧Q false (.str (Txt.slice z lo hi)) δ3
variable {e:Expr}{lo hi:Option Expr}{p2:Pos}{t:TEd}{l h:TOd}
theorem z1m {i:Nat}{x:Str}{p:Pos}(ho:PE X (.Name x p) (tVar i))(hl:DO X lo l)(hh:DO X hi h):DE X (.Subscript (.Name x p) (.Slice lo hi none p2) pos) (dSlLV i l h):=by
 obtain⟨t2,p2,s2⟩:=hl;obtain⟨t3,p3,s3⟩:=hh
 refine⟨_,z6q y8y ho p2 p3,fun io H0 F0 F δ σ H Q Qd I q k=>?_⟩
 obtain⟨p0,q⟩:=q
 obtain⟨d0,e0⟩:=Option.isSome_iff_exists.mp p0
 obtain⟨v0,ev,_⟩:=I.pk e0
 refine⟨v0,ev,s2 io H0 F0 F δ σ H _ _ I q fun lo δ2 F2 H2 f2 I2 q2=>s3 io H0 F0 F2 δ2 σ H2 _ _ I2 q2 fun hi δ3 F3 H3 f3 I3 q3=>?_⟩
 obtain⟨xs,e3,q3⟩:=q3
 obtain⟨v,ev',pk⟩:=I3.pk e3
 rw[ev]at ev';cases ev'
 obtain⟨a,vs,rfl,h1,r⟩:=pk.lst I3
 exact⟨a,rfl,vs,h1,fun p hp=>k true _ _ δ3 F3 _ (f2.trans f3) (I3.newL hp (r.cut lo hi)) q3⟩
theorem z5q (he:DE X e t)(hl:DO X lo l)(hh:DO X hi h):DE X (.Subscript e (.Slice lo hi none p2) pos) (dSlS t l h):=by
 obtain⟨t1,p1,s1⟩:=he;obtain⟨t2,p2,s2⟩:=hl;obtain⟨t3,p3,s3⟩:=hh
 refine⟨_,z6q sl_str p1 p2 p3,fun io H0 F0 F δ σ H Q Qd I q k=>s1.fz I q fun d v δ1 F1 H1 f1 I1 r1 q1=>s2 io H0 F0 F1 δ1 σ H1 _ _ I1 q1 fun lo δ2 F2 H2 f2 I2 q2=>s3 io H0 F0 F2 δ2 σ H2 _ _ I2 q2 fun hi δ3 F3 H3 f3 I3 q3=>?_⟩
 obtain⟨z,rfl,hz,q3⟩:=q3
 exact⟨z,r1,hz,k false _ _ δ3 F3 _ ((f1.trans f2).trans f3) I3.pS q3⟩
def dJoin (ta tb:TEd):TEd:=fun δ Q=>ta δ fun _ x δ1=>∃sep,x=.str sep∧tb δ1 fun _ y δ2=>∃ts:List Str,y=.lst (ts.map .str)∧JoinOk sep ts=true∧Q false (.str (Txt.join sep ts)) δ2
theorem y0y {a b:Expr}{ta tb:TEd}{apos cpos:Pos}(ha:DE X a ta)(hb:DE X b tb)
  (hbase:attributeBase a "join" X.env (eval a X.env)=eval a X.env:=by rfl)
  (hfew:((backTo cpos (starEach [b] X.env)).all (fun x=>!x.1)&&(backToKw cpos (keywordEach [] X.env)).all (fun x=>x.1.isSome)
  &&decide ([b].length+([]:List Keyword).length+(if ([]:List Keyword).isEmpty then 0 else 1)<30))=true:=by rfl)
  (hline:(apos.endLine == cpos.line)=true:=by rfl)(hst:starEach [b] X.env=(false,eval b X.env)::starEach [] X.env:=by rfl)(hplain:(backTo cpos (starEach [] X.env)).any (·.1)=false:=by rfl) :
  DE X (.Call (.Attribute a "join" apos) [b] [] cpos) (dJoin ta tb):=by
 obtain⟨t1,p1,s1⟩:=ha;obtain⟨t2,p2,s2⟩:=hb
 refine⟨_,pe_bm PySem.F.plainAttrs_str PySem.F.slot_str_join PySem.F.type_str_join mt_join p1 (z0d p2 z0j hst) hbase hfew hline hst hplain,fun io H0 F0 F δ σ H Q Qd I q k=>s1.fz I q fun d v δ1 F1 H1 f1 I1 r1 q1=>?_⟩
 obtain⟨sep,rfl,q1⟩:=q1
 cases(show v=.str sep from r1)
 refine⟨rfl,s2.fz I1 q1 fun d v δ2 F2 H2 f2 I2 r2 q2=>?_⟩
 obtain⟨ts,rfl,ok,q2⟩:=q2
 obtain⟨a,vs,rfl,h1,r⟩:=r2
 rw[r.strs]at h1
 exact⟨sep,a,rfl,rfl,ts,I2.sub _ _ h1,ok,k false _ _ δ2 F2 H2 (f1.trans f2) I2.pS q2⟩
end
def getS (kds:List (Key×D))(k:Str):Option D:=(kds.find? fun kv=>decide (kv.1=Sum.inr k)).map (·.2)
def putS (kds:List (Key×D))(k:Str)(d:D):List (Key×D):=if (kds.any fun kv=>decide (kv.1=Sum.inr k))=true then kds.map (fun kv=>if kv.1=Sum.inr k then(kv.1,d) else kv) else kds++[(Sum.inr k,d)]
theorem RepK.len {F:Hp}:∀{ds:List (Key×D)}{vs:List (Key×V)},RepK F ds vs→ds.length=vs.length
 | [],vs,h=>by cases(show vs=[] from h);rfl
 |d::ds,vs,h=>by obtain⟨v,r,rfl,h1,h2⟩:=h;simp[RepK.len h2]
theorem RepK.val {F:Hp}(k:Str):∀{ds:List (Key×D)}{vs:List (Key×V)},RepK F ds vs→(∀d,getS ds k=some d→∃v,valV vs (Sum.inr k)=some v∧Rep F d v)∧(getS ds k=none→valV vs (Sum.inr k)=none)
 | [],vs,h=>by cases(show vs=[] from h);exact⟨fun d e=>by simp[getS]at e,fun _=>rfl⟩
 |(k',d)::ds,vs,h=>by
  obtain⟨⟨q1,q2⟩,r,rfl,⟨e1,r1⟩,h2⟩:=h
  have ih:=RepK.val k h2
  cases(show q1=k' from e1)
  by_cases hk:k' = Sum.inr k
  ·refine⟨fun d' e=>⟨q2,by simp[valV,hk],?_⟩,fun e=>by simp[getS,hk]at e⟩
   simp[getS,hk]at e
   subst e
   exact r1
  ·refine⟨fun d' e=>?_,fun e=>?_⟩
   ·obtain⟨v,e2,r2⟩:=ih.1 d' (by simpa[getS,List.find?_cons,hk] using e)
    exact⟨v,by simpa[valV,List.find?_cons,hk] using e2,r2⟩
   ·have:=ih.2 (by simpa[getS,List.find?_cons,hk] using e)
    simpa[valV,List.find?_cons,hk] using this
theorem RepK.any {F:Hp}(k:Key):∀{ds:List (Key×D)}{vs:List (Key×V)},RepK F ds vs→(ds.any fun kv=>decide (kv.1=k))=(vs.any fun kv=>decide (kv.1=k))
 | [],vs,h=>by cases(show vs=[] from h);rfl
 |(k',d)::ds,vs,h=>by
  obtain⟨⟨q1,q2⟩,r,rfl,⟨e1,r1⟩,h2⟩:=h
  cases(show q1=k' from e1)
  simp[RepK.any k h2]
theorem RepK.app {F:Hp}:∀{ds es:List (Key×D)}{vs us:List (Key×V)},RepK F ds vs→RepK F es us→RepK F (ds++es) (vs++us)
 | [],es,vs,us,h,h'=>by cases(show vs=[] from h);exact h'
 |d::ds,es,vs,us,h,h'=>by obtain⟨v,r,rfl,h1,h2⟩:=h;exact⟨v,r++us,rfl,h1,RepK.app h2 h'⟩
theorem RepK.upd {F:Hp}(k:Key){d:D}{v:V}(hv:Rep F d v):∀{ds:List (Key×D)}{vs:List (Key×V)},RepK F ds vs→RepK F (ds.map fun kv=>if kv.1=k then(kv.1,d) else kv) (vs.map fun kv=>if kv.1=k then(kv.1,v) else kv)
 | [],vs,h=>by cases(show vs=[] from h);rfl
 |(k',d')::ds,vs,h=>by
  obtain⟨⟨q1,q2⟩,r,rfl,⟨e1,r1⟩,h2⟩:=h
  cases(show q1=k' from e1)
  refine⟨_,_,rfl,?_,RepK.upd k hv h2⟩
  by_cases hk:k' = k
  ·simp only[hk,if_true];exact(show RepP F (k,d) (k,v) from⟨rfl,hv⟩)
  ·simp only[hk,if_false];exact(show RepP F (k',d') (k',q2) from⟨rfl,r1⟩)
theorem RepK.put {F:Hp}{ds:List (Key×D)}{vs:List (Key×V)}(r:RepK F ds vs)(k:Str){d:D}{v:V}(hv:Rep F d v):RepK F (putS ds k d) (putK vs (Sum.inr k) v):=by
 unfold putS putK
 rw[r.any]
 split
 ·exact r.upd _ hv
 ·exact r.app ⟨_,[],rfl,⟨rfl,hv⟩,rfl⟩
section
variable {X:Cx}{pos:Pos}
def dDict0:TEd:=fun δ Q=>Q true (.dct []) δ
theorem de_dict0:DE X (.Dict [] [] pos) dDict0:=⟨_,y9b,fun io H0 F0 F δ σ H Q Qd I q k p hp=>k true (.dct []) _ δ F _ (Same.refl _) (I.newD (ds:=[]) (vs:=[]) hp rfl) q⟩
def x0h (neg:Bool)(ti:TEd)(i:Nat):TEd:=fun δ Q=>ti δ fun _ y δ'=>∃kds k,peek δ' i=some (.dct kds)∧y=.str k∧Q false (.bl (if neg then !(getS kds k).isSome else(getS kds k).isSome)) δ'
theorem sim_din {ti:TE}{td:TEd}{i:Nat}(si:Sim ti td):Sim (tDIn ti (tVar i)) (x0h false td i)∧Sim (z8q ti (tVar i)) (x0h true td i):=by
 refine⟨fun io H0 F0 F δ σ H Q Qd I q k=>si.fz I q fun d v δ1 F1 H1 f1 I1 r1 q1=>?_,fun io H0 F0 F δ σ H Q Qd I q k=>si.fz I q fun d v δ1 F1 H1 f1 I1 r1 q1=>?_⟩ <;>
 ·obtain⟨kds,key,e1,rfl,q1⟩:=q1
  obtain⟨w,ew,pk⟩:=I1.pk e1
  obtain⟨a,kvs,rfl,h1,rk⟩:=pk.dct I1
  cases(show v=V.str key from r1)
  have e:(valV kvs (Sum.inr key)).isSome=(getS kds key).isSome:=by
   cases eg:getS kds key with
   |none=>rw[(rk.val key).2 eg];rfl
   |some d=>obtain⟨w,ew,_⟩:=(rk.val key).1 d eg;rw[ew];rfl
  refine⟨_,ew,a,_,rfl,DGet.o h1,k false _ _ δ1 F1 H1 f1 (I1.pushF ?_) q1⟩
  rw[e];rfl
theorem dt_dinV {i:Nat}{x:Str}{p:Pos}{e:Expr}{ti:TEd}(hu:X.A.units+100<cLine)(hi:DE X e ti)(ho:PE X (.Name x p) (tVar i))(hm:behindInMarks .In (.Name x p)=false:=by rfl):DT X (.Compare e [.In] [.Name x p] pos) (y1z (x0h false ti i)):=by
 obtain⟨t,pi,si⟩:=hi;exact⟨_,y5x (pc_din (by omega) pi ho) hm,z9k (sim_din si).1⟩
theorem y2u {i:Nat}{x:Str}{p:Pos}{e:Expr}{ti:TEd}(hu:X.A.units+100<cLine)(hi:DE X e ti)(ho:PE X (.Name x p) (tVar i))(hm:behindInMarks .NotIn (.Name x p)=false:=by rfl):DT X (.Compare e [.NotIn] [.Name x p] pos) (y1z (x0h true ti i)):=by
 obtain⟨t,pi,si⟩:=hi;exact⟨_,y5x (y0g (by omega) pi ho) hm,z9k (sim_din si).2⟩
def dDPut (i:Nat)(ti tv:TEd):TSd:=fun E δ=>tv δ fun _ v δ1=>(peek δ1 i).isSome=true∧ti δ1 fun _ y δ2=>∃fl kds k,δ2[i]? = some (.ob fl (.dct kds))∧y=.str k∧kds.length<sizeLine∧E.nx (δ2.set i (.ob fl (.dct (putS kds k v))))
theorem ds_dput {i:Nat}{x:Str}{p pos':Pos}{ie ve:Expr}{ti tv:TEd}(hu:X.A.units+100<cLine)(ho:PE X (.Name x p) (tVar i))(hi:DE X ie ti)(hv:DE X ve tv)(hs:swapsWith ve (some (.Subscript (.Name x p) ie pos')) pos.line X.env=pure false:=by rfl):DS X (.Assign [.Subscript (.Name x p) ie pos'] ve pos) (dDPut i ti tv):=by
 obtain⟨t,pi,si⟩:=hi;obtain⟨t',pv,sv⟩:=hv
 refine⟨_,x2k (by omega) ho pi pv hs,fun io H0 F0 F δ σ H E Ed I q S=>sv.fz I q fun d v δ1 F1 H1 s1 I1 r1 q1=>?_⟩
 obtain⟨p0,q1⟩:=q1
 obtain⟨d0,e0⟩:=Option.isSome_iff_exists.mp p0
 obtain⟨v0,ev,_⟩:=I1.pk e0
 refine⟨v0,ev,si.fz I1 q1 fun y u δ2 F2 H2 s2 I2 r2 q2=>?_⟩
 obtain⟨fl,kds,key,ec,rfl,hl,q2⟩:=q2
 obtain⟨a',ea,n1,n2,⟨kvs,hc,rc⟩,hio⟩:=I2.get i _ ec
 have e:=z2n ea
 rw[ev]at e;cases e
 cases(show u=V.str key from r2)
 exact⟨a',_,rfl,DPut.s hc (by rw[←rc.len];exact hl),S.nx F2 _ σ _ (s1.trans s2) (I2.change (c':=.dct (putS kds key d)) ec ea ⟨_,z0g,rc.put key (Rep.mono s2 _ _ r1)⟩) q2⟩
def fDictOf:List D→(Bool→D→Prop)→Prop:=fun ds Q=>∃ps:List (Str×D),ds=[.lst (ps.map fun p=>.tup [.str p.1,p.2])]∧Q true (.dct (ps.foldl (fun acc p=>putS acc p.1 p.2) []))
theorem y3t {F:Hp}:∀{ps:List (Str×D)}{ys:List V},Reps F (ps.map fun p=>D.tup [.str p.1,p.2]) ys→∃qs:List (Key×V),qs.length=ys.length∧(∀(i:Nat) y kv,ys[i]? = some y→qs[i]? = some kv→∃b,y=.ref b∧F b=some (.tup [kV kv.1,kv.2])) ∧
  ∀(kds:List (Key×D)) (kvs:List (Key×V)),RepK F kds kvs→RepK F (ps.foldl (fun acc p=>putS acc p.1 p.2) kds) (z6 kvs qs)
 | [],ys,h=>by cases(show ys=[] from h);exact⟨[],rfl,fun i y kv e=>by simp at e,fun _ _ r=>r⟩
 |(k,d)::ps,ys,h=>by
  obtain⟨y,r,rfl,⟨b,vs,rfl,hb,rv⟩,h2⟩:=h
  obtain⟨v1,r1,rfl,e1,v2,r2,rfl,e2,e3⟩:=rv
  cases(show v1=V.str k from e1)
  cases(show r2=[] from e3)
  obtain⟨qs,l,hq,hm⟩:=y3t h2
  refine⟨(Sum.inr k,v2)::qs,by simp[l],fun i y kv g1 g2=>?_,fun kds kvs r=>hm _ _ (r.put k e2)⟩
  cases i with
  |zero=>simp at g1 g2;subst g1 g2;exact⟨b,rfl,hb⟩
  |succ i=>exact hq i y kv (by simpa using g1) (by simpa using g2)
theorem cs_dict:z8v (fun xs H Q=>∃p ys,xs=[.ref p]∧H p=some (.lst ys)∧∃ps:List (Key×V),ps.length=ys.length∧(∀(i:Nat) y kv,ys[i]? = some y→ps[i]? = some kv→∃b,y=.ref b∧H b=some (.tup [kV kv.1,kv.2])) ∧
  ∀l,H l=none→Q (.ref l) (upd H l (.dK (z6 [] ps)))) fDictOf:=by
 intro io H0 F0 F δ σ H xs vs Q Qd I px q k
 obtain⟨ps,rfl,q⟩:=q
 obtain⟨v,rfl,pk⟩:=pks1 px
 obtain⟨a,us,rfl,h1,r⟩:=pk.lst I
 obtain⟨qs,l,hq,hm⟩:=y3t r
 refine⟨a,us,rfl,h1,qs,l,fun i y kv e1 e2=>?_,fun p hp=>k true _ _ F _ (Same.refl _) (I.newD hp (hm [] [] rfl)) q⟩
 obtain⟨b,e,hb⟩:=hq i y kv e1 e2
 exact⟨b,e,I.sub _ _ hb⟩
end
end VL
namespace VL
open PySem L2
def dSlC (K:PySem.W.Frag)(i:Nat)(l h:TOd):TEd:=fun δ Q=>∃ns,δ[i]? = some (.sc K ns)∧l δ fun lo δ2=>h δ2 fun hi δ3=>Q true (.lst (cutD (ns.map .int) lo hi)) δ3
theorem cut_ints (ns:List Int)(lo hi:Option Int):∃ms:List Int,cutD (ns.map .int) lo hi=ms.map .int∧cutV (ns.map .int) lo hi=ms.map .int:=by
 refine⟨(ns.drop (HT.sIx ns.length 0 lo)).take (HT.sIx ns.length ns.length hi - HT.sIx ns.length 0 lo),?_,?_⟩
 ·unfold cutD;simp[List.map_take,List.map_drop]
 ·unfold cutV;simp[List.map_take,List.map_drop]
theorem y6e {F:Hp}:∀ms:List Int,Reps F (ms.map .int) (ms.map .int)
 | []=>rfl
 |m::ms=>⟨_,_,rfl,rfl,y6e ms⟩
theorem y5c {F:Hp}:∀ms:List Str,Reps F (ms.map .str) (ms.map .str)
 | []=>rfl
 |m::ms=>⟨_,_,rfl,rfl,y5c ms⟩
section
variable {X:Cx}{pos p2:Pos}{lo hi:Option Expr}{l h:TOd}
theorem de_sliceC {K:PySem.W.Frag}(hK:X.K=K){i:Nat}{x:Str}{p:Pos}(ho:PE X (.Name x p) (tVar i))(hl:DO X lo l)(hh:DO X hi h):DE X (.Subscript (.Name x p) (.Slice lo hi none p2) pos) (dSlC K i l h):=by
 subst hK
 obtain⟨t2,p2,s2⟩:=hl;obtain⟨t3,p3,s3⟩:=hh
 refine⟨_,z6q x2v ho p2 p3,fun io H0 F0 F δ σ H Q Qd I q k=>?_⟩
 obtain⟨ns,e,q⟩:=q
 obtain⟨a,ea,sq⟩:=I.get i _ e
 refine⟨.ref a,z2n ea,s2 io H0 F0 F δ σ H _ _ I q fun lo δ2 F2 H2 f2 I2 q2=>s3 io H0 F0 F2 δ2 σ H2 _ _ I2 q2 fun hi δ3 F3 H3 f3 I3 q3=>?_⟩
 refine⟨a,_,rfl,I3.sub.seq ((f2.trans f3).seq sq),fun p hp=>?_⟩
 obtain⟨ms,e1,e2⟩:=cut_ints ns lo hi
 rw[e1]at q3
 rw[e2]
 exact k true _ _ δ3 F3 _ (f2.trans f3) (I3.newL hp (y6e ms)) q3
end
def LoopD (ds:List D)(g:TGd)(tb:TSd)(E:EndsD)(δ:List Slot):Prop:=∃(fg:List Nat) (P:List D→List Slot→Prop),P ds (fgt fg δ) ∧
 (∀d r δ,P (d::r) δ→g d δ fun δ2=>tb { E with nx:=fun δ'=>P r (fgt fg δ'),ct:=fun δ'=>P r (fgt fg δ'),bk:=E.nx } δ2)∧∀δ,P [] δ→E.nx δ
theorem y0d {di:TLd}{g:TGd}{tb:TSd}{E:EndsD}{δ:List Slot}:dFor di g tb E δ=di δ fun ds δ'=>LoopD ds g tb E δ':=rfl
theorem z9z {ds:List D}{g:TGd}{tb:TSd}{E:EndsD}{δ:List Slot}(fg:List Nat)(P:List D→List Slot→Prop)(h0:P ds (fgt fg δ))(hs:∀d r δ,P (d::r) δ→g d δ fun δ2=>tb { E with nx:=fun δ'=>P r (fgt fg δ'),ct:=fun δ'=>P r (fgt fg δ'),bk:=E.nx } δ2)(hd:∀δ,P [] δ→E.nx δ):LoopD ds g tb E δ:=⟨fg,P,h0,hs,hd⟩
theorem x2h (lo:Int)(n i:Nat)(h:i<n):(rngD lo n).drop i=.int (lo+i)::(rngD lo n).drop (i+1):=by
 have hl:i<(rngD lo n).length:=by simpa[rngD] using h
 rw[List.drop_eq_getElem_cons hl]
 simp[rngD]
theorem x3n {lo:Int}{n:Nat}{g:TGd}{tb:TSd}{E:EndsD}{δ:List Slot}(fg:List Nat)(P:Nat→List Slot→Prop)(h0:P 0 (fgt fg δ))(hs:∀i δ,i<n→P i δ→g (.int (lo+i)) δ fun δ2=>tb { E with nx:=fun δ'=>P (i+1) (fgt fg δ'),ct:=fun δ'=>P (i+1) (fgt fg δ'),bk:=E.nx } δ2)(hd:∀δ,P n δ→E.nx δ):LoopD (rngD lo n) g tb E δ:=by
 have len:∀i,i≤n→((rngD lo n).drop i).length=n - i:=fun i _=>by simp[rngD]
 have key:∀i,i≤n→(fun δ=>(rngD lo n).drop i=(rngD lo n).drop (n - ((rngD lo n).drop i).length)∧P (n - ((rngD lo n).drop i).length) δ)=P i:=by
  intro i hi
  funext δ
  rw[len i hi,show n - (n - i)=i by omega]
  simp
 refine⟨fg,fun r δ=>r=(rngD lo n).drop (n - r.length)∧P (n - r.length) δ,?_,?_,?_⟩
 ·have:=congrFun (key 0 (Nat.zero_le _)) (fgt fg δ)
  simp only[List.drop_zero]at this
  exact this.mpr h0
 ·rintro d r δ ⟨e,p⟩
  have hlt:n - (d::r).length<n:=by
   have hle:(d::r).length≤n:=by
    rw[e];simp[rngD]
   simp at hle ⊢;omega
  generalize hi:n - (d::r).length=i at e p hlt
  rw[x2h lo n i hlt]at e
  cases e
  have q:=hs i δ hlt p
  rw[←key (i+1) hlt]at q
  exact q
 ·rintro δ ⟨_,p⟩
  exact hd δ (by simpa using p)
def x0j (n:Nat)(ds:List D)(gd:TGd)(tc:TTd)(te:TEd)(Q:Bool→D→List Slot→Prop)(δ:List Slot):Prop:=∃P:List D→List D→List Slot→Prop,P ds [] δ ∧
 (∀d r acc δ1,P (d::r) acc δ1→gd d (List.replicate n .no++δ1) fun δ2=>tc δ2 fun b δ3=>if b=true then te δ3 fun _ y δ4=>acc.length<sizeLine∧P r (acc++[y]) (δ4.drop n) else P r acc (δ3.drop n)) ∧
 ∀acc δ1,P [] acc δ1→Q true (.lst acc) δ1
theorem z7s {n:Nat}{di:TLd}{gd:TGd}{tc:TTd}{te:TEd}{δ:List Slot}{Q:Bool→D→List Slot→Prop}:dComp n di gd tc te δ Q=di δ fun ds δ'=>x0j n ds gd tc te Q δ':=rfl
inductive All2 {α β:Type}(G:α→β→Prop):List α→List β→Prop
 |nil:All2 G [] []
 |cons {a b as bs}:G a b→All2 G as bs→All2 G (a::as) (b::bs)
theorem All2.snoc {α β:Type}{G:α→β→Prop}{as:List α}{bs:List β}{a:α}{b:β}(h:All2 G as bs)(h':G a b):All2 G (as++[a]) (bs++[b]):=by
 induction h with
 |nil=>exact .cons h' .nil
 |cons g _ ih=>exact .cons g ih
theorem All2.len {α β:Type}{G:α→β→Prop}{as:List α}{bs:List β}(h:All2 G as bs):as.length=bs.length:=by
 induction h with
 |nil=>rfl
 |cons _ _ ih=>simp[ih]
theorem comp1 {ds:List D}{te:TEd}{Q:Bool→D→List Slot→Prop}{δ:List Slot}(G:D→D→Prop)(hl:ds.length≤sizeLine)
  (h:∀d∈ds,∀P:D→List Slot→Prop,(∀y,G d y→P y (.fz d::δ))→te (.fz d::δ) fun _ y δ'=>P y δ')(q:∀ys,All2 G ds ys→Q true (.lst ys) δ):x0j 1 ds (dgN 0) dYes te Q δ:=by
 refine⟨fun r acc δ1=>δ1=δ∧∃pre,ds=pre++r∧All2 G pre acc,⟨rfl,[],rfl,.nil⟩,?_,?_⟩
 ·rintro d r acc δ1 ⟨rfl,pre,e,hp⟩
  refine⟨trivial,?_⟩
  unfold dYes
  dsimp only
  rw[if_pos rfl]
  have hl2:=hp.len
  have hlen:pre.length<sizeLine:=by rw[e]at hl;simp at hl;omega
  refine h d (by rw[e];simp) (fun y δ4=>acc.length<sizeLine∧List.drop 1 δ4=δ1∧∃pre,ds=pre++r∧All2 G pre (acc++[y])) fun y hy=>?_
  exact⟨by omega,rfl,pre++[d],by rw[e];simp,hp.snoc hy⟩
 ·rintro acc δ1 ⟨rfl,pre,e,hp⟩
  simp at e
  subst e
  exact q acc hp
theorem comp1f {ds:List D}{tc:TTd}{te:TEd}{Q:Bool→D→List Slot→Prop}{δ:List Slot}(c:D→Bool)(f:D→D)(hl:ds.length≤sizeLine)
  (hc:∀d∈ds,∀P:Bool→List Slot→Prop,P (c d) (.fz d::δ)→tc (.fz d::δ) P)
  (h:∀d∈ds,c d=true→∀P:D→List Slot→Prop,P (f d) (.fz d::δ)→te (.fz d::δ) fun _ y δ'=>P y δ')(q:Q true (.lst ((ds.filter c).map f)) δ):x0j 1 ds (dgN 0) tc te Q δ:=by
 refine⟨fun r acc δ1=>δ1=δ∧∃pre,ds=pre++r∧acc=(pre.filter c).map f,⟨rfl,[],rfl,rfl⟩,?_,?_⟩
 ·rintro d r acc δ1 ⟨rfl,pre,e,rfl⟩
  refine⟨trivial,?_⟩
  have hd:d∈ds:=by rw[e];simp
  have hlen:pre.length<sizeLine:=by rw[e]at hl;simp at hl;omega
  refine hc d hd _ ?_
  cases hcd:c d with
  |false =>
   rw[if_neg Bool.false_ne_true]
   exact⟨rfl,pre++[d],by rw[e];simp,by simp[List.filter_append,hcd]⟩
  |true =>
   rw[if_pos rfl]
   refine h d hd hcd _ ⟨?_,rfl,pre++[d],by rw[e];simp,by simp[List.filter_append,hcd]⟩
   have:=List.length_filter_le c pre
   simp;omega
 ·rintro acc δ1 ⟨rfl,pre,e,rfl⟩
  simp at e
  subst e
  exact q
theorem noIo_no {r:List Slot}:noIo (.no::r) 0=True:=rfl
theorem noIo_fz {d:D}{r:List Slot}:noIo (.fz d::r) 0=True:=rfl
theorem noIo_ob {d:D}{r:List Slot}:noIo (.ob false d::r) 0=True:=rfl
theorem noIo_s {s:Slot}{r:List Slot}{i:Nat}:noIo (s::r) (i+1)=noIo r i:=rfl
theorem z8 {c:D}:y6a (.ob true c)=.ob true c:=rfl
theorem z6f {c:D}:y6a (.fz c)=.no:=rfl
theorem z6g:y6a .no=.no:=rfl
theorem z6k {K:PySem.W.Frag}{c:List Int}:y6a (.sc K c)=.no:=rfl
theorem z5b {A:Around}{k:Nat}(hr:Room k A):A.units+100<cLine:=by have:=hr.un;omega
theorem z8y {α:Type}{xs:List α}{i:Int}(h0:0≤i)(h1:i<xs.length):∃d∈xs,atI xs i=some d:=by
 obtain⟨j,rfl⟩:=Int.eq_ofNat_of_zero_le h0
 have hj:j<xs.length:=by omega
 exact⟨xs[j],List.getElem_mem hj,z4p (List.getElem?_eq_getElem hj)⟩
theorem z2k {a b:Int}(h:0<b):0≤a % b:=Int.emod_nonneg _ (by omega)
theorem z2l {a b:Int}(h:0<b):a % b<b:=Int.emod_lt_of_pos _ h
section
variable {X:Cx}
end
theorem z5l (xs:List D)(k:Nat):cutD xs none (some (k:Int))=xs.take k:=by
 unfold cutD
 rw[HT.sIx_none,HT.sIx_nat,List.drop_zero,Nat.sub_zero]
 by_cases h:k≤xs.length
 ·rw[Nat.min_eq_left h]
 ·rw[Nat.min_eq_right (by omega),List.take_of_length_le (Nat.le_refl _),List.take_of_length_le (by omega)]
theorem z6o (xs:List D)(k:Nat):cutD xs (some (k:Int)) none=xs.drop k:=by
 unfold cutD
 rw[HT.sIx_none,HT.sIx_nat]
 by_cases h:k≤xs.length
 ·rw[Nat.min_eq_left h,List.take_of_length_le (by rw[List.length_drop];exact Nat.le_refl _)]
 ·rw[Nat.min_eq_right (by omega),List.drop_of_length_le (Nat.le_refl _),List.drop_of_length_le (by omega)]
  simp
end VL
namespace VL
open PySem L2
def getK (i:Nat)(δ:List Slot)(k:Slot→Prop):Prop:=match δ[i]? with|some s=>k s|none=>False
theorem getK_0 {s:Slot}{r:List Slot}{k:Slot→Prop}:getK 0 (s::r) k=k s:=rfl
theorem getK_s {i:Nat}{s:Slot}{r:List Slot}{k:Slot→Prop}:getK (i+1) (s::r) k=getK i r k:=rfl
def setK (i:Nat)(s:Slot)(δ:List Slot)(k:List Slot→Prop):Prop:=k (δ.set i s)
theorem setK_0 {s x:Slot}{r:List Slot}{k:List Slot→Prop}:setK 0 s (x::r) k=k (s::r):=rfl
theorem setK_s {i:Nat}{s x:Slot}{r:List Slot}{k:List Slot→Prop}:setK (i+1) s (x::r) k=setK i s r fun r'=>k (x::r'):=rfl
def setW (i:Nat)(s:Slot)(δ:List Slot)(k:List Slot→Prop):Prop:=noIo δ i∧k (δ.set i s)
theorem z9u {s:Slot}{r:List Slot}{k:List Slot→Prop}:setW 0 s (.no::r) k=k (s::r):=by simp[setW,noIo_no]
theorem y0o {s:Slot}{d:D}{r:List Slot}{k:List Slot→Prop}:setW 0 s (.fz d::r) k=k (s::r):=by simp[setW,noIo_fz]
theorem y1h {s:Slot}{d:D}{r:List Slot}{k:List Slot→Prop}:setW 0 s (.ob false d::r) k=k (s::r):=by simp[setW,noIo_ob]
theorem setW_s {i:Nat}{s x:Slot}{r:List Slot}{k:List Slot→Prop}:setW (i+1) s (x::r) k=setW i s r fun r'=>k (x::r'):=by simp[setW,noIo_s]
def varS (s:Slot)(a b:D→Prop):Prop:=match s with | .fz d=>a d | .ob false c=>b c|_=>False
theorem y1a {d:D}{a b:D→Prop}:varS (.fz d) a b=a d:=rfl
theorem y1g {d:D}{a b:D→Prop}:varS (.ob false d) a b=b d:=rfl
def pkS (s:Slot)(k:D→Prop):Prop:=match s with | .fz d=>k d | .ob _ c=>k c|_=>False
theorem pkS_fz {d:D}{k:D→Prop}:pkS (.fz d) k=k d:=rfl
theorem pkS_ob {b:Bool}{d:D}{k:D→Prop}:pkS (.ob b d) k=k d:=rfl
def obK (s:Slot)(k:Bool→D→Prop):Prop:=match s with | .ob b c=>k b c|_=>False
theorem obK_ob {b:Bool}{d:D}{k:Bool→D→Prop}:obK (.ob b d) k=k b d:=rfl
def scK (K:PySem.W.Frag)(s:Slot)(k:List Int→Prop):Prop:=∃ns,s=.sc K ns∧k ns
theorem scK_sc {K:PySem.W.Frag}{ns:List Int}{k:List Int→Prop}:scK K (.sc K ns) k=k ns:=by simp[scK]
def ioK:List Slot→(D→Prop)→Prop
 |.ob true c::_,k=>k c
 |_::r,k=>ioK r k
 | [],_=>False
theorem ioK_t {c:D}{r:List Slot}{k:D→Prop}:ioK (.ob true c::r) k=k c:=rfl
theorem ioK_no {r:List Slot}{k:D→Prop}:ioK (.no::r) k=ioK r k:=rfl
theorem y6i:∀{δ:List Slot}{k:D→Prop},(∃c,y2b δ=some c∧k c)=ioK δ k
 | [],k=>by simp[y2b,ioK]
 |.no::r,k=>by simpa[y2b,ioK] using y6i (δ:=r) (k:=k)
 |.fz _::r,k=>by simpa[y2b,ioK] using y6i (δ:=r) (k:=k)
 |.sc _ _::r,k=>by simpa[y2b,ioK] using y6i (δ:=r) (k:=k)
 |.ob false _::r,k=>by simpa[y2b,ioK] using y6i (δ:=r) (k:=k)
 |.ob true c::r,k=>by simp[y2b,ioK]
def intK (d:D)(k:Int→Prop):Prop:=match d with | .int x=>k x|_=>False
theorem intK_e {x:Int}{k:Int→Prop}:intK (.int x) k=k x:=rfl
theorem y7r {d:D}{k:Int→Prop}:(∃x,d=.int x∧k x)=intK d k:=by cases d<;>simp[intK]
def strK (d:D)(k:Str→Prop):Prop:=match d with | .str x=>k x|_=>False
theorem strK_e {x:Str}{k:Str→Prop}:strK (.str x) k=k x:=rfl
theorem y4h {d:D}{k:Str→Prop}:(∃x,d=.str x∧k x)=strK d k:=by cases d<;>simp[strK]
def blK (d:D)(k:Bool→Prop):Prop:=match d with | .bl x=>k x|_=>False
theorem blK_e {x:Bool}{k:Bool→Prop}:blK (.bl x) k=k x:=rfl
theorem x1c {d:D}{k:Bool→Prop}:(∃x,d=.bl x∧k x)=blK d k:=by cases d<;>simp[blK]
def lstK (d:D)(k:List D→Prop):Prop:=match d with | .lst x=>k x|_=>False
theorem lstK_e {x:List D}{k:List D→Prop}:lstK (.lst x) k=k x:=rfl
theorem y3q {d:D}{k:List D→Prop}:(∃x,d=.lst x∧k x)=lstK d k:=by cases d<;>simp[lstK]
def dctK (d:D)(k:List (Key×D)→Prop):Prop:=match d with | .dct x=>k x|_=>False
theorem dctK_e {x:List (Key×D)}{k:List (Key×D)→Prop}:dctK (.dct x) k=k x:=rfl
theorem x1k {d:D}{k:List (Key×D)→Prop}:(∃x,d=.dct x∧k x)=dctK d k:=by cases d<;>simp[dctK]
theorem z6p {δ:List Slot}{i:Nat}{k:D→Prop}:(∃d,peek δ i=some d∧k d)=getK i δ fun s=>pkS s k:=by
 unfold peek getK
 cases δ[i]? with
 |none=>simp
 |some s=>cases s<;>simp[pkS]
theorem z7z {δ:List Slot}{i:Nat}{P:Prop}:((peek δ i).isSome=true∧P)=getK i δ fun s=>pkS s fun _=>P:=by
 unfold peek getK
 cases δ[i]? with
 |none=>simp
 |some s=>cases s<;>simp[pkS]
theorem y7z {δ:List Slot}{i:Nat}{k:Bool→D→Prop}:(∃fl c,δ[i]? = some (.ob fl c)∧k fl c)=getK i δ fun s=>obK s k:=by
 unfold getK
 cases δ[i]? with
 |none=>simp
 |some s =>
  apply propext
  constructor
  ·rintro⟨fl,c,e,h⟩;cases e;exact h
  ·intro h
   cases s with
   |ob b c=>exact⟨b,c,rfl,h⟩
   |_=>exact h.elim
section
variable {δ:List Slot}{E:EndsD}{Q:Bool→D→List Slot→Prop}{QT:Bool→List Slot→Prop}{QL:List D→List Slot→Prop}{QS:List Slot→Prop}{Q2:Bool→D→Prop}{QM:D→D→Prop}{QA:List (Option D)→List Slot→Prop}{QO:Option Int→List Slot→Prop}{t u:TSd}{ta tb td te tv ti:TEd}{tt tu tc:TTd}{ul:TLd}{ua:TAd}{l h:TOd}{g gd:TGd}{gs:TGsd}{i j n:Nat}{d:D}
theorem v_seq:dSeq t u E δ=t { E with nx:=u E } δ:=rfl
theorem v_next:dNext E δ=E.nx δ:=rfl
theorem v_ret:dRet td E δ=td δ E.rt:=rfl
theorem y1n:x1a E δ=False:=rfl
theorem v_drop:dDrop td E δ=td δ fun _ _ δ'=>E.nx δ':=rfl
theorem v_if:dIfS tt t u E δ=tt δ fun b δ'=>if b=true then t E δ' else u E δ':=rfl
theorem v_set:dSet i td E δ=td δ fun b d δ'=>setW i (rsl b d) δ' E.nx:=rfl
theorem v_c:dC d δ Q=Q false d δ:=rfl
theorem v_var:dVar i δ Q=getK i δ fun s=>varS s (fun d=>Q false d δ) fun c=>setK i (.fz c) δ fun δ'=>Q false c δ':=by
 unfold dVar getK
 cases δ[i]? with
 |none=>rfl
 |some s=>cases s with
  |ob b c=>cases b<;>rfl
  |_=>rfl
theorem v_mv:dMv i δ Q=getK i δ fun s=>varS s (fun d=>Q false d δ) fun c=>setK i .no δ fun δ'=>Q true c δ':=by
 unfold dMv getK
 cases δ[i]? with
 |none=>rfl
 |some s=>cases s with
  |ob b c=>cases b<;>rfl
  |_=>rfl
variable {f:D→D→(Bool→D→Prop)→Prop}
theorem v_op:dOp f ta tb δ Q=ta δ fun _ x δ1=>tb δ1 fun _ y δ2=>f x y fun b d=>Q b d δ2:=rfl
theorem v_opV:dOpV f i tb δ Q=getK i δ fun s=>pkS s fun _=>tb δ fun _ y δ2=>getK i δ2 fun s=>pkS s fun x=>f x y fun b d=>Q b d δ2:=by
 unfold dOpV;rw[z7z];simp only[z6p]
theorem v_opW:dOpW f ta j δ Q=ta δ fun _ x δ1=>getK j δ1 fun s=>pkS s fun y=>f x y fun b d=>Q b d δ1:=by
 unfold dOpW;simp only[z6p]
theorem v_test:y1z td δ QT=td δ fun _ d δ'=>blK d fun c=>QT c δ':=by unfold y1z;simp only[x1c]
theorem v_not:dNot tt δ QT=tt δ fun c δ'=>QT (!c) δ':=rfl
theorem v_and:dAnd tt tu δ QT=tt δ fun c δ'=>if c=true then tu δ' QT else QT false δ':=rfl
theorem v_or:dOr tt tu δ QT=tt δ fun c δ'=>if c=true then QT true δ' else tu δ' QT:=rfl
def truK (d:D)(k:Bool→Prop):Prop:=∃c,truD d=some c∧k c
theorem z7n {xs:List D}{k:Bool→Prop}:truK (.lst xs) k=k (!xs.isEmpty):=propext ⟨fun⟨c,e,h⟩=>by cases e;exact h,fun h=>⟨_,rfl,h⟩⟩
theorem v_truV:dTruV i δ QT=getK i δ fun s=>pkS s fun d=>truK d fun c=>QT c δ:=by
 unfold dTruV
 rw[←z6p]
 simp only[truK,exists_and_left,and_assoc]
theorem v_andV:dAndV ta tb δ Q=ta δ fun _ x δ'=>blK x fun c=>if c=true then tb δ' Q else Q false (.bl false) δ':=by unfold dAndV;simp only[x1c]
theorem v_notV:dNotV ta δ Q=ta δ fun _ x δ'=>blK x fun c=>Q false (.bl (!c)) δ':=by unfold dNotV;simp only[x1c]
theorem v_ifE:dIf tt ta tb δ Q=tt δ fun c δ'=>if c=true then ta δ' Q else tb δ' Q:=rfl
theorem v_nil:dNil δ QL=QL [] δ:=rfl
theorem v_cons:dCons td ul δ QL=td δ fun _ d δ'=>ul δ' fun ds δ''=>QL (d::ds) δ'':=rfl
theorem v_tup:dTup ul δ Q=ul δ fun ds δ'=>ds.length≤sizeLine∧Q false (.tup ds) δ':=rfl
theorem v_lst:dLst ul δ Q=ul δ fun ds δ'=>ds.length≤sizeLine∧Q true (.lst ds) δ':=rfl
variable {fc:List D→(Bool→D→Prop)→Prop}{fm:D→List D→(D→D→Prop)→Prop}
theorem v_CB:dCB fc ul δ Q=ul δ fun ds δ'=>fc ds fun b d=>Q b d δ':=rfl
theorem v_CBV:dCBV fc i δ Q=getK i δ fun s=>pkS s fun d=>fc [d] fun b d=>Q b d δ:=by unfold dCBV;rw[z6p]
def isLK (d:D)(P:Prop):Prop:=match d with | .lst _=>P|_=>False
theorem isLK_e {xs:List D}{P:Prop}:isLK (.lst xs) P=P:=rfl
theorem v_mt:dMt fm i ul δ Q=getK i δ fun s=>pkS s fun d=>isLK d (ul δ fun ds δ'=>getK i δ' fun s=>obK s fun fl c=>fm c ds fun c' d=>setK i (.ob fl c') δ' fun δ''=>Q false d δ''):=by
 unfold dMt
 simp only[y7z,setK]
 unfold peek getK
 cases δ[i]? with
 |none=>simp
 |some s=>cases s with
  |no=>simp[pkS]
  |sc K ns=>simp[pkS]
  |fz d=>cases d<;>simp[pkS,isLK,isL]
  |ob b d=>cases d<;>simp[pkS,isLK,isL]
theorem v_gN:dgN i d δ QS=setW i (.fz d) δ QS:=rfl
theorem y1k {a b:D}:x3d 2 gs (.tup [a,b]) δ QS=gs [a,b] δ QS:=by simp[x3d]
theorem y0e {r:List D}:y4s g gs (d::r) δ QS=g d δ fun δ'=>gs r δ' QS:=propext ⟨fun⟨_,_,e,h⟩=>by cases e;exact h,fun h=>⟨_,_,rfl,h⟩⟩
theorem v_gNil:x2n [] δ QS=QS δ:=by simp[x2n]
theorem v_asg:dAsg td g E δ=td δ fun _ d δ'=>g d δ' E.nx:=rfl
theorem v_setL:dSetL i ti tv E δ=tv δ fun _ v δ1=>getK i δ1 fun s=>pkS s fun _=>ti δ1 fun _ y δ2=>getK i δ2 fun s=>obK s fun fl c=>lstK c fun xs=>intK y fun k=>∃j,ixN xs.length k=some j∧setK i (.ob fl (.lst (xs.set j v))) δ2 E.nx:=by
 unfold dSetL
 simp only[z7z]
 have key:∀(δ2:List Slot) (y v:D),(∃fl xs k j,δ2[i]? = some (.ob fl (.lst xs))∧y=.int k∧ixN xs.length k=some j∧E.nx (δ2.set i (.ob fl (.lst (xs.set j v)))))=(getK i δ2 fun s=>obK s fun fl c=>lstK c fun xs=>intK y fun k=>∃j,ixN xs.length k=some j∧setK i (.ob fl (.lst (xs.set j v))) δ2 E.nx):=by
  intro δ2 y v
  simp only[←y7z,←y3q,←y7r,setK]
  apply propext
  constructor
  ·rintro⟨fl,xs,k,j,e,rfl,h1,h2⟩;exact⟨fl,_,e,xs,rfl,k,rfl,j,h1,h2⟩
  ·rintro⟨fl,_,e,xs,rfl,k,rfl,j,h1,h2⟩;exact⟨fl,xs,k,j,e,rfl,h1,h2⟩
 simp only[key]
theorem y1c:diList td δ QL=td δ fun _ d δ'=>lstK d fun ds=>QL ds δ':=by unfold diList;simp only[y3q]
def int1K (ds:List D)(k:Int→Prop):Prop:=match ds with | [.int j]=>k j|_=>False
theorem z9q {j:Int}{k:Int→Prop}:int1K [.int j] k=k j:=rfl
theorem y0a:x3h ul δ QL=ul δ fun ds δ'=>int1K ds fun j=>-(2 ^ 62)≤j∧j<2 ^ 62∧QL (rngD 0 j.toNat) δ':=by
 unfold x3h
 congr 1
 funext ds δ'
 apply propext
 constructor
 ·rintro⟨j,rfl,h⟩;exact h
 ·intro h
  unfold int1K at h
  split at h
  ·exact⟨_,rfl,h⟩
  ·exact h.elim
inductive Beh (Q:Bool→D→List Slot→Prop):Type|mk
def hold (R:RD)(Q:Bool→D→List Slot→Prop)(_:Beh Q)(δ:List Slot):Prop:=R δ Q
variable {R:RD}
theorem v_call:dCall R ul δ Q=ul δ fun ds δ'=>hold R (fun b d _=>Q b d δ') .mk (ds.map .fz):=rfl
theorem v_aNil:daNil δ QA=QA [] δ:=rfl
theorem v_aV:daV td ua δ QA=td δ fun _ d δ'=>ua δ' fun os δ''=>QA (some d::os) δ'':=rfl
theorem v_aO:daO ua δ QA=ua δ fun os δ''=>QA (none::os) δ'':=rfl
theorem z7i:y4e R i ua δ Q=getK i δ fun s=>pkS s fun _=>ua δ fun os δ'=>getK i δ' fun s=>obK s fun fl c=>(os.filter Option.isNone).length=1∧hold R (fun b d δ2=>ioK δ2 fun c'=>setK i (.ob fl c') δ' fun δ''=>Q b d δ'') .mk (os.map (z6j c)):=by
 unfold y4e hold
 rw[z7z]
 simp only[y7z,y6i,setK]
theorem v_oN:doN δ QO=QO none δ:=rfl
theorem v_oS:doS td δ QO=td δ fun _ d δ'=>intK d fun i=>QO (some i) δ':=by unfold doS;simp only[y7r]
theorem v_slLV:dSlLV i l h δ Q=getK i δ fun s=>pkS s fun _=>l δ fun lo δ2=>h δ2 fun hi δ3=>getK i δ3 fun s=>pkS s fun d=>lstK d fun xs=>Q true (.lst (cutD xs lo hi)) δ3:=by
 unfold dSlLV
 rw[z7z]
 have key:∀(δ3:List Slot) lo hi,(∃xs,peek δ3 i=some (.lst xs)∧Q true (.lst (cutD xs lo hi)) δ3)=(getK i δ3 fun s=>pkS s fun d=>lstK d fun xs=>Q true (.lst (cutD xs lo hi)) δ3):=by
  intro δ3 lo hi
  simp only[←z6p,←y3q]
  apply propext
  constructor
  ·rintro⟨xs,e,h⟩;exact⟨_,e,xs,rfl,h⟩
  ·rintro⟨_,e,xs,rfl,h⟩;exact⟨xs,e,h⟩
 simp only[key]
theorem v_slS:dSlS td l h δ Q=td δ fun _ d δ1=>l δ1 fun lo δ2=>h δ2 fun hi δ3=>strK d fun z=>z.length≤sizeLine∧Q false (.str (Txt.slice z lo hi)) δ3:=by unfold dSlS;simp only[y4h]
theorem v_slC {K:PySem.W.Frag}:dSlC K i l h δ Q=getK i δ fun s=>scK K s fun ns=>l δ fun lo δ2=>h δ2 fun hi δ3=>Q true (.lst (cutD (ns.map .int) lo hi)) δ3:=by
 unfold dSlC getK scK
 cases δ[i]?<;>simp
theorem v_join:dJoin ta tb δ Q=ta δ fun _ x δ1=>strK x fun sep=>tb δ1 fun _ y δ2=>∃ts:List Str,y=.lst (ts.map .str)∧JoinOk sep ts=true∧Q false (.str (Txt.join sep ts)) δ2:=by unfold dJoin;simp only[y4h]
theorem y0f:dDict0 δ Q=Q true (.dct []) δ:=rfl
theorem v_din {neg:Bool}:x0h neg ti i δ Q=ti δ fun _ y δ'=>getK i δ' fun s=>pkS s fun c=>dctK c fun kds=>strK y fun k=>Q false (.bl (if neg then !(getS kds k).isSome else(getS kds k).isSome)) δ':=by
 unfold x0h
 have key:∀(δ':List Slot) (y:D),(∃kds k,peek δ' i=some (.dct kds)∧y=.str k∧Q false (.bl (if neg then !(getS kds k).isSome else(getS kds k).isSome)) δ')=(getK i δ' fun s=>pkS s fun c=>dctK c fun kds=>strK y fun k=>Q false (.bl (if neg then !(getS kds k).isSome else(getS kds k).isSome)) δ'):=by
  intro δ' y
  simp only[←z6p,←x1k,←y4h]
  apply propext
  constructor
  ·rintro⟨kds,k,e,rfl,h⟩;exact⟨_,e,kds,rfl,k,rfl,h⟩
  ·rintro⟨_,e,kds,rfl,k,rfl,h⟩;exact⟨kds,k,e,rfl,h⟩
 simp only[key]
theorem v_dput:dDPut i ti tv E δ=tv δ fun _ v δ1=>getK i δ1 fun s=>pkS s fun _=>ti δ1 fun _ y δ2=>getK i δ2 fun s=>obK s fun fl c=>dctK c fun kds=>strK y fun k=>kds.length<sizeLine∧setK i (.ob fl (.dct (putS kds k v))) δ2 E.nx:=by
 unfold dDPut
 simp only[z7z]
 have key:∀(δ2:List Slot) (y v:D),(∃fl kds k,δ2[i]? = some (.ob fl (.dct kds))∧y=.str k∧kds.length<sizeLine∧E.nx (δ2.set i (.ob fl (.dct (putS kds k v)))))=(getK i δ2 fun s=>obK s fun fl c=>dctK c fun kds=>strK y fun k=>kds.length<sizeLine∧setK i (.ob fl (.dct (putS kds k v))) δ2 E.nx):=by
  intro δ2 y v
  simp only[←y7z,←x1k,←y4h,setK]
  apply propext
  constructor
  ·rintro⟨fl,kds,k,e,rfl,h⟩;exact⟨fl,_,e,kds,rfl,k,rfl,h⟩
  ·rintro⟨fl,_,e,kds,rfl,k,rfl,h⟩;exact⟨fl,kds,k,e,rfl,h⟩
 simp only[key]
variable {x y:Int}{z z':Str}{xs ys:List D}{b b':Bool}
theorem v_I {g:Int→Int→D}:fI g (.int x) (.int y) Q2=Q2 false (g x y):=by simp[fI]
theorem v_Ic {C:Int→Int→Prop}{g:Int→Int→D}:fIc C g (.int x) (.int y) Q2=(C x y∧Q2 false (g x y)):=by simp[fIc]
theorem y0s:fEq (.int x) (.int y) Q2=Q2 false (.bl (decide (x=y))):=by simp[fEq,sEq]
theorem y1q:fEq (.str z) (.str z') Q2=Q2 false (.bl (decide (z=z'))):=by simp[fEq,sEq]
theorem y0q:fNe (.int x) (.int y) Q2=Q2 false (.bl (!decide (x=y))):=by simp[fNe,sEq]
theorem y1t:fNe (.str z) (.str z') Q2=Q2 false (.bl (!decide (z=z'))):=by simp[fNe,sEq]
theorem v_catS:fCatS (.str z) (.str z') Q2=(z.length+z'.length≤sizeLine∧Q2 false (.str (z++z'))):=by simp[fCatS]
theorem v_cat:fCat (.lst xs) (.lst ys) Q2=(xs.length+ys.length≤sizeLine∧Q2 true (.lst (xs++ys))):=by simp[fCat]
theorem v_ixL:fIxL (.lst xs) (.int x) Q2 = ∃d,atI xs x=some d∧Q2 false d:=by simp[fIxL]
theorem v_ixT0 {a:D}{r:List D}:fIxT (.tup (a::r)) (.int 0) Q2=Q2 false a:=by simp[fIxT,atI0]
theorem v_ixT1 {a b:D}{r:List D}:fIxT (.tup (a::b::r)) (.int 1) Q2=Q2 false b:=by simp[fIxT,atI1]
theorem v_ixS:fIxS (.str z) (.int x) Q2=(z.length≤sizeLine∧∃c,atI z.cps.toList x=some c∧Q2 false (.str ⟨#[c]⟩)):=by simp[fIxS]
theorem v_ixQl:fIxQ (.lst xs) (.int x) Q2 = ∃d,atI xs x=some d∧Q2 false d:=by simp[fIxQ]
theorem v_ixQt:fIxQ (.tup xs) (.int x) Q2 = ∃d,atI xs x=some d∧Q2 false d:=by simp[fIxQ]
theorem v_eqL0:fEqL (.lst xs) (.lst []) Q2=Q2 false (.bl xs.isEmpty):=by
 cases xs with
 |nil=>simp[fEqL,eqbL,depL]
 |cons a r=>simp[fEqL]
theorem v_neL0:fNeL (.lst xs) (.lst []) Q2=Q2 false (.bl (!xs.isEmpty)):=by
 cases xs with
 |nil=>simp[fNeL,eqbL,depL]
 |cons a r=>simp[fNeL]
theorem z5y {ks ks':List Str}(h:ks.map D.str=ks'.map D.str):ks=ks':=by
 induction ks generalizing ks' with
 |nil=>cases ks' with
  |nil=>rfl
  |cons a r=>simp at h
 |cons a r ih=>cases ks' with
  |nil=>simp at h
  |cons a' r'=>simp at h;rw[h.1,ih h.2]
theorem v_inL {ks:List Str}:fInL (.str z) (.lst (ks.map .str)) Q2=Q2 false (.bl (decide (z∈ks))):=by
 apply propext;constructor
 ·rintro⟨k,ks',e1,e2,h⟩;cases e1;have e2:=z5y (D.lst.inj e2);subst e2;exact h
 ·intro h;exact⟨z,ks,rfl,rfl,h⟩
theorem z7j {ks:List Str}:x1w (.str z) (.lst (ks.map .str)) Q2=Q2 false (.bl (!decide (z∈ks))):=by
 apply propext;constructor
 ·rintro⟨k,ks',e1,e2,h⟩;cases e1;have e2:=z5y (D.lst.inj e2);subst e2;exact h
 ·intro h;exact⟨z,ks,rfl,rfl,h⟩
theorem v_inT2 {a b:Str}:fInT (.str z) (.tup [.str a,.str b]) Q2=Q2 false (.bl (decide (z=a∨z=b))):=by
 apply propext;constructor
 ·rintro⟨k,ks',e1,e2,h⟩;cases e1;have e2:=z5y (ks:=[a,b]) (D.tup.inj e2);subst e2;simpa using h
 ·intro h;exact⟨z,[a,b],rfl,rfl,by simpa using h⟩
theorem v_inT3 {a b c:Str}:fInT (.str z) (.tup [.str a,.str b,.str c]) Q2=Q2 false (.bl (decide (z=a∨z=b∨z=c))):=by
 apply propext;constructor
 ·rintro⟨k,ks',e1,e2,h⟩;cases e1;have e2:=z5y (ks:=[a,b,c]) (D.tup.inj e2);subst e2;simpa using h
 ·intro h;exact⟨z,[a,b,c],rfl,rfl,by simpa using h⟩
theorem v_lenL:fLenL [.lst xs] Q2=Q2 false (.int xs.length):=by simp[fLenL]
theorem v_lenS:fLenS [.str z] Q2=(z.length≤sizeLine∧Q2 false (.int z.length)):=by simp[fLenS]
theorem y1r:x0t [.lst xs] Q2=Q2 false (.int xs.length):=by simp[x0t]
theorem y1i:x0t [.tup xs] Q2=Q2 false (.int xs.length):=by simp[x0t]
theorem z8c:y7 [.lst xs] Q2=Q2 true (.lst xs):=by simp[y7]
theorem z9w:fInt1 [.bl b] Q2=Q2 false (.int (if b then 1 else 0)):=by simp[fInt1]
theorem z7p:y7u (.lst xs) [d] QM=(xs.length<sizeLine∧QM (.lst (xs++[d])) .non):=by simp[y7u]
theorem z7m:y7h (.lst xs) [.lst ys] QM=(xs.length+ys.length≤sizeLine∧QM (.lst (xs++ys)) .non):=by simp[y7h]
theorem v_pop:fPop (.lst xs) [] QM = ∃d,xs[xs.length - 1]? = some d∧QM (.lst xs.dropLast) d:=by simp[fPop]
theorem rsl_t:rsl true d=.ob false d:=rfl
theorem rsl_f:rsl false d=.fz d:=rfl
theorem z4n:fIsI [(.int x),.ty "str"] Q2=Q2 false (.bl false):=by
 apply propext;constructor
 ·rintro⟨_,_,e,_,_,h⟩;cases e;exact h
 ·exact fun h=>⟨_,_,rfl,(show("int":String) ≠ "type" by decide),by decide,h⟩
theorem z4g:fIsI [(.int x),.ty "int"] Q2=Q2 false (.bl true):=by
 apply propext;constructor
 ·rintro⟨_,_,e,_,_,h⟩;cases e;exact h
 ·exact fun h=>⟨_,_,rfl,(show("int":String) ≠ "type" by decide),by decide,h⟩
theorem z3r:fIsI [(.int x),.ty "bool"] Q2=Q2 false (.bl false):=by
 apply propext;constructor
 ·rintro⟨_,_,e,_,_,h⟩;cases e;exact h
 ·exact fun h=>⟨_,_,rfl,(show("int":String) ≠ "type" by decide),by decide,h⟩
theorem z3k:fIsI [(.int x),.ty "list"] Q2=Q2 false (.bl false):=by
 apply propext;constructor
 ·rintro⟨_,_,e,_,_,h⟩;cases e;exact h
 ·exact fun h=>⟨_,_,rfl,(show("int":String) ≠ "type" by decide),by decide,h⟩
theorem z2z:fIsI [(.int x),.ty "tuple"] Q2=Q2 false (.bl false):=by
 apply propext;constructor
 ·rintro⟨_,_,e,_,_,h⟩;cases e;exact h
 ·exact fun h=>⟨_,_,rfl,(show("int":String) ≠ "type" by decide),by decide,h⟩
theorem z4j:fIsI [(.str z),.ty "str"] Q2=Q2 false (.bl true):=by
 apply propext;constructor
 ·rintro⟨_,_,e,_,_,h⟩;cases e;exact h
 ·exact fun h=>⟨_,_,rfl,(show("str":String) ≠ "type" by decide),by decide,h⟩
theorem z4d:fIsI [(.str z),.ty "int"] Q2=Q2 false (.bl false):=by
 apply propext;constructor
 ·rintro⟨_,_,e,_,_,h⟩;cases e;exact h
 ·exact fun h=>⟨_,_,rfl,(show("str":String) ≠ "type" by decide),by decide,h⟩
theorem z3j:fIsI [(.str z),.ty "bool"] Q2=Q2 false (.bl false):=by
 apply propext;constructor
 ·rintro⟨_,_,e,_,_,h⟩;cases e;exact h
 ·exact fun h=>⟨_,_,rfl,(show("str":String) ≠ "type" by decide),by decide,h⟩
theorem z3s:fIsI [(.str z),.ty "list"] Q2=Q2 false (.bl false):=by
 apply propext;constructor
 ·rintro⟨_,_,e,_,_,h⟩;cases e;exact h
 ·exact fun h=>⟨_,_,rfl,(show("str":String) ≠ "type" by decide),by decide,h⟩
theorem z3a:fIsI [(.str z),.ty "tuple"] Q2=Q2 false (.bl false):=by
 apply propext;constructor
 ·rintro⟨_,_,e,_,_,h⟩;cases e;exact h
 ·exact fun h=>⟨_,_,rfl,(show("str":String) ≠ "type" by decide),by decide,h⟩
theorem z4f:fIsI [(.lst xs),.ty "str"] Q2=Q2 false (.bl false):=by
 apply propext;constructor
 ·rintro⟨_,_,e,_,_,h⟩;cases e;exact h
 ·exact fun h=>⟨_,_,rfl,(show("list":String) ≠ "type" by decide),by decide,h⟩
theorem z4e:fIsI [(.lst xs),.ty "int"] Q2=Q2 false (.bl false):=by
 apply propext;constructor
 ·rintro⟨_,_,e,_,_,h⟩;cases e;exact h
 ·exact fun h=>⟨_,_,rfl,(show("list":String) ≠ "type" by decide),by decide,h⟩
theorem z3q:fIsI [(.lst xs),.ty "bool"] Q2=Q2 false (.bl false):=by
 apply propext;constructor
 ·rintro⟨_,_,e,_,_,h⟩;cases e;exact h
 ·exact fun h=>⟨_,_,rfl,(show("list":String) ≠ "type" by decide),by decide,h⟩
theorem z3p:fIsI [(.lst xs),.ty "list"] Q2=Q2 false (.bl true):=by
 apply propext;constructor
 ·rintro⟨_,_,e,_,_,h⟩;cases e;exact h
 ·exact fun h=>⟨_,_,rfl,(show("list":String) ≠ "type" by decide),by decide,h⟩
theorem z3d:fIsI [(.lst xs),.ty "tuple"] Q2=Q2 false (.bl false):=by
 apply propext;constructor
 ·rintro⟨_,_,e,_,_,h⟩;cases e;exact h
 ·exact fun h=>⟨_,_,rfl,(show("list":String) ≠ "type" by decide),by decide,h⟩
theorem z4c:fIsI [(.tup xs),.ty "str"] Q2=Q2 false (.bl false):=by
 apply propext;constructor
 ·rintro⟨_,_,e,_,_,h⟩;cases e;exact h
 ·exact fun h=>⟨_,_,rfl,(show("tuple":String) ≠ "type" by decide),by decide,h⟩
theorem z4l:fIsI [(.tup xs),.ty "int"] Q2=Q2 false (.bl false):=by
 apply propext;constructor
 ·rintro⟨_,_,e,_,_,h⟩;cases e;exact h
 ·exact fun h=>⟨_,_,rfl,(show("tuple":String) ≠ "type" by decide),by decide,h⟩
theorem z3m:fIsI [(.tup xs),.ty "bool"] Q2=Q2 false (.bl false):=by
 apply propext;constructor
 ·rintro⟨_,_,e,_,_,h⟩;cases e;exact h
 ·exact fun h=>⟨_,_,rfl,(show("tuple":String) ≠ "type" by decide),by decide,h⟩
theorem z3o:fIsI [(.tup xs),.ty "list"] Q2=Q2 false (.bl false):=by
 apply propext;constructor
 ·rintro⟨_,_,e,_,_,h⟩;cases e;exact h
 ·exact fun h=>⟨_,_,rfl,(show("tuple":String) ≠ "type" by decide),by decide,h⟩
theorem z3b:fIsI [(.tup xs),.ty "tuple"] Q2=Q2 false (.bl true):=by
 apply propext;constructor
 ·rintro⟨_,_,e,_,_,h⟩;cases e;exact h
 ·exact fun h=>⟨_,_,rfl,(show("tuple":String) ≠ "type" by decide),by decide,h⟩
end
end VL
namespace VL
open PySem L2
def fAll:List D→(Bool→D→Prop)→Prop:=fun ds Q=>∃bs:List Bool,ds=[.lst (bs.map .bl)]∧Q false (.bl (bs.all id))
theorem cs_all:z8v (fun xs H Q=>∃p,xs=[.ref p]∧∃bs:List Bool,H p=some (.lst (bs.map V.bl))∧Q (.bl (bs.all id)) H) fAll:=by
 intro io H0 F0 F δ σ H xs vs Q Qd I px q k
 obtain⟨bs,rfl,q⟩:=q
 obtain⟨v,rfl,pk⟩:=pks1 px
 obtain⟨a,us,rfl,h1,r⟩:=pk.lst I
 rw[r.bls]at h1
 exact⟨a,rfl,bs,h1,k false _ _ F H (Same.refl _) I.pB q⟩
section
variable {X:Cx}
def dIxC (K:PySem.W.Frag)(i:Nat)(ti:TEd):TEd:=fun δ Q=>∃ns,δ[i]? = some (.sc K ns)∧ti δ fun _ y δ1=>∃j n,y=.int j∧atI ns j=some n∧Q false (.int n) δ1
theorem atI_map {α β:Type}(f:α→β){xs:List α}{i:Int}{x:α}(h:atI xs i=some x):atI (xs.map f) i=some (f x):=by
 unfold atI at h ⊢
 rw[List.length_map]
 obtain⟨j,e,h⟩:=Option.bind_eq_some_iff.mp h
 rw[e];simp[h]
theorem de_ixC {K:PySem.W.Frag}(hK:X.K=K){i:Nat}{x:Str}{p pos:Pos}{ie:Expr}{ti:TEd}(ho:PE X (.Name x p) (tVar i))(hi:DE X ie ti)(hs:NoSl ie:=by intro _ _;rfl):DE X (.Subscript (.Name x p) ie pos) (dIxC K i ti):=by
 subst hK
 obtain⟨t,pi,si⟩:=hi
 refine⟨_,z2w ix_list ho pi hs,fun io H0 F0 F δ σ H Q Qd I q k=>?_⟩
 obtain⟨ns,e,q⟩:=q
 obtain⟨a,ea,sq⟩:=I.get i _ e
 refine⟨.ref a,z2n ea,si.fz I q fun y u δ1 F1 H1 f1 I1 r1 q1=>?_⟩
 obtain⟨j,n,rfl,hj,q1⟩:=q1
 cases(show u=V.int j from r1)
 exact⟨a,_,j,_,rfl,rfl,I1.sub.seq (f1.seq sq),atI_map V.int hj,k false _ _ δ1 F1 H1 f1 I1.pI q1⟩
def dLenC (K:PySem.W.Frag)(i:Nat):TEd:=fun δ Q=>∃ns,δ[i]? = some (.sc K ns)∧Q false (.int ns.length) δ
theorem de_lenC {K:PySem.W.Frag}(hK:X.K=K){i:Nat}{y:Str}{p p' pos:Pos}(hg:Gl X "len")(hm:X.mg "len" = none)(ha:PE X (.Name y p') (tVar i))
  (he:starEach [.Name y p'] X.env=[(false,eval (.Name y p') X.env)]:=by rfl)(hpl:(backTo pos (starEach [] X.env)).any (·.1)=false:=by rfl):DE X (.Call (.Name "len" p) [.Name y p'] [] pos) (dLenC K i):=by
 subst hK
 refine⟨_,z3e z4h hg hm boot_len (z0d ha z0j he) (by decide) (by decide) he hpl,fun io H0 F0 F δ σ H Q Qd I q k=>?_⟩
 obtain⟨ns,e,q⟩:=q
 obtain⟨a,ea,sq⟩:=I.get i _ e
 refine⟨.ref a,z2n ea,a,_,rfl,.inl (I.sub.seq sq),?_⟩
 rw[List.length_map]
 exact k false _ _ δ F H (Same.refl _) I.pI q
def dIndex (td ti:TEd):TEd:=fun δ Q=>td δ fun _ x δ1=>∃ks:List Str,x=.lst (ks.map .str)∧ti δ1 fun _ y δ2=>∃(k:Str) (j:Nat),y=.str k∧ks[j]? = some k∧(∀m,m<j→ks[m]? ≠ some k)∧Q false (.int j) δ2
theorem de_index {l e:Expr}{td ti:TEd}{apos cpos:Pos}(hl:DE X l td)(hi:DE X e ti)
  (hbase:attributeBase l "index" X.env (eval l X.env)=eval l X.env:=by rfl)
  (hfew:((backTo cpos (starEach [e] X.env)).all (fun x=>!x.1)&&(backToKw cpos (keywordEach [] X.env)).all (fun x=>x.1.isSome)
  &&decide (([e]:List Expr).length+([]:List Keyword).length+(if ([]:List Keyword).isEmpty then 0 else 1)<30))=true:=by rfl)
  (hline:(apos.endLine == cpos.line)=true:=by rfl)(hst:starEach [e] X.env=(false,eval e X.env)::starEach [] X.env:=by rfl)(hplain:(backTo cpos (starEach [] X.env)).any (·.1)=false:=by rfl) :
  DE X (.Call (.Attribute l "index" apos) [e] [] cpos) (dIndex td ti):=by
 obtain⟨t,pi,si⟩:=hi
 obtain⟨t',pa,sa⟩:=hl
 refine⟨_,z9h PySem.F.slot_list_index PySem.F.type_list_index mt_index pa (z0d pi z0j hst) hbase hfew hline hst hplain,fun io H0 F0 F δ σ H Q Qd I q k=>sa.fz I q fun x v δ1 F1 H1 f1 I1 r1 q1=>?_⟩
 obtain⟨ks,rfl,q1⟩:=q1
 obtain⟨a,vs,rfl,h1,r1'⟩:=r1
 rw[r1'.strs]at h1
 refine⟨a,rfl,⟨_,I1.sub _ _ h1⟩,si.fz I1 q1 fun y u δ2 F2 H2 f2 I2 r2 q2=>?_⟩
 obtain⟨key,j,rfl,e1,e2,q2⟩:=q2
 cases(show u=V.str key from r2)
 exact⟨a,rfl,key,rfl,ks,I2.sub _ _ (f2 _ _ h1),j,e1,e2,k false _ _ δ2 F2 H2 (f1.trans f2) I2.pI q2⟩
end
def x3q (R:RD)(i:Nat)(u:TLd):TEd:=fun δ Q=>∃K ns,δ[i]? = some (.sc K ns)∧u δ fun ds δ'=>δ'[i]? = some (.sc K ns)∧R (.sc K ns::ds.map .fz) fun b d _=>Q b d δ'
section
variable {X:Cx}{CX:CXT}{k:Nat}{f:Addr}{fd:FuncData}{ps:List Str}{R:RD}{E:XK}{x y:Str}{p p' pos:Pos}{es:List Expr}{u:TLd}{i:Nat}
theorem z9m (G:FnOk X.prog X.w X.K X.mg X.base CX k f fd ps (spD R))(hr:Room k X.A)(hg:Gl X x)(hm:X.mg x=some (.ref f))(hk:PySem.W.keepIn X.K (.ref f)=true)(hb:Binds X.K fd ps [])(hx:z9f CX X E)
  (hv:PE X (.Name y p') (tVar i))(ha:DL X es u)(hdb:(x == ("__debug__":Str))=false:=by decide)(hs:starEach (.Name y p' :: es) X.env=(false,eval (.Name y p') X.env)::starEach es X.env:=by rfl)(hpl:(backTo pos (starEach es X.env)).any (·.1)=false:=by rfl) :
  DE X (.Call (.Name x p) (.Name y p' :: es) [] pos) (x3q R i u):=by
 obtain⟨t,pt,s⟩:=ha
 refine⟨_,z1e G hr hg hm hk hb .nil hx (z0d hv pt hs) hdb hs hpl,fun io H0 F0 F δ σ H Q Qd I q kk=>?_⟩
 obtain⟨K,ns,e0,q⟩:=q
 obtain⟨a,ea,sq⟩:=I.get i _ e0
 refine⟨.ref a,z2n ea,s io H0 F0 F δ σ H _ _ I q fun ds vs δ' F' H' sf I' r q'=>?_⟩
 obtain⟨e1,q'⟩:=q'
 show spD R ((.ref a::vs)++[]) H' Q E
 rw[List.append_nil]
 refine⟨H',[none],F',.sc K ns::ds.map .fz,_,fun p a e=>by cases p<;>simp at e,(y2j I'.sub r).push (s:=.sc K ns) (v:=.ref a) ⟨a,rfl,sf.seq sq⟩ (fun b c a e=>by cases e),q',fun b d v δ2 F2 H2 C q2=>?_⟩
 exact kk b d v δ' F2 H2 (sf.trans C.ext) (I'.back C) q2
end
section
variable {δ:List Slot}{Q:Bool→D→List Slot→Prop}{QL:List D→List Slot→Prop}{Q2:Bool→D→Prop}{td ti:TEd}{ul:TLd}{i:Nat}
theorem v_ixC {K:PySem.W.Frag}:dIxC K i ti δ Q=getK i δ fun s=>scK K s fun ns=>ti δ fun _ y δ1=>intK y fun j=>∃n,atI ns j=some n∧Q false (.int n) δ1:=by
 unfold dIxC getK scK
 have key:∀(ns:List Int) (y:D) (δ1:List Slot),(∃j n,y=.int j∧atI ns j=some n∧Q false (.int n) δ1)=(intK y fun j=>∃n,atI ns j=some n∧Q false (.int n) δ1):=by
  intro ns y δ1
  simp only[←y7r]
  apply propext
  constructor
  ·rintro⟨j,n,rfl,h⟩;exact⟨j,rfl,n,h⟩
  ·rintro⟨j,rfl,n,h⟩;exact⟨j,n,rfl,h⟩
 simp only[key]
 cases δ[i]?<;>simp
theorem v_lenC {K:PySem.W.Frag}:dLenC K i δ Q=getK i δ fun s=>scK K s fun ns=>Q false (.int ns.length) δ:=by
 unfold dLenC getK scK
 cases δ[i]?<;>simp
theorem y1e:dIndex td ti δ Q=td δ fun _ x δ1=>∃ks:List Str,x=.lst (ks.map .str)∧ti δ1 fun _ y δ2=>∃(k:Str) (j:Nat),y=.str k∧ks[j]? = some k∧(∀m,m<j→ks[m]? ≠ some k)∧Q false (.int j) δ2:=rfl
def scA (s:Slot)(k:PySem.W.Frag→List Int→Prop):Prop:=match s with | .sc K ns=>k K ns|_=>False
theorem v_scA {K:PySem.W.Frag}{ns:List Int}{k:PySem.W.Frag→List Int→Prop}:scA (.sc K ns) k=k K ns:=rfl
theorem y0l {R:RD}:x3q R i ul δ Q=getK i δ fun s=>scA s fun K ns=>ul δ fun ds δ'=>getK i δ' fun s'=>s' = .sc K ns∧hold R (fun b d _=>Q b d δ') .mk (.sc K ns::ds.map .fz):=by
 unfold x3q getK hold
 have key:∀(K:PySem.W.Frag) (ns:List Int) (δ':List Slot) (A:Prop),(δ'[i]? = some (.sc K ns)∧A)=(match δ'[i]? with|some s'=>s' = .sc K ns∧A|none=>False):=by
  intro K ns δ' A
  cases δ'[i]?<;>simp
 simp only[key]
 cases δ[i]? with
 |none=>simp
 |some s =>
  cases s with
  |sc K ns =>
   apply propext
   constructor
   ·rintro⟨K',ns',e,h⟩;cases e;exact h
   ·intro h;exact⟨K,ns,rfl,h⟩
  |_=>simp[scA]
end
end VL
namespace L2
open PySem PySem.Spec PyProof.Rows PySem.SeqAt
end L2
namespace VL
open PySem L2
section
variable {Q2:Bool→D→Prop}{x:Int}{ks:List Int}
end
end VL
namespace L2
open PySem
end L2
namespace L2
open PySem PyProof.Rows
section
variable {X:Cx}{pos:Pos}
end
end L2
namespace VL
open PySem L2
section
variable {X:Cx}{pos:Pos}
end
end VL
namespace L2
open PySem PySem.Spec PyProof.Rows PySem.W
end L2
namespace VL
open PySem L2
section
variable {X:Cx}
def y0t:Nat→List D→List D
 |_,[]=>[]
 |n,x::xs=>.tup [.int (n:Int),x]::y0t (n+1) xs
theorem y4x:∀(xs:List D) (n:Nat),(y0t n xs).length=xs.length
 | [],_=>rfl
 |_::xs,n=>by rw[y0t,List.length_cons,List.length_cons,y4x xs]
theorem y5p:∀(xs:List D) (n i:Nat) (d:D),(y0t n xs)[i]? = some d→∃x,xs[i]? = some x∧d=.tup [.int ((n+i:Nat):Int),x]
 | [],n,i,d,h=>by simp[y0t]at h
 |x::xs,n,0,d,h=>by simp[y0t]at h;exact⟨x,rfl,h.symm⟩
 |x::xs,n,i+1,d,h=>by
  obtain⟨y,e1,e2⟩:=y5p xs (n+1) i d (by simpa[y0t] using h)
  exact⟨y,by simpa using e1,by rw[e2];congr 3;congr 1;omega⟩
def diEnum (u:TLd):TLd:=fun δ Q=>u δ fun ds δ'=>∃xs,ds=[.lst xs]∧Q (y0t 0 xs) δ'
theorem itOk_enum {F:Hp}{a:Addr}{vs:List V}{xs:List D}(ha:F a=some (.lst vs))(ra:Reps F xs vs):ItOk (Itn a) F (y0t 0 xs):=by
 intro io H0 F0 F' δ σ H' sf I i
 have hA:H' a=some (.lst vs):=I.sub _ _ (sf _ _ ha)
 refine⟨fun d e=>?_,fun e=>?_⟩
 ·obtain⟨x,ex,rfl⟩:=y5p _ _ _ _ e
  obtain⟨v,ev,rv⟩:=ra.get ex
  refine⟨⟨vs,v,hA,ev⟩,fun z H'' yl=>?_⟩
  obtain⟨t,rfl,ht,yl⟩:=yl
  obtain⟨v',ev',rfl⟩:=yl vs hA
  rw[ev]at ev';cases ev'
  obtain⟨F2,s2,I2,r2⟩:=I.newT (ds:=[.int ((0+i:Nat):Int),x]) (vs:=[.int (i:Int),v]) ht ⟨_,_,rfl,(by rw[Nat.zero_add];rfl),_,_,rfl,Rep.mono sf _ _ rv,rfl⟩
  exact⟨F2,s2,I2,r2⟩
 ·refine⟨vs,hA,?_⟩
  have l1:=ra.len
  rw[y4x]at e
  rw[List.getElem?_eq_none_iff]
  omega
theorem di_enum {elts:List Expr}{x1:Nat}{pt:Pos}{e1:Expr}{u:TLd}{p pos:Pos}(hg:Gl X "enumerate")(hm:X.mg "enumerate" = none)(ha:DL X [e1] u)(hs:starEach [e1] X.env=(false,eval e1 X.env)::starEach [] X.env:=by rfl)(hpl:(backTo pos (starEach [] X.env)).any (·.1)=false:=by rfl) :
  DI X (.Tuple elts x1 pt) (.Call (.Name "enumerate" p) [e1] [] pos) (diEnum u):=by
 obtain⟨t,p,s⟩:=ha
 refine⟨_,pi_enum hg hm p hs hpl,fun io H0 F0 F δ σ H R Qd I q k=>s io H0 F0 F δ σ H _ _ I q fun ds vs δ' F' H' sf I' r q'=>?_⟩
 obtain⟨xs,rfl,q'⟩:=q'
 obtain⟨v,rfl,a,us,rfl,h1,r1⟩:=r.one_inv
 exact⟨a,rfl,us,I'.sub _ _ h1,k _ _ δ' F' H' sf I' (itOk_enum h1 r1) q'⟩
def x1j (t:TEd):TEd:=fun δ Q=>t δ fun _ d δ'=>∃ks:List Str,d=.lst (ks.map .str)∧ks.length≤4000∧Q false (.int (metS (fun i=>ks.getD i "") ks.length).length) δ'
theorem y4v {e:Expr}{t:TEd}{p p2 p3 p4:Pos}(hc:X.calm=true)(gl:Gl X "len")(ml:X.mg "len" = none)(gs:Gl X "set")(ms:X.mg "set" = none)(he:DE X e t)
  (s2:starEach [e] X.env=(false,eval e X.env)::starEach [] X.env:=by rfl)(n2:(backTo p3 (starEach [] X.env)).any (·.1)=false:=by rfl)
  (s1:starEach [.Call (.Name "set" p2) [e] [] p3] X.env=(false,eval (.Call (.Name "set" p2) [e] [] p3) X.env)::starEach [] X.env:=by rfl)(n1:(backTo p4 (starEach [] X.env)).any (·.1)=false:=by rfl) :
  DE X (.Call (.Name "len" p) [.Call (.Name "set" p2) [e] [] p3] [] p4) (x1j t):=by
 obtain⟨t1,q1,s⟩:=he
 refine⟨_,y4z hc gl ml gs ms q1 s2 n2 s1 n1,fun io H0 F0 F δ σ H Q Qd I q k=>s.fz I q fun d v δ1 F1 H1 f1 I1 r1 q1=>?_⟩
 obtain⟨ks,rfl,hl,q2⟩:=q1
 obtain⟨a,vs,rfl,h1,r⟩:=r1
 have ev:vs=ks.map V.str:=by
  clear hl q2 h1 q
  induction ks generalizing vs with
  |nil=>exact r
  |cons z ks ih =>
   obtain⟨v,r',rfl,e1,e2⟩:=r
   cases(show v=.str z from e1)
   rw[ih _ e2];rfl
 subst ev
 exact⟨a,ks,rfl,I1.sub _ _ h1,hl,k false _ _ δ1 F1 H1 f1 I1.pI q2⟩
def dSlR (t:TEd):TEd:=fun δ Q=>t δ fun _ d δ'=>∃xs,d=.lst xs∧Q true (.lst xs.reverse) δ'
theorem x3k {e:Expr}{t:TEd}{k1:Nat}{p1 p0 p2 pos:Pos}(he:DE X e t):DE X (.Subscript e (.Slice none none (some (.UnaryOp .USub (.Constant (.int 1) k1 p1) p0)) p2) pos) (dSlR t):=by
 obtain⟨t1,q1,s⟩:=he
 refine⟨_,x1l q1,fun io H0 F0 F δ σ H Q Qd I q k=>s.fz I q fun d v δ1 F1 H1 f1 I1 r1 q1=>?_⟩
 obtain⟨xs,rfl,q2⟩:=q1
 obtain⟨a,vs,rfl,h1,r⟩:=r1
 exact⟨a,rfl,vs,I1.sub _ _ h1,fun p hp=>k true _ _ δ1 F1 _ f1 (I1.newL hp r.rev) q2⟩
end
end VL
namespace VL
open PySem L2
inductive A2 where
 |v (d:D)|o1|o2
def A2.one:A2→Bool
 |.o1=>true
 |_=>false
def A2.two:A2→Bool
 |.o2=>true
 |_=>false
abbrev TA2:=List Slot→(List A2→List Slot→Prop)→Prop
section
variable {X:Cx}{i j:Nat}{a:Expr}{es:List Expr}{da:TEd}{u:TA2}
end
abbrev TAT:=List Slot→(List A2→D→List Slot→Prop)→Prop
section
variable {X:Cx}{i:Nat}{a:Expr}{es:List Expr}{da:TEd}{u:TAT}
end
section
variable {X:Cx}{CX:CXT}{k:Nat}{f:Addr}{fd:FuncData}{ps:List Str}{R:RD}{E:XK}{x:Str}{p pos:Pos}{e:Expr}{es:List Expr}{i j:Nat}{u:TA2}
end
section
variable {δ:List Slot}{Q:Bool→D→List Slot→Prop}{QL:List D→List Slot→Prop}{Q2:Bool→D→Prop}{QA:List A2→List Slot→Prop}{td:TEd}{ul:TLd}{ua:TA2}{x y:Int}
def lst1K (ds:List D)(k:List D→Prop):Prop:=match ds with | [.lst x]=>k x|_=>False
theorem z9t {x:List D}{k:List D→Prop}:lst1K [.lst x] k=k x:=rfl
theorem y1s:diEnum ul δ QL=ul δ fun ds δ'=>lst1K ds fun xs=>QL (y0t 0 xs) δ':=by
 unfold diEnum
 congr 1
 funext ds δ'
 apply propext
 constructor
 ·rintro⟨xs,rfl,h⟩;exact h
 ·intro h
  unfold lst1K at h
  split at h
  ·exact⟨_,rfl,h⟩
  ·exact h.elim
theorem z7q:x1j td δ Q=td δ fun _ d δ'=>∃ks:List Str,d=.lst (ks.map .str)∧ks.length≤4000∧Q false (.int (metS (fun i=>ks.getD i "") ks.length).length) δ':=rfl
theorem v_slR:dSlR td δ Q=td δ fun _ d δ'=>lstK d fun xs=>Q true (.lst xs.reverse) δ':=by unfold dSlR;simp only[y3q]
end
end VL
namespace L2
open PySem PySem.Spec PyProof.Rows PySem.SeqAt
section
variable {X:Cx}
end
end L2
namespace VL
open PySem L2
section
variable {X:Cx}{CX:CXT}{k:Nat}{f:Addr}{fd:FuncData}{ps:List Str}{R:RD}{E:XK}{x y:Str}{p p' pos:Pos}{e:Expr}{es:List Expr}{t0:TEd}{u:TLd}{i:Nat}
end
section
variable {δ:List Slot}{Q:Bool→D→List Slot→Prop}{td:TEd}{ul:TLd}{i:Nat}
end
end VL
namespace L2
open PySem PyProof.Rows
open Builtin Builtin.ObjectAttr
abbrev quiets:List Str:=["__init__","__getattribute__","__getattr__","__setattr__","__class__","name","row"]
abbrev mroV:List Value:=[.type "ValueError",.type "Exception",.type "BaseException",.type "object"]
inductive Abv (h:Heap):List Value→Prop
 |base:Abv h mroV
 |own {a:Addr}{cl:Value}{di:Option Addr}{k:ClassData}{sl:Array (Option Value)}{f:Str→Option Value}{l:List Value}
   (ob:h.get? a=some { cls:=cl,dict:=di,data:=.cls k,slots:=sl }) (ns:h.Ns k.ns f) (no:∀x∈quiets,f x=none) (up:Abv h l):Abv h (.ref a::l)
theorem Abv.tail {h:Heap}{l:List Value}(T:Abv h l):OwnTail h mroV l:=by
 induction T with
 |base=>exact .base
 |own ob ns no _ ih=>exact .own ob ns (no _ (by simp)) ih
theorem Abv.keeps {h h2:Heap}{l:List Value}(T:Abv h l)(hk:∀b o,h.get? b=some o→h2.get? b=some o):Abv h2 l:=by
 induction T with
 |base=>exact .base
 |own ob ns no _ ih=>exact .own (hk _ _ ob) (ns.keeps hk) no ih
theorem Abv.refuse {h:Heap}{l:List Value}(T:Abv h l)(self:Value):refuseLoop self "__setattr__" l=pure ():=by
 induction T with
 |base=>exact F.store_ValueError.passes self
 |own _ _ _ _ ih=>rw[refuseLoop_ref];exact ih
section
variable {M:Model}{A:Around}{E:Value→Shared→Prop}{h:Heap}{g:Array GenState}{d:Drawn}{t:Nat}{os:OsState}
theorem Abv.along {l:List Value}{x:Str}{y:Option Value}{Q:Option Value→Shared→Prop}(T:Abv h l)(hx:x∈quiets)(e:typeLookup (.type "ValueError") x=pure y)(q:Q y ⟨h,g,d,t,os⟩) :
  wpAny M A (lookupAlong l x) Q E ⟨h,g,d,t,os⟩:=by
 induction T with
 |base =>
  have z:lookupAlong mroV x=pure y:=by rw[typeLookup_eq,F.store_ValueError.mro]at e;exact e
  rw[z];exact wpAny_pure q
 |own ob ns no _ ih =>
  rw[lookupAlong_cons]
  refine wpAny_bind (wpAny_classOwn_cls ob ns ?_)
  rw[no x hx]
  exact ih
structure XC (h:Heap)(C:Addr)(bm:List Value)(f:Str→Option Value)(nid:String):Prop where
 ex:∃nm q N bs sn sub ab col dd k0 k1 k2 k3 k5,h.get? C=some (excClassObj nm q C N bs bm true sn sub ab col dd k0 k1 k2 k3 k5 nid)∧h.Ns N f
 up:Abv h bm
theorem XC.keeps {h h2:Heap}{C:Addr}{bm:List Value}{f:Str→Option Value}{nid:String}(T:XC h C bm f nid)(hk:∀b o,h.get? b=some o→h2.get? b=some o):XC h2 C bm f nid:=by
 obtain⟨⟨nm,q,N,bs,sn,sub,ab,col,dd,k0,k1,k2,k3,k5,e,n⟩,u⟩:=T
 exact⟨⟨nm,q,N,bs,sn,sub,ab,col,dd,k0,k1,k2,k3,k5,hk _ _ e,n.keeps hk⟩,u.keeps hk⟩
theorem XC.look {C:Addr}{bm:List Value}{f:Str→Option Value}{nid:String}{x:Str}{y:Option Value}{Q:Option Value→Shared→Prop}(c:XC h C bm f nid)(hx:x∈quiets)(e:typeLookup (.type "ValueError") x=pure y)
  (q:Q (match f x with|some v=>some v|none=>y) ⟨h,g,d,t,os⟩):wpAny M A (typeLookup (.ref C) x) Q E ⟨h,g,d,t,os⟩:=by
 obtain⟨⟨nm,qn,N,bs,sn,sub,ab,col,dd,k0,k1,k2,k3,k5,eC,n⟩,u⟩:=c
 rw[typeLookup_eq]
 refine wpAny_bind (wpAny_mroOf_exc eC ?_)
 rw[lookupAlong_cons]
 refine wpAny_bind (wpAny_classOwn_exc eC n ?_)
 cases z:f x with
 |some v=>rw[z]at q;exact wpAny_pure q
 |none=>rw[z]at q;exact u.along hx e q
end
end L2
set_option maxHeartbeats 1000000
namespace L2
open PySem PyProof.Rows
open Builtin Builtin.ObjectAttr
section
variable {prog:Program}{w:World}{A:Around}{E:Value→Shared→Prop}{h:Heap}{g:Array GenState}{d:Drawn}{t:Nat}{os:OsState}
variable {C x:Addr}{bm:List Value}{nid:String}{f:Str→Option Value}{a:Str}{v:Value}{vs:Array Value}{sl:Array (Option Value)}
theorem hasV {l:List Value}(T:Abv h l){X:String}(e:mroV.contains (.type X)=true)(C:Addr):(Value.ref C::l).contains (.type X)=true:=by
 rw[List.contains_cons,T.tail.hasType e,Bool.or_true]
def Laid1 (h:Heap)(x C:Addr)(vs:Array Value)(sl:Array (Option Value))(a:Str)(v:Value)(h2:Heap):Prop :=
 ∃dx,h.objs.size≤dx∧dx≠x∧h2.get? x=some { cls:=.ref C,dict:=some dx,data:=.fields vs,slots:=sl }∧h2.Ns1 dx (fun y=>if y=a then some v else none)∧∀b o,b≠x→h.get? b=some o→h2.get? b=some o
theorem x2e {tk:Tok}{Q:Fin→Shared→Prop}(c:XC h C bm f nid)(ha:a∈quiets)(hB:typeLookup (.type "ValueError") a=pure none)(hfa:f a=none)
  (hx:h.get? x=some { cls:=.ref C,data:=.fields vs,slots:=sl })(hq:∀h2 tk2,Laid1 h x C vs sl a v h2→Q (.done (.ret .none)) ⟨h2,g,d,tk2,os⟩) :
  wpAny (model prog w) A (Builtin.«object.__setattr__» ⟨[.ref x,.str a tk,v],[]⟩) Q E ⟨h,g,d,t,os⟩:=by
 have hpass:=c.up.refuse (.ref x)
 obtain⟨nm,qn,N,bs,sn,sub,ab,col,dd,k0,k1,k2,k3,k5,eC,n⟩:=id c.ex
 unfold Builtin.«object.__setattr__»
 have xs:x≠h.objs.size:=Nat.ne_of_lt (Heap.lt_size hx)
 have x1:(h.push { cls:=.type "dict",data:=.dict #[] }).get? x=some { cls:=.ref C,data:=.fields vs,slots:=sl }:=Heap.get?_push_of_some _ hx
 have gd:((h.push { cls:=.type "dict",data:=.dict #[] }).update x fun o=>{ cls:=o.cls,dict:=some h.objs.size,data:=o.data,slots:=o.slots }).get? h.objs.size=some { cls:=.type "dict",data:=.dict #[] } :=
  (Heap.get?_update_ne _ _ _ _ xs.symm).trans (Heap.get?_push_at rfl rfl)
 have nd:((h.push { cls:=.type "dict",data:=.dict #[] }).update x fun o=>{ cls:=o.cls,dict:=some h.objs.size,data:=o.data,slots:=o.slots }).Ns h.objs.size (fun _=>none) :=
  ⟨_,#[],_,gd,rfl,fun e he=>absurd he (by simp),fun _=>rfl⟩
 repeat (first|rw[refuse_eq]|(rw[refuseLoop_ref,hpass])|with_reducible refine wpAny_loadPart_at hx ?_|with_reducible refine wpAny_mroOf_exc eC ?_|(with_reducible refine c.look ha hB ?_;rw[hfa])|with_reducible refine wpAny_nsSet1 (Heap.Ns1.of_empty nd) ?_|wp_step)
 intro h2 n2 s2
 obtain⟨oD,eD,pD,gD,dD,cD⟩:=n2.count (Within.cons a v Within.nil)
 refine wpAny_bind (wpAny_lookBehind gD (by rw[dD];exact pastItsLine_dict (Nat.le_trans cD (by rw[List.length_cons,List.length_nil,sizeLine_eq];omega))) ?_)
 wp_walk
 refine hq _ _ ⟨h.objs.size,Nat.le_refl _,xs.symm,?_,n2,fun b o hb hbo=>?_⟩
 ·exact(s2.2 x xs).trans (Heap.get?_update_self _ x1 rfl)
 ·exact(s2.2 b (Nat.ne_of_lt (Heap.lt_size hbo))).trans ((Heap.get?_update_ne _ _ _ _ hb).trans (Heap.get?_push_of_some _ hbo))
theorem chk_sa {M:Model}{z:Value}{Q:Unit→Shared→Prop}(c:XC h C bm f nid)(hx:h.get? x=some { cls:=.ref C,data:=.fields vs,slots:=sl })(hq:Q () ⟨h,g,d,t,os⟩) :
  wpAny M A (checkBuiltinCall "object.__setattr__" ⟨[.ref x,z,v],[]⟩) Q E ⟨h,g,d,t,os⟩:=by
 obtain⟨nm,qn,N,bs,sn,sub,ab,col,dd,k0,k1,k2,k3,k5,eC,n⟩:=id c.ex
 have SF:=F.store_ValueError
 have hcB:=hasV c.up (X:="object") (by decide) C
 have har:=SF.args (.ref x) z v
 simp only[checkBuiltinCall,SF.kind,SF.split]
 refine wpAny_bind ?_
 unfold isInstance
 repeat (first|with_reducible refine wpAny_loadPart_at hx ?_|(with_reducible refine wpAny_isSubtype_exc eC ?_;rw[hcB])|wp_step)
 exact hq
theorem set_attr {Q:Unit→Shared→Prop}(c:XC h C bm f nid)(hfs:f "__setattr__" = none)(ha:a∈quiets)(hB:typeLookup (.type "ValueError") a=pure none)(hfa:f a=none)
  (hx:h.get? x=some { cls:=.ref C,data:=.fields vs,slots:=sl })(hq:∀h2 tk2,Laid1 h x C vs sl a v h2→Q () ⟨h2,g,d,tk2,os⟩) :
  wpAny (model prog w) A (setAttr (.ref x) a v) Q E ⟨h,g,d,t,os⟩:=by
 obtain⟨nm,qn,N,bs,sn,sub,ab,col,dd,k0,k1,k2,k3,k5,eC,n⟩:=id c.ex
 have SF:=F.store_ValueError
 have f3:=SF.slot.bind (.ref x)
 have hcB:=hasV c.up (X:="object") (by decide) C
 have har:=SF.args (.ref x)
 unfold setAttr callSpecial? specialOf
 repeat (any_goals (first|assumption|with_reducible refine wpAny_loadPart_at hx ?_|(with_reducible refine c.look (by simp) SF.slot.lookup ?_;rw[hfs])|wp_step))
 refine codeAny_call_builtin SF.slot.plain SF.entry (chk_sa c hx (x2e c ha hB hfa hx fun h2 tk2 hl=>?_))
 repeat (any_goals (first|assumption|wp_step))
 exact hq h2 tk2 hl
end
end L2
set_option maxHeartbeats 1000000
namespace L2
open PySem PyProof.Rows
open Builtin Builtin.ObjectAttr
section
variable {prog:Program}{w:World}{A:Around}{E:Value→Shared→Prop}{h:Heap}{g:Array GenState}{d:Drawn}{t:Nat}{os:OsState}
variable {C x dx:Addr}{bm:List Value}{nid:String}{f mA:Str→Option Value}{a:Str}{u:Value}{o:Obj}
theorem chk_ga {M:Model}{z:Value}{Q:Unit→Shared→Prop}(c:XC h C bm f nid)(hx:h.get? x=some o)(hc:o.cls=.ref C)(hq:Q () ⟨h,g,d,t,os⟩) :
  wpAny M A (checkBuiltinCall "BaseException.__getattribute__" ⟨[.ref x,z],[]⟩) Q E ⟨h,g,d,t,os⟩:=by
 obtain⟨nm,qn,N,bs,sn,sub,ab,col,dd,k0,k1,k2,k3,k5,eC,n⟩:=id c.ex
 have kd:builtinKind "BaseException.__getattribute__" = some .slot:=by decide +kernel
 have ks:splitId "BaseException.__getattribute__" = some ("BaseException","__getattribute__"):=by decide +kernel
 have hcB:=hasV c.up (X:="BaseException") (by decide) C
 have har:=F.args_bexc_ga (.ref x) z
 simp only[checkBuiltinCall,kd,ks]
 refine wpAny_bind ?_
 unfold isInstance
 repeat (first|(with_reducible refine wpAny_loadPart_at hx ?_;rw[hc])|(with_reducible refine wpAny_isSubtype_exc eC ?_;rw[hcB])|wp_step)
 exact hq
theorem x0y {tk:Tok}{Q:Fin→Shared→Prop}{vs:Array Value}{sl:Array (Option Value)}(c:XC h C bm f nid)(ha:a∈quiets)(hB:typeLookup (.type "ValueError") a=pure none)(hfa:f a=none)
  (hx:h.get? x=some { cls:=.ref C,dict:=some dx,data:=.fields vs,slots:=sl })(nx:h.Ns1 dx mA)(hv:mA a=some u)(hq:Q (.done (.ret u)) ⟨h,g,d,t,os⟩) :
  wpAny (model prog w) A (Builtin.«object.__getattribute__» ⟨[.ref x,.str a tk],[]⟩) Q E ⟨h,g,d,t,os⟩:=by
 have nx2:=nx.ns
 obtain⟨nm,qn,N,bs,sn,sub,ab,col,dd,k0,k1,k2,k3,k5,eC,n⟩:=id c.ex
 repeat (any_goals (first|assumption|with_reducible refine wpAny_loadPart_at hx ?_|(with_reducible refine c.look ha hB ?_;rw[hfa])|with_reducible refine wpAny_loadPart_at eC ?_|(with_reducible refine wpAny_nsGet nx2 ?_;rw[hv])|wp_step))
theorem get_attr {expr:Bool}{Q:Value→Shared→Prop}{vs:Array Value}{sl:Array (Option Value)}(c:XC h C bm f nid)(hg:f "__getattribute__" = none)(hh:f "__getattr__" = none)(ha:a∈quiets)(hB:typeLookup (.type "ValueError") a=pure none)(hfa:f a=none)
  (hx:h.get? x=some { cls:=.ref C,dict:=some dx,data:=.fields vs,slots:=sl })(nx:h.Ns1 dx mA)(hv:mA a=some u)(ho:handedOut u=pure u)(hq:Q u ⟨h,g,d,t+1,os⟩) :
  wpAny (model prog w) A (getAttr (.ref x) a expr) Q E ⟨h,g,d,t,os⟩:=by
 have FB:=F.attrBase_ValueError
 have f3:=FB.ga.bind (.ref x)
 have z0:(expr&&onTheHeap (Value.builtin "BaseException.__getattribute__"))=false:=by cases expr<;>rfl
 have z2:(Value.builtin "BaseException.__getattribute__" == Value.builtin "object.__getattribute__")=false:=by decide +kernel
 have z1:(onTheHeap (Value.ref C)&&Value.builtin "BaseException.__getattribute__" == Value.builtin "object.__getattribute__")=false:=by rw[z2];rfl
 unfold getAttr
 repeat (any_goals (first|assumption|with_reducible refine wpAny_loadPart_at hx ?_|(with_reducible refine c.look (by simp) FB.ga.lookup ?_;rw[hg])|(with_reducible refine c.look (by simp) FB.noGetattr ?_;rw[hh])|wp_step))
 refine codeAny_call_builtin FB.ga.plain F.entry_bexc_ga (chk_ga c hx rfl (x0y c ha hB hfa hx nx hv ?_))
 repeat (any_goals (first|assumption|rw[ho]|wp_step))
end
end L2
set_option maxHeartbeats 1000000
namespace L2
open PySem PyProof.Rows
section
variable {prog:Program}{w:World}{A:Around}{E:Value→Shared→Prop}{h:Heap}{g:Array GenState}{d:Drawn}{t:Nat}{os:OsState}
variable {C fI:Addr}{bm:List Value}{f:Str→Option Value}{us:List Value}{oI:Obj}
abbrev vnew:String:="ValueError.__new__"
abbrev y6m (us:List Value):Obj:={ cls:=.type "tuple",data:=.seq us.toArray }
abbrev y1y (C T:Addr):Obj:={ cls:=.ref C,data:=.fields #[.ref T,.none,.none,.none,.bool false,.none] }
theorem x0g {Q:Fin→Shared→Prop}(c:XC h C bm f vnew)(hi:f "__init__" = some (.ref fI))(hf:h.get? fI=some oI)(hfc:oI.cls=.type "function")(hl:us.length≤sizeLine)
  (hq:wpAny (model prog w) A (call (.ref fI) (.ref (h.objs.size+1)::us)) (fun r s2=>r=.none∧Q (.done (.ret (.ref (h.objs.size+1)))) s2) E ⟨(h.push (y6m us)).push (y1y C h.objs.size),g,d,t,os⟩) :
  wpAny (model prog w) A (Builtin.«type.__call__» ⟨.ref C::us,[]⟩) Q E ⟨h,g,d,t,os⟩:=by
 obtain⟨nm,qn,N,bs,sn,sub,ab,col,dd,k0,k1,k2,k3,k5,eC,n⟩:=id c.ex
 have Fx:=F.excBase_ValueError
 have hB:mroV.contains (.type "ValueError")=true:=by decide
 have kp:∀b o,h.get? b=some o→((h.push (y6m us)).push (y1y C h.objs.size)).get? b=some o:=fun b o e=>Heap.get?_push_of_some _ (Heap.get?_push_of_some _ e)
 have c2:XC ((h.push (y6m us)).push (y1y C h.objs.size)) C bm f vnew:=c.keeps kp
 have eC2:=kp _ _ eC
 have hs:((h.push (y6m us)).push (y1y C h.objs.size)).get? (h.objs.size+1)=some (y1y C h.objs.size):=Heap.get?_push_at (by rw[Heap.size_push]) rfl
 have hcC:(Value.ref C::bm).contains (.ref C)=true:=by simp
 repeat (first|with_reducible refine wpAny_loadPart_at eC ?_|with_reducible refine wpAny_madeBy_exc eC ?_|wp_step)
 refine codeAny_call_builtin_code (Code.quiet_builtin _ Fx.quiet) (wpAny_check_new_subU Fx hB c.up.tail eC ?_)
 refine codeAny_exc_new_subU Fx hB Fx c.up.tail eC ?_ hl
 show wpAny _ _ _ _ _ _
 unfold isInstance
 repeat (first|with_reducible refine wpAny_loadPart_at hs ?_|(with_reducible refine wpAny_isSubtype_exc eC2 ?_;rw[hcC])|wp_step)
 show wpAny _ _ (typeLookup (.ref C) _) _ _ _
 refine c2.look (by simp) Fx.init.lookup ?_
 rw[hi]
 refine wpAny_holding (wpAny_bind ?_)
 unfold bindSpecial
 refine wpAny_bind (wpAny_typeOf (T:="function") ⟨_,kp _ _ hf,hfc⟩ ?_)
 rw[if_pos (by decide)]
 refine wpAny_pure (wpAny_bind (wpAny_mono hq (fun r s2 hr=>?_) fun _ _ z=>z))
 obtain⟨rfl,hr⟩:=hr
 wp_walk
 exact hr
theorem make_call {Q:Value→Shared→Prop}(c:XC h C bm f vnew)(hi:f "__init__" = some (.ref fI))(hf:h.get? fI=some oI)(hfc:oI.cls=.type "function")(hl:us.length≤sizeLine)
  (hq:wpAny (model prog w) (A.under (.builtin "type.__call__" ⟨.ref C::us,[]⟩)) (call (.ref fI) (.ref (h.objs.size+1)::us)) (fun r s2=>r=.none∧Q (.ref (h.objs.size+1)) s2) E ⟨(h.push (y6m us)).push (y1y C h.objs.size),g,d,t,os⟩) :
  wpAny (model prog w) A (call (.ref C) us) Q E ⟨h,g,d,t,os⟩:=by
 obtain⟨nm,qn,N,bs,sn,sub,ab,col,dd,k0,k1,k2,k3,k5,eC,n⟩:=id c.ex
 have f1:=tc_lookup
 have f2:=tc_bind (.ref C)
 have hT:(⟨h,g,d,t,os⟩:Shared).TypeIs (.ref C) "type":=⟨_,eC,rfl⟩
 refine wpAny_call (codeAny_of_tree ?_)
 show wpAny _ _ (callAny (.ref C) _) _ _ _
 repeat (any_goals (first|assumption|with_reducible refine wpAny_loadPart_at eC ?_|wp_step))
 refine⟨rfl,?_⟩
 exact codeAny_call_builtin_at (Code.quiet_builtin _ (by decide +kernel)) entry_typeCall (wpAny_check_type_call_sub eC (x0g c hi hf hfc hl hq))
end
end L2
set_option maxHeartbeats 1000000
namespace L2
open PySem PyProof.Rows
def XObj (h:Heap)(e C dx:Addr)(hd:Value):Prop:=∃vs sl,h.get? e=some { cls:=.ref C,dict:=some dx,data:=.fields vs,slots:=sl }∧vs[1]? = some hd
def TrOk (h:Heap)(T:Addr):Prop:=∃oT ts,h.get? T=some oT∧oT.data=.fields ts∧ts[3]? = some .none
section
variable {M:Model}{A:Around}{E:Value→Shared→Prop}{s:Shared}{base:Heap}{env:Env}{outer:List Env}{L e C dx T:Addr}
def y6l (l:List Env)(e C dx:Addr)(X:Addr→Prop)(h h2:Heap):Prop :=
 (∃T,h.objs.size≤T∧XObj h2 e C dx (.ref T)∧TrOk h2 T)∧(∀b o,h.get? b=some o→b≠e→¬X b→b∉l.filterMap (·.frame)→h2.get? b=some o) ∧
  ∀b o,h.get? b=some o→b≠e→¬X b→∃sl,h2.get? b=some { o with slots:=sl }
theorem entry1 {head:Value}{k:Bool}{vs:Array Value}{sl:Array (Option Value)}{Q:Unit→Shared→Prop}(hfr:A.frames=some (env::outer))(hl:s.heap.FunFrames base (env::outer))(hf:env.frame=some L)
  (he:s.heap.get? e=some { cls:=.ref C,dict:=some dx,data:=.fields vs,slots:=sl })(sz:1<vs.size)(hq:∀h2,y6l (env::outer) e C dx (fun _=>False) s.heap h2→Q () { s with heap:=h2 }) :
  wpAny M A (do let a ←frameOf env;let p ←entryPlaceOf L k;let b ←EntryCells.newEntry head a .none (rawInt L) .none p;setField (.ref e) 1 b) (fun _ s2=>wpAny M A (setFlight (.ref e) none) Q E s2) E s:=by
 have ne:e∉(env::outer).filterMap (·.frame):=fun m=>by
  obtain⟨_,o,ho,nf⟩:=hl.mem m
  rw[he]at ho;cases ho;exact nf vs rfl
 refine wpAny_bind (wpAny_frameOf_fun hfr hl hf fun g1 r1=>?_)
 refine wpAny_bind (wpAny_entryPlaceOf fun p hp=>?_)
 unfold EntryCells.newEntry newFields
 refine wpAny_bind (wpAny_newObj_type ?_ (hp.sizeOk5 _ _ _ _ _))
 generalize hob:(({ cls:=.type "traceback",dict:=none,data:=.fields ([head,.ref L,.none,rawInt L,.none]++(if p.isEmpty then List.replicate 6 Value.none else p)).toArray }:Obj))=ob
 have obd:ob.data=.fields ([head,.ref L,.none,rawInt L,.none]++(if p.isEmpty then List.replicate 6 Value.none else p)).toArray:=by rw[←hob]
 have obf:ob.isFreed=false:=by rw[←hob];rfl
 have e1:g1.get? e=some { cls:=.ref C,dict:=some dx,data:=.fields vs,slots:=sl }:=(r1.2.1 e ne).trans he
 have e2:=Heap.get?_push_of_some (h:=g1) ob e1
 refine wpAny_setField e2 rfl sz ?_
 have nTe:g1.objs.size≠e:=Nat.ne_of_gt (Heap.lt_size e1)
 have e3:((g1.push ob).update e (Obj.mapFields (·.setIfInBounds 1 (Value.ref g1.objs.size)))).get? e=some { cls:=.ref C,dict:=some dx,data:=.fields (vs.setIfInBounds 1 (.ref g1.objs.size)),slots:=sl } :=
  Heap.get?_update_self _ e2 rfl
 have T3:((g1.push ob).update e (Obj.mapFields (·.setIfInBounds 1 (Value.ref g1.objs.size)))).get? g1.objs.size=some ob:=(Heap.get?_update_other _ _ (Ne.symm nTe)).trans (Heap.get?_push_size g1 obf)
 unfold setFlight
 refine wpAny_bind (wpAny_field e3 rfl (x:=.ref g1.objs.size) (by simp[sz]) ?_)
 rw[if_pos (show(Value.ref g1.objs.size != Value.none)=true from by simp)]
 refine wpAny_setField T3 obd (by simp only[List.size_toArray,List.length_append,List.length_cons,List.length_nil];omega) (hq _ ⟨⟨g1.objs.size,?_,⟨_,_,(Heap.get?_update_other _ _ nTe).trans e3,by simp[sz]⟩,_,_,Heap.get?_update_self _ T3 (Obj.isFreed_of_fields (Obj.data_mapFields obd _)),Obj.data_mapFields obd _,?_⟩,fun b o hb nb _ nf=>?_,fun b o hb nb _=>?_⟩)
 ·rw[r1.1];exact Nat.le_refl _
 ·rcases hp with rfl|⟨_,_,_,_,_,_,_,rfl⟩<;>simp
 ·have b1:g1.get? b=some o:=(r1.2.1 b nf).trans hb
  exact(Heap.get?_update_other _ _ (Nat.ne_of_gt (Heap.lt_size b1))).trans ((Heap.get?_update_other _ _ (Ne.symm nb)).trans (Heap.get?_push_of_some _ b1))
 ·obtain⟨l2,b1⟩:=r1.2.2 b o hb
  exact⟨l2,(Heap.get?_update_other _ _ (Nat.ne_of_gt (Heap.lt_size b1))).trans ((Heap.get?_update_other _ _ (Ne.symm nb)).trans (Heap.get?_push_of_some _ b1))⟩
theorem noted0 {Q:Unit→Shared→Prop}(hfr:A.frames=some (env::outer))(hl:s.heap.FunFrames base (env::outer))(hf:env.frame=some L)(he:XObj s.heap e C dx .none)
  (hq:∀h2,y6l (env::outer) e C dx (fun _=>False) s.heap h2→Q () { s with heap:=h2 }) :
  wpAny M A (noteFrame (.ref e) env) (fun _ s2=>wpAny M A (setFlight (.ref e) none) Q E s2) E s:=by
 obtain⟨vs,sl,he,h1⟩:=he
 unfold noteFrame
 simp only[hf]
 refine wpAny_bind (wpAny_field he rfl h1 ?_)
 rw[if_neg (by decide)]
 exact entry1 hfr hl hf he (Array.getElem?_eq_some_iff.mp h1).1 hq
theorem noted1 {Q:Unit→Shared→Prop}(hfr:A.frames=some (env::outer))(hl:s.heap.FunFrames base (env::outer))(hf:env.frame=some L)(he:XObj s.heap e C dx (.ref T))(hT:TrOk s.heap T)(nT:T≠e)
  (hq:∀h2,y6l (env::outer) e C dx (fun b=>b=T) s.heap h2→Q () { s with heap:=h2 }) :
  wpAny M A (noteFrame (.ref e) env) (fun _ s2=>wpAny M A (setFlight (.ref e) none) Q E s2) E s:=by
 obtain⟨vs,sl,he,h1⟩:=he
 obtain⟨oT,ts,gT,dT,h3⟩:=hT
 unfold noteFrame
 simp only[hf]
 refine wpAny_bind (wpAny_field he rfl h1 ?_)
 rw[if_pos (show(Value.ref T != Value.none)=true from by simp)]
 refine wpAny_bind (wpAny_field gT dT h3 ?_)
 rw[if_neg (show ¬((Value.none == rawInt L)=true) from by simp[rawInt])]
 refine wpAny_bind (wpAny_setField gT dT (Array.getElem?_eq_some_iff.mp h3).1 ?_)
 have oth:∀b,b≠T→(s.heap.update T (Obj.mapFields (·.setIfInBounds 3 Value.none))).get? b=s.heap.get? b:=fun b nb=>Heap.get?_update_other _ _ (Ne.symm nb)
 have nf:∀b o,s.heap.get? b=some o→(∀q,o.data≠.fields q)→b≠T:=fun b o hb n z=>by
  subst z;rw[gT]at hb;cases hb;exact n ts dT
 refine entry1 (hfr) (hl.of_keeps fun b o hb n=>⟨o,(oth b (nf b o hb n)).trans hb,rfl⟩) hf ((oth e (Ne.symm nT)).trans he) (Array.getElem?_eq_some_iff.mp h1).1 fun h2 N=>hq h2 ?_
 obtain⟨⟨T2,n2,x2,t2⟩,k,k2⟩:=N
 exact⟨⟨T2,Nat.le_trans (Nat.le_of_eq (Heap.size_after_update ..).symm) n2,x2,t2⟩,fun b o hb nb nx=>k b o ((oth b nx).trans hb) nb id,fun b o hb nb nx=>k2 b o ((oth b nx).trans hb) nb id⟩
end
end L2
set_option maxHeartbeats 1000000
namespace L2
open PySem PyProof.Rows
def XO (C dx x:Addr):HO:=.ext fun h=>∃vs sl,h.get? x=some { cls:=.ref C,dict:=some dx,data:=.fields vs,slots:=sl }
section
variable {P:Program}{w:World}{X:Cx}{pins:List (Addr×Obj)}{σ:St}{H:Hp}{s:Shared}{x C dx T:Addr}{hd:Value}{l:List Env}{h2:Heap}
theorem XO.ok {h:Heap}(o:XObj h x C dx hd):ObjOk P w H h x (XO C dx x):=by
 obtain⟨vs,sl,e,_⟩:=o
 exact⟨⟨vs,sl,e⟩,⟨_,e⟩,fun h1 h2 ⟨vs,sl,e⟩ k=>⟨vs,sl,k _ e⟩⟩
theorem y8x {Y:Addr→Prop}(ok:HOk P w H s.heap)(fr:∀b∈frs l,H b=none)(hY:∀b,Y b→H b=none)(hx:H x=some (XO C dx x))(N:y6l l x C dx Y s.heap h2):HOk P w H h2:=fun a o e=>by
 obtain⟨⟨T2,_,x2,_⟩,k,k2⟩:=N
 by_cases z:a=x
 ·subst z;rw[hx]at e;cases e;exact XO.ok x2
 ·refine(ok a o e).stay (fun b u hb q=>?_) (fun _ q=>q) fun _ _ q=>q
  have tr:∃ob,H b=some ob∧b≠x:=by
   rcases hb with rfl|hb
   ·exact⟨_,e,z⟩
   ·refine⟨_,hb,fun r=>?_⟩
    subst r;rw[hx]at hb;cases hb
  obtain⟨ob,tr,nb⟩:=tr
  exact k b u q nb (fun y=>by rw[hY b y]at tr;cases tr) fun y=>by rw[fr b y]at tr;cases tr
theorem noted_un {Y:Addr→Prop}(ok:HOk P w H s.heap)(fr:∀b∈frs l,H b=none)(hY:∀b,Y b→H b=none)(hx:H x=some (XO C dx x))(N:y6l l x C dx Y s.heap h2){ex:List Addr}(hex:∀b,Y b→b∈ex) :
  Un (frs l) ex H H s.heap h2∧HOk P w H h2:=by
 obtain⟨⟨T2,_,x2,_⟩,k,k2⟩:=id N
 have nx:∀b,H b=none→b≠x:=fun b n z=>by subst z;rw[hx]at n;cases n
 refine⟨⟨fun b o e n nf ne=>k b o e (nx b n) (fun y=>ne (hex b y)) nf,fun b o e n _ ne=>k2 b o e (nx b n) fun y=>ne (hex b y),fun _ _ _ n _=>n,fun b o e ne=>?_,fun _ _ q=>q,fun _ _ _ q=>q,fun _ q=>q⟩,y8x ok fr hY hx N⟩
 ·by_cases z:b=x
  ·subst z;obtain⟨vs,sl,q,_⟩:=x2;exact⟨_,q⟩
  ·obtain⟨sl,q⟩:=k2 b o e z fun y=>ne (hex b y)
   exact⟨_,q⟩
def CX1 (P:Program)(w:World):CXT:=fun outer H s E e s2=>∃x C dx T H2,e=.ref x∧s2.os=s.os∧AllBare s2.gens∧Un (frs outer) [] H H2 s.heap s2.heap∧HOk P w H2 s2.heap∧H2 x=some (XO C dx x) ∧
 XObj s2.heap x C dx (.ref T)∧TrOk s2.heap T∧H2 T=none∧s.heap.objs.size≤x∧s.heap.objs.size≤T∧E (.ref x) (some dx) H2
theorem tr_ne (o:XObj s.heap x C dx hd)(hx:H x=some (XO C dx x))(n:H T=none):T≠x:=fun z=>by subst z;rw[hx]at n;cases n
theorem leave {K:PySem.W.Frag}{mg:Str→Option Value}{base:Heap}{N:List Str}{qual:Str}{scope:Scope}{f:Addr}{cd:Value}{A:Around}{outer:List Env}{s0:Shared}{H0:Hp}{E:XK}
  (I:Inv (cxOf (CX1 P w) P w K mg base N qual scope f cd A outer s0 H0 E) pins σ H s)(hx:H x=some (XO C dx x))(o:XObj s.heap x C dx hd)
  (ht:hd=.none ∨ ∃T,hd=.ref T∧TrOk s.heap T∧H T=none∧s0.heap.objs.size≤T)(nx:s0.heap.objs.size≤x)(q:E (.ref x) (some dx) H) :
  (cxOf (CX1 P w) P w K mg base N qual scope f cd A outer s0 H0 E).xe (.ref x) s:=by
 have hl:=I.stack
 have fr:=I.stkFree
 have fin:∀(Y:Addr→Prop),(∀b,Y b→H b=none∧s0.heap.objs.size≤b)→∀h2,y6l (envOfC qual scope s0.heap.objs.size f cd::outer) x C dx Y s.heap h2→CX1 P w outer H0 s0 E (.ref x) { s with heap:=h2 }:=fun Y hY h2 nt=>by
  obtain⟨⟨T2,n2,x2,t2⟩,k,k2⟩:=id nt
  have ok:HOk P w H h2:=y8x I.hok fr (fun b y=>(hY b y).1) hx nt
  have old:∀b o,s0.heap.get? b=some o→b≠x∧¬Y b∧b≠s0.heap.objs.size:=fun b o e=>by
   have lt:b<s0.heap.objs.size:=Heap.lt_size e
   exact⟨fun z=>absurd nx (by subst z;exact Nat.not_le_of_lt lt),fun z=>absurd (hY b z).2 (Nat.not_le_of_lt lt),Nat.ne_of_lt lt⟩
  have B:Un (frs outer) [] H0 H s0.heap s.heap:=I.base
  refine⟨x,C,dx,T2,H,rfl,I.os,I.bare,⟨fun b o e n nf _=>?_,fun b o e n nf _=>?_,fun b o e n _=>B.free b o e n (by simp),fun b o e _=>?_,B.tups,B.frzs,B.tbls⟩,ok,hx,x2,t2,I.hok.fresh n2,nx,Nat.le_trans I.sz n2,q⟩
  ·obtain⟨y1,y2,y3⟩:=old b o e
   refine k b o (B.keep b o e n nf (by simp)) y1 y2 fun z=>?_
   rcases List.mem_cons.mp (show b∈s0.heap.objs.size::frs outer from z) with z|z
   ·exact y3 z
   ·exact nf z
  ·obtain⟨y1,y2,y3⟩:=old b o e
   obtain⟨sl,e1⟩:=B.slot b o e n nf (by simp)
   obtain⟨sl2,e2⟩:=k2 b _ e1 y1 y2
   exact⟨sl2,e2⟩
  ·obtain⟨y1,y2,y3⟩:=old b o e
   obtain⟨o1,e1⟩:=B.there b o e (by simp)
   obtain⟨sl,e2⟩:=k2 b _ e1 y1 y2
   exact⟨_,e2⟩
 show wpAny _ _ (leaving _ _) _ _ _
 unfold leaving
 rcases ht with rfl|⟨T,rfl,hT,nT,zT⟩
 ·exact wpAny_bind (noted0 I.ok.frames hl rfl o (fin _ fun b y=>y.elim))
 ·exact wpAny_bind (noted1 I.ok.frames hl rfl o hT (tr_ne o hx nT) (fin _ fun b y=>by cases y;exact⟨nT,zT⟩))
theorem pass1 {K:PySem.W.Frag}{mg:Str→Option Value}{base:Heap}{N:List Str}{qual:Str}{scope:Scope}{f:Addr}{cd:Value}{A:Around}{outer:List Env}{s0:Shared}{H0:Hp}{E:XK} :
  z9f (CX1 P w) (cxOf (CX1 P w) P w K mg base N qual scope f cd A outer s0 H0 E) E:=fun pins σ H s e s2 I ⟨x,C,dx,T,H2,he,os,bare,un,ok,hx,xo,tr,hT,nx,nT,q⟩=>by
 subst he
 have I2:=I.call' os un ok bare (fun b z=>absurd z (by simp))
 exact leave I2 hx xo (.inr ⟨T,rfl,tr,hT,Nat.le_trans I.sz nT⟩) (Nat.le_trans I.sz nx) q
end
end L2
set_option maxHeartbeats 1000000
namespace L2
open PySem PyProof.Rows
def y2z (K:PySem.W.Frag)(N:Addr)(l:List Str):Bool:=PySem.W.nsOkIn K N&&l.all fun x=>PySem.W.nsIn K N x == some none
def abvIn (K:PySem.W.Frag):List Value→Bool
 | []=>false
 |v::r=>(v::r) == mroV||match v with
  |.ref a=>(match K.lookup a with
   |some ⟨_,_,.cls k,_⟩=>y2z K k.ns quiets&&abvIn K r
   |_=>false)
  |_=>false
theorem y7w {K:PySem.W.Frag}{h:Heap}{N:Addr}{l:List Str}(X:K.In h)(q:y2z K N l=true):h.Ns N (h.nsMap N)∧∀x∈l,h.nsMap N x=none:=by
 unfold y2z at q
 simp only[Bool.and_eq_true,List.all_eq_true,beq_iff_eq]at q
 exact⟨.of_isNs (PySem.W.isNs_of_in X q.1),fun x hx=>PySem.W.nsMap_none_of_in X q.1 (q.2 x hx)⟩
theorem abv_of {K:PySem.W.Frag}{h:Heap}(X:K.In h):∀{l:List Value},abvIn K l=true→Abv h l
 | [],e=>by cases e
 |v::r,e=>by
  unfold abvIn at e
  rcases Bool.or_eq_true_iff.mp e with q|q
  ·rw[beq_iff_eq.mp q];exact .base
  ·split at q
   ·split at q
    ·rename_i ho
     rw[Bool.and_eq_true]at q
     obtain⟨n,f⟩:=y7w X q.1
     exact .own (X _ _ ho) n f (abv_of X q.2)
    ·cases q
   ·cases q
def xcIn (K:PySem.W.Frag)(C:Addr)(bm:List Value)(fI:Addr):Bool:=match K.lookup C with
 |some ⟨.type "type",_,.cls k,sl⟩=>(match k.mro,sl.toList with
  |.ref c::l,[_,_,_,_,some (.builtin n),_]=>c == C&&l == bm&&n == vnew&&!k.hasDel&&k.hasDict&&abvIn K l&&y2z K k.ns quiets.tail&&PySem.W.nsIn K k.ns "__init__" == some (some (.ref fI))
  |_,_=>false)
 |_=>false
theorem y9r {K:PySem.W.Frag}{h:Heap}{N:Addr}{mg:Str→Option Value}{n:Str}{v:Value}(X:K.In h)(G:h.Ns N mg)(e:PySem.W.nsIn K N n=some (some v)):mg n=some v:=by
 obtain⟨o,es,ep,ho,hd,_,hf⟩:=G
 unfold PySem.W.nsIn at e
 split at e
 ·rename_i c d es2 n2 sl q
  have z:=X _ _ q
  rw[ho]at z
  cases z
  cases hd
  split at e
  ·rename_i he
   rw[←hf]
   unfold nsFind findBy
   rw[←Array.find?_toList,he]
   simpa using e
  ·exact absurd e (by intro z;split at z<;>cases z)
 ·cases e
theorem y4w {K:PySem.W.Frag}{h:Heap}{C fI:Addr}{bm:List Value}(X:K.In h)(q:xcIn K C bm fI=true):∃f,XC h C bm f vnew∧f "__init__" = some (.ref fI)∧∀x∈quiets.tail,f x=none:=by
 unfold xcIn at q
 split at q
 ·rename_i dd k sl ho
  split at q
  ·rename_i c l k0 k1 k2 k3 n k5 hm hs
   simp only[Bool.and_eq_true,beq_iff_eq,Bool.not_eq_true']at q
   obtain⟨⟨⟨⟨⟨⟨⟨rfl,rfl⟩,rfl⟩,hdel⟩,hdi⟩,ht⟩,hq⟩,hi⟩:=q
   obtain⟨nm,bs,mro,ns,qn,hd,sn,sub,ab,col,del⟩:=k
   dsimp only at hm hdel hq hi hdi
   subst hm hdel hdi
   have hsl:sl = #[k0,k1,k2,k3,some (.builtin vnew),k5]:=by
    obtain⟨l⟩:=sl
    simp only at hs
    rw[hs]
   subst hsl
   obtain⟨n,f⟩:=y7w X hq
   exact⟨h.nsMap ns,⟨⟨nm,qn,ns,bs,sn,sub,ab,col,dd,k0,k1,k2,k3,k5,X _ _ ho,n⟩,abv_of X ht⟩,y9r X n hi,f⟩
  ·cases q
 ·cases q
end L2
set_option maxHeartbeats 1000000
namespace L2
open PySem PyProof.Rows
def XN (C T x:Addr):HO:=.ext fun h=>h.get? x=some (y1y C T)
def XF (C dx x:Addr):HO:=.ext fun h=>XObj h x C dx .none
section
variable {P:Program}{w:World}{X:Cx}{pins:List (Addr×Obj)}{σ:St}{H:Hp}{s:Shared}{x C dx T:Addr}{h h2:Heap}{fs ex:List Addr}{o1 o2:HO}
theorem Un.two (mu:Mut (H x))(nd:dx≠x)(k:∀b u,b≠x→h.get? b=some u→h2.get? b=some u)(hx:∃u,h2.get? x=some u)(hp:h.objs.size≤dx)(hn:H dx=none):Un fs ex H (upd (upd H dx o1) x o2) h h2:=by
 have nx:∀b,H b=none→b≠x:=fun b n z=>by subst z;rw[n]at mu;exact mu
 have nz:∀b u,h.get? b=some u→b≠dx:=fun b u e=>Nat.ne_of_lt (Nat.lt_of_lt_of_le (Heap.lt_size e) hp)
 have tr:∀b u,H b=some u→¬Mut (some u)→upd (upd H dx o1) x o2 b=some u:=fun b u e m=>by
  rw[z0i (fun z=>by subst z;rw[e]at mu;exact m mu),z0i (z0n e hn)];exact e
 refine⟨fun b o e n _ _=>k b o (nx b n) e,fun b o e n _ _=>⟨o.slots,k b o (nx b n) e⟩,fun b o e n _=>by rw[z0i (nx b n),z0i (nz b o e)];exact n,fun b o e _=>?_,fun b xs e=>tr b _ e id,fun b o u e=>tr b _ e id,fun b e=>tr b _ e id⟩
 by_cases z:b=x
 ·subst z;exact hx
 ·exact⟨o,k b o z e⟩
theorem HOk.two (ok:HOk P w H h)(mu:Mut (H x))(nd:dx≠x)(k:∀b u,b≠x→h.get? b=some u→h2.get? b=some u)(hp:h.objs.size≤dx)
  (n1:ObjOk P w (upd (upd H dx o1) x o2) h2 dx o1)(n2:ObjOk P w (upd (upd H dx o1) x o2) h2 x o2):HOk P w (upd (upd H dx o1) x o2) h2:=fun b u e=>by
 have hn:=ok.fresh hp
 by_cases zx:b=x
 ·subst zx;rw[z0g]at e;cases e;exact n2
 ·rw[z0i zx]at e
  by_cases zd:b=dx
  ·subst zd;rw[z0g]at e;cases e;exact n1
  ·rw[z0i zd]at e
   have st:∀c v,H c=some v→¬Mut (some v)→upd (upd H dx o1) x o2 c=some v:=fun c v q m=>by
    rw[z0i (fun z=>by subst z;rw[q]at mu;exact m mu),z0i (z0n q hn)];exact q
   refine(ok b u e).stay (fun c v hc q=>k c v (fun z=>?_) q) (fun c q=>st c _ q id) fun c xs q=>st c _ q id
   subst z
   rcases hc with hc|hc
   ·exact zx hc.symm
   ·rw[hc]at mu;exact mu
def tSetX (C:Addr)(a:Str)(to tv:TE):TS:=fun D σ H=>tv σ H fun v H1=>to σ H1 fun y H2=>∃x T,y=.ref x∧H2 x=some (XN C T x)∧∀dx,H2 dx=none→dx≠x→D.nx σ (upd (upd H2 dx (.xd [(a,v)])) x (XF C dx x))
theorem ps_setX {a:Str}{bm:List Value}{fI:Addr}{eo ev:Expr}{p pos:Pos}{to tv:TE}(q:xcIn X.K C bm fI=true)(ha:a∈(["name","row"]:List Str))(hv:PE X ev tv)(ho:PE X eo to)
  (hs:swapsWith ev (some (.Attribute eo a p)) pos.line X.env=pure false:=by rfl):PS X (.Assign [.Attribute eo a p] ev pos) (tSetX C a to tv):=by
 intro pins s σ H D I h
 refine plainObj_wpAny_Assign_Attribute (thn (hv pins s σ H _ I h) fun u s1 ⟨v,H1,I1,rv,h1⟩=>thn (ho pins s1 σ H1 _ I1 h1) fun y s2 ⟨yv,H2,I2,ry,x,T,e,hx,h2⟩=>?_) hs
 subst e
 obtain rfl:y=Value.ref x:=ry
 obtain⟨hp,g,d,tk,os⟩:=s2
 obtain⟨f,c,_,qt⟩:=y4w I2.kIn q
 obtain⟨hx0,_,_⟩:=I2.hok x _ hx
 have hB:typeLookup (.type "ValueError") a=pure none:=by
  rcases List.mem_cons.mp ha with rfl|ha
  ·rw[typeLookup_type,builtinLookup_eq_fast];kernel_rfl
  ·rcases List.mem_cons.mp ha with rfl|ha
   ·rw[typeLookup_type,builtinLookup_eq_fast];kernel_rfl
   ·cases ha
 have ha2:a∈quiets.tail:=by
  simp only[List.mem_cons,List.not_mem_nil,or_false]at ha
  rcases ha with rfl|rfl<;>simp
 refine set_attr c (qt _ (by simp)) (List.mem_of_mem_tail ha2) hB (qt a ha2) hx0 fun g2 tk2 ⟨dx,n1,n2,gx,nx,kp⟩=>?_
 have fr:H2 dx=none:=I2.hok.fresh n1
 refine⟨σ,_,I2.un (Un.two (o1:=.xd [(a,v)]) (o2:=XF C dx x) (by rw[hx];trivial) n2 kp ⟨_,gx⟩ n1 fr) (I2.hok.two (by rw[hx];trivial) n2 kp n1 ⟨_,nx,fun y=>?_⟩ ⟨⟨_,_,gx,rfl⟩,⟨_,gx⟩,fun h1 h2 ⟨vs,sl,e,z⟩ k=>⟨vs,sl,k _ e,z⟩⟩),h2 dx fr n2⟩
 by_cases z:y=a
 ·subst z
  have:([(y,v)]:List (Str×V)).lookup y=some v:=by simp[List.lookup]
  rw[this,if_pos rfl];exact rv
 ·have:([(a,v)]:List (Str×V)).lookup y=none:=by
   have hb:(y == a)=false:=by simpa using z
   simp[List.lookup,hb]
  rw[this,if_neg z];trivial
end
end L2
set_option maxHeartbeats 1000000
namespace L2
open PySem PyProof.Rows
def x1o (C:Addr)(a:Str):Sp:=fun vs H Q _=>∃x T v,vs=[.ref x,v]∧H x=some (XN C T x)∧∀dx,H dx=none→dx≠x→Q .non (upd (upd H dx (.xd [(a,v)])) x (XF C dx x))
section
variable {P:Program}{w:World}{K:PySem.W.Frag}{mg:Str→Option Value}{base:Heap}{C fI:Addr}{bm:List Value}{a qual:Str}{st:Stmt}{fd:FuncData}
theorem x3j {p1 p2 p3 pos:Pos}(F:Fun K "__init__" qual st fI fd)(S:FnScope ["self",a] ["self",a] (z0b st))(hb:z0p st=[.Assign [.Attribute (.Name "self" p1) a p2] (.Name a p3) pos])(q:xcIn K C bm fI=true)
  (ha:a∈(["name","row"]:List Str)):FnOk P w K mg base CX0 1 fI fd ["self",a] (x1o C a):=by
 refine F.ok S (fun vs H Q E h=>?_) (fun cdv A outer s H vs Q E hr h=>?_)
 ·obtain⟨_,_,_,rfl,_⟩:=h;rfl
 ·obtain⟨x,T,v,rfl,hx,h⟩:=h
  have vis:∀y∈(["self",a]:List Str),Vis (z0b st) y:=fun y hy=>by
   rcases S.par y hy with z|z
   ·exact .inl z
   ·exact .inr (.inl z)
  have db:(a == ("__debug__":Str))=false∧(a == ("__classdict__":Str))=false:=by
   simp only[List.mem_cons,List.not_mem_nil,or_false]at ha
   rcases ha with rfl|rfl<;>decide
  rw[hb]
  refine⟨_,z0k (ps_setX q ha (y1m (i:=1) rfl (vis a (by simp)) db.1 db.2) (y1m (i:=0) rfl (vis "self" (by simp)))) z1w,?_⟩
  refine⟨v,rfl,.ref x,rfl,x,T,rfl,hx,fun dx n1 n2=>h dx n1 n2⟩
theorem x3c {M:Model}{A:Around}{E:Value→Shared→Prop}{s:Shared}{env:Env}{t:Sem Value}{Q:Flow→Shared→Prop}(hh:A.handled=none)
  (h:wpAny M A t (fun v s1=>∃e C dx bm f,v=.ref e∧XC s1.heap C bm f vnew∧XObj s1.heap e C dx .none∧E (.ref e) s1) E s):wpAny M A (raiseStmt env (some t) none) Q E s:=by
 unfold raiseStmt
 refine wpAny_bind (wpAny_mono h (fun v s1 h1=>?_) fun _ _ z=>z)
 obtain⟨e,C,dx,bm,f,rfl,c,⟨vs,sl,he,hv⟩,hE⟩:=h1
 obtain⟨hp,g,d,tk,os⟩:=s1
 obtain⟨nm,qn,N,bs,sn,sub,ab,col,dd,k0,k1,k2,k3,k5,eC,n⟩:=id c.ex
 have hcB:=hasV c.up (X:="BaseException") (by decide) C
 repeat (first|with_reducible refine wpAny_field he rfl hv ?_|with_reducible refine wpAny_loadPart_at he ?_|with_reducible refine wpAny_loadPart_at eC ?_|(with_reducible refine wpAny_isSubtype_exc eC ?_;rw[hcB])|wp_step)
 exact wpAny_raiseNew_none hh hE
end
end L2
set_option maxHeartbeats 1000000
namespace L2
open PySem PyProof.Rows
def x0w (C:Addr)(a:Str)(E:XK)(t:TA):TS:=fun _ σ H=>t σ H fun vs H1=>∃v,vs=[v]∧∀x dx,H1 x=none→H1 dx=none→dx≠x→E (.ref x) (some dx) (upd (upd H1 dx (.xd [(a,v)])) x (XO C dx x))
section
variable {P:Program}{w:World}{K:PySem.W.Frag}{mg:Str→Option Value}{base:Heap}{C fI:Addr}{bm:List Value}{a:Str}{fd:FuncData}
structure XK1 (P:Program)(w:World)(K:PySem.W.Frag)(mg:Str→Option Value)(base:Heap)(cn a:Str)(C:Addr):Prop where
 ex:∃bm fI fd,xcIn K C bm fI=true∧FnOk P w K mg base CX0 1 fI fd ["self",a] (x1o C a)∧Binds K fd ["self",a] []∧∃o,K.lookup fI=some o∧o.cls=.type "function"
 g:mg cn=some (.ref C)
 kp:PySem.W.keepIn K (.ref C)=true
theorem make_run {X:Cx}{cn:Str}{pins:List (Addr×Obj)}{σ:St}{H:Hp}{s:Shared}{v:V}{u:Value}{Q:Value→Shared→Prop}(c:XK1 X.prog X.w X.K X.mg X.base cn a C)(hr:Room 2 X.A)(I:Inv X pins σ H s)(r:RelV v u)
  (h:∀x dx s2,H x=none→H dx=none→dx≠x→s.heap.objs.size≤x→Inv X pins σ (upd (upd H dx (.xd [(a,v)])) x (XF C dx x)) s2→(∃bm f,XC s2.heap C bm f vnew)→Q (.ref x) s2) :
  wpAny (model X.prog X.w) X.A (call (.ref C) [u]) Q X.xe s:=by
 obtain⟨⟨bm,fI,fd,q,F,hb,oI,lk,fc⟩,g,kp⟩:=c
 obtain⟨f,c,hi,_⟩:=y4w I.kIn q
 obtain⟨hp,gs,d,tk,os⟩:=s
 refine make_call c hi (I.kIn _ _ lk) fc (by simp[sizeLine_eq]) ?_
 have gx:((hp.push (y6m [u])).push (y1y C hp.objs.size)).get? (hp.objs.size+1)=some (y1y C hp.objs.size):=Heap.get?_push_at (by rw[Heap.size_push]) rfl
 have I2:Inv X pins σ (upd H (hp.objs.size+1) (XN C hp.objs.size (hp.objs.size+1))) ⟨(hp.push (y6m [u])).push (y1y C hp.objs.size),gs,d,tk,os⟩ :=
  I.laid (fun b o e=>Heap.get?_push_of_some _ (Heap.get?_push_of_some _ e)) (Nat.le_succ _) ⟨gx,⟨_,gx⟩,fun h1 h2 e k=>k _ e⟩
 have nx:H (hp.objs.size+1)=none:=I.hok.fresh (Nat.le_succ _)
 have rv:Vals [V.ref (hp.objs.size+1),v] [Value.ref (hp.objs.size+1),u]:=.cons rfl (.cons r .nil)
 refine wpAny_call (codeAny_mono (F.run _ X.stack _ _ ⟨[.ref (hp.objs.size+1),u],[]⟩ [.ref (hp.objs.size+1),u] _ (fun z H2=>z=.non∧∃dx,H dx=none∧dx≠hp.objs.size+1∧H2=upd (upd H dx (.xd [(a,v)])) (hp.objs.size+1) (XF C dx (hp.objs.size+1))) E0 ((hr.make C [u] []).mono (by omega))
  (I2.env0.make C [u] []) (by simpa using hb _ [.ref (hp.objs.size+1),u] I2.kIn rfl) rv ⟨_,_,v,rfl,z0g,fun dx n1 n2=>⟨rfl,dx,?_,n2,?_⟩⟩) fun r s2 hq=>?_)
 ·rw[z0i n2]at n1;exact n1
 ·funext b
  unfold upd
  by_cases z:b=hp.objs.size+1
  ·simp[z]
  ·simp[z]
 ·cases r with
  |error e=>exact False.elim hq
  |ok fl =>
   cases fl with
   |ret u2 =>
    obtain⟨z,H2,I3,rz,e1,dx,n1,n2,e2⟩:=I2.after hq
    subst e1;subst e2
    exact⟨rz,h _ dx s2 nx n1 n2 (Nat.le_succ _) I3 (let ⟨f,c,_⟩:=y4w I3.kIn q;⟨_,f,c⟩)⟩
   |next=>exact False.elim hq
   |brk=>exact False.elim hq
   |cont=>exact False.elim hq
theorem y3o {N:List Str}{qual:Str}{scope:Scope}{f:Addr}{cd:Value}{A:Around}{outer:List Env}{s0:Shared}{H0:Hp}{E:XK}{cn:Str}{p cpos pos:Pos}{e:Expr}{t:TA}
  (c:XK1 P w K mg base cn a C)(hr:Room 2 (cxOf (CX1 P w) P w K mg base N qual scope f cd A outer s0 H0 E).A)(hg:Gl (cxOf (CX1 P w) P w K mg base N qual scope f cd A outer s0 H0 E) cn)
  (ha:PA (cxOf (CX1 P w) P w K mg base N qual scope f cd A outer s0 H0 E) [e] t)(hdb:(cn == ("__debug__":Str))=false:=by decide)
  (he:starEach [e] (cxOf (CX1 P w) P w K mg base N qual scope f cd A outer s0 H0 E).env=(false,eval e (cxOf (CX1 P w) P w K mg base N qual scope f cd A outer s0 H0 E).env)::starEach [] (cxOf (CX1 P w) P w K mg base N qual scope f cd A outer s0 H0 E).env:=by rfl) :
  PS (cxOf (CX1 P w) P w K mg base N qual scope f cd A outer s0 H0 E) (.Raise (some (.Call (.Name cn p) [e] [] cpos)) none pos) (x0w C a E t):=by
 intro pins s σ H D I h
 rw[arm_exec_Raise]
 refine wpAny_bind (wpAny_standAt (x3c (I.ok.hd rfl) ?_))
 refine wpAny_bind (wpAny_mono (wpAny_Call_Name_kw (z7g I hg c.g ?_ hdb)) (fun v s2 h2=>wpAny_bind (wpAny_standAt (wpAny_pure h2))) fun _ _ z=>z)
 refine PySem.W.callWith_K (h₀:=base) I.ok.mod.kin c.kp (thn (ha cpos pins s σ H _ I h) fun us s1 ⟨vs,H1,I1,r,v,e1,h1⟩=>⟨I1.kIn,?_⟩) he rfl
 subst e1
 obtain⟨u,rfl,ru⟩:=z8m r
 refine make_run c hr I1 ru fun x dx s2 n1 n2 n3 n4 I2 ⟨bm,f2,xc⟩=>?_
 have hx:∃vs sl,s2.heap.get? x=some { cls:=.ref C,dict:=some dx,data:=.fields vs,slots:=sl }∧vs[1]? = some .none:=by
  obtain⟨⟨vs,sl,e1,e2⟩,_,_⟩:=I2.hok x _ z0g
  exact⟨vs,sl,e1,e2⟩
 have xo:XObj s2.heap x C dx .none:=hx
 refine⟨x,C,dx,bm,f2,rfl,xc,xo,?_⟩
 have I3:Inv (cxOf (CX1 P w) P w K mg base N qual scope f cd A outer s0 H0 E) pins σ (upd (upd (upd H1 dx (.xd [(a,v)])) x (XF C dx x)) x (XO C dx x)) s2:=by
  have:=I2.write (x:=x) (e:=x) (o:=XO C dx x) (h':=s2.heap) (t':=s2.toks) (by rw[z0g];trivial) (.inl rfl) (fun b u _ q=>q) (by obtain⟨_,_,q,_⟩:=hx;exact⟨_,q⟩) (XO.ok xo)
  exact this
 rw[x3l]at I3
 exact leave I3 z0g xo (.inl rfl) (Nat.le_trans I1.sz n4) (h1 x dx n1 n2 n3)
end
end L2
set_option maxHeartbeats 1000000
namespace L2
open PySem PyProof.Rows
section
variable {X:Cx}{pins:List (Addr×Obj)}{σ:St}{H:Hp}{s:Shared}{M:Model}{A:Around}{E:Value→Shared→Prop}
theorem Inv.frame {σ2:St}{h2:Heap}{m:Str→Option Value}(I:Inv X pins σ H s)(hs:Heap.SameBut X.env.locals s.heap h2)(hn:h2.Ns X.env.locals m)
  (hl:∀(i:Nat) (x:Str) (v:V),X.N[i]? = some x→σ2[i]? = some (some v)→Vis X.env.scope x→∃u,RelV v u∧Look X.env h2 m x u)(hz:σ2.length=σ.length):Inv X pins σ2 H { s with heap:=h2 }:=by
 have nb:∀b o,X.s₀.heap.get? b=some o→b≠X.env.locals:=fun b o e=>Nat.ne_of_lt (Nat.lt_of_lt_of_le (Heap.lt_size e) I.ok.above)
 have tr:HOk X.prog X.w H h2:=fun b ob e=>by
  refine(I.hok b ob e).stay (fun c u hc q=>(hs.2 c ?_).trans q) (fun _ q=>q) fun _ _ q=>q
  rintro rfl
  rcases hc with rfl|hc
  ·rw[I.free]at e;cases e
  ·rw[I.free]at hc;cases hc
 refine⟨I.ok,I.os,I.bare,⟨fun b o e n hb hx=>(hs.2 b (nb b o e)).trans (I.base.keep b o e n hb hx),fun b o e n hb hx=>?_,I.base.free,fun b o e hx=>?_,I.base.tups,I.base.frzs,I.base.tbls⟩,⟨m,hn,hl⟩,fun y c e=>?_,I.free,I.freeC,fun p hp=>?_,tr,hz.trans I.len⟩
 ·obtain⟨sl,e1⟩:=I.base.slot b o e n hb hx
  exact⟨sl,(hs.2 b (nb b o e)).trans e1⟩
 ·obtain⟨o1,e1⟩:=I.base.there b o e hx
  exact⟨o1,(hs.2 b (nb b o e)).trans e1⟩
 ·obtain⟨u,z⟩:=I.cell y c e
  exact⟨u,z.sameBut hs (I.cne y c e)⟩
 ·obtain⟨e,n,ne,nf,d⟩:=I.pin p hp
  exact⟨(hs.2 p.1 ne).trans e,n,ne,nf,d⟩
theorem unname {i:Nat}{n:Str}{pos:Pos}{Q:Unit→Shared→Prop}(I:Inv X pins σ H s)(hN:X.N.Nodup)(hi:X.N[i]? = some n)(hx:X.env.kindOf n=some .local)(h:∀s2,Inv X pins (σ.set i none) H s2→Q () s2) :
  wpAny M A (do bindName X.env n .none;unbindBehindTheSuite X.env n pos) Q E s:=by
 have hk:X.env.scope.names.lookup n=some .local:=hx
 refine wpAny_bind (wpAny_bindName (z8h (v:=.non) I hN hi (.inl hk) rfl (fun s1 I1=>?_) (.inr hk)))
 unfold unbindBehindTheSuite
 refine wpAny_onRaise ?_
 obtain⟨m,hn,hl⟩:=I1.loc
 have hiσ:i<σ.length:=by rw[I.len];exact(List.getElem?_eq_some_iff.mp hi).1
 obtain⟨u,ru,lk⟩:=hl i n .non hi (by rw[List.getElem?_set_self hiσ]) (.inl hk)
 have hm:m n=some u:=by
  rcases lk with ⟨_,e⟩|⟨k,_⟩
  ·exact e
  ·rw[hx]at k;rcases k with k|k<;>cases k
 refine wpAny_unbindName_local hx hn hm (by rw[I.ok.kind];rfl) fun h2 u2 hn2 hs=>h _ ?_
 refine I1.frame (σ2:=σ.set i none) hs hn2 (fun j y v e1 e2 e3=>?_) (by simp)
 by_cases hj:j=i
 ·subst hj;rw[List.getElem?_set_self hiσ]at e2;cases e2
 ·rw[List.getElem?_set_ne (Ne.symm hj)]at e2
  obtain⟨u3,r3,q⟩:=hl j y v e1 (by rw[List.getElem?_set_ne (Ne.symm hj)];exact e2) e3
  refine⟨u3,r3,?_⟩
  have ny:y≠n:=fun z=>hj (y4b hN e1 (z ▸ hi))
  rcases q with ⟨k,e⟩|⟨k,c,e,z⟩
  ·exact .inl ⟨k,by simp[ny,e]⟩
  ·exact .inr ⟨k,c,e,z.sameBut hs (I1.cne y c e)⟩
abbrev Cx.in_ (X:Cx)(e:Value):Cx:={ X with A:=X.A.mark (some e),calm:=false }
theorem Cx.Ok.in_ {e:Value}(ok:X.Ok):(X.in_ e).Ok :=
 ⟨ok.mod,ok.kind,ok.glob,ok.blt,ok.above,ok.inj,ok.has,ok.cab,(fun z=>nomatch z),ok.frames,ok.stk,ok.exf,ok.bs,ok.bsz,ok.noex,ok.exfs,ok.funs,ok.frf,ok.lam⟩
theorem Inv.in_ {e:Value}(I:Inv X pins σ H s):Inv (X.in_ e) pins σ H s:=⟨I.ok.in_,I.os,I.bare,I.base,I.loc,I.cell,I.free,I.freeC,I.pin,I.hok,I.len⟩
def fxIn (K:PySem.W.Frag)(C:Addr):Bool:=match K.lookup C with
 |some ⟨.type "type",_,.cls k,sl⟩=>(match k.mro,sl.toList with
  |.ref c::l,[_,_,_,_,some (.builtin n),_]=>c == C&&l == mroV&&!k.hasDel
  |_,_=>false)
 |_=>false
theorem fx_of {K:PySem.W.Frag}{h:Heap}{C:Addr}(Y:K.In h)(q:fxIn K C=true):∃nm q N bs hd sn sub ab col dd k0 k1 k2 k3 k5 nid,h.get? C=some (excClassObj nm q C N bs mroV hd sn sub ab col dd k0 k1 k2 k3 k5 nid):=by
 unfold fxIn at q
 split at q
 ·rename_i dd k sl ho
  split at q
  ·rename_i c l k0 k1 k2 k3 n k5 hm hs
   simp only[Bool.and_eq_true,beq_iff_eq,Bool.not_eq_true']at q
   obtain⟨⟨rfl,rfl⟩,hdel⟩:=q
   obtain⟨nm,bs,mro,ns,qn,hd,sn,sub,ab,col,del⟩:=k
   dsimp only at hm hdel
   subst hm hdel
   have hsl:sl = #[k0,k1,k2,k3,some (.builtin n),k5]:=by
    obtain⟨l⟩:=sl
    simp only at hs
    rw[hs]
   subst hsl
   exact⟨nm,qn,ns,bs,hd,sn,sub,ab,col,dd,k0,k1,k2,k3,k5,n,Y _ _ ho⟩
  ·cases q
 ·cases q
theorem exm {K:PySem.W.Frag}{x C CF dx:Addr}{bm:List Value}{f:Str→Option Value}{hd:Value}{Q:Bool→Shared→Prop}(Y:K.In s.heap)(q:fxIn K CF=true)(c:XC s.heap C bm f vnew)(hb:bm.contains (.ref CF)=true)(o:XObj s.heap x C dx hd)(h:Q true s) :
  wpAny M A (excMatches (.ref x) (.ref CF)) Q E s:=by
 obtain⟨hp,g,d,t,os⟩:=s
 obtain⟨nm,qn,N,bs,sn,sub,ab,col,dd,k0,k1,k2,k3,k5,eC,n⟩:=id c.ex
 obtain⟨nm2,q2,N2,bs2,hd2,sn2,sub2,ab2,col2,dd2,j0,j1,j2,j3,j5,nid2,eF⟩:=fx_of Y q
 obtain⟨vs,sl,he,_⟩:=o
 have hcB:(Value.ref CF::mroV).contains (.type "BaseException")=true:=by rw[List.contains_cons];simp
 have hcC:(Value.ref C::bm).contains (.ref CF)=true:=by rw[List.contains_cons,hb,Bool.or_true]
 have f:=tc_notTuple
 unfold excMatches
 repeat (first|with_reducible refine wpAny_loadPart_at he ?_|with_reducible refine wpAny_loadPart_at eF ?_|(with_reducible refine wpAny_isSubtype_exc eF ?_;rw[hcB])|(with_reducible refine wpAny_isSubtype_exc eC ?_;rw[hcC])|wp_step)
 exact h
end
end L2
set_option maxHeartbeats 1000000
namespace L2
open PySem PyProof.Rows
def Below (K:PySem.W.Frag)(CF C:Addr):Prop:=∃bm fI,xcIn K C bm fI=true∧bm.contains (.ref CF)=true
def tTry (K:PySem.W.Frag)(CF:Addr)(sp:Sp)(t:TA)(ie iy:Nat):TS:=fun D σ H=>t σ H fun vs H1=>sp vs H1 (fun _ H2=>D.nx σ H2) (fun e od H2=>∃x C dx,e=.ref x∧od=some dx∧H2 x=some (XO C dx x)∧Below K CF C ∧
 D.nx (((σ.set ie (some (.ref x))).set iy (some (.ref x))).set ie none) H2)
section
variable {X:Cx}{pins:List (Addr×Obj)}{σ:St}{H:Hp}{s:Shared}{M:Model}{A:Around}{E:Value→Shared→Prop}{CF x C dx T:Addr}
theorem Inv.out_ {e:Value}(ok:X.Ok)(I:Inv (X.in_ e) pins σ H s):Inv X pins σ H s:=⟨ok,I.os,I.bare,I.base,I.loc,I.cell,I.free,I.freeC,I.pin,I.hok,I.len⟩
theorem ch_new {s1:Shared}(I:Inv X pins σ H s1)(n:s1.heap.objs.size≤T):∀b∈[T],(b∈X.ex∨X.s₀.heap.objs.size≤b)∧b≠X.env.locals∧(∀x c,X.env.cells.lookup x=some c→c≠b)∧∀p∈X.pn++pins,p.1≠b:=fun b hb=>by
 cases List.mem_singleton.mp hb
 have lt:∀c o,s1.heap.get? c=some o→c≠T:=fun c o e=>Nat.ne_of_lt (Nat.lt_of_lt_of_le (Heap.lt_size e) n)
 refine⟨.inr (Nat.le_trans I.sz n),?_,fun y c e=>?_,fun p hp=>?_⟩
 ·exact Ne.symm (Nat.ne_of_lt (Nat.lt_of_lt_of_le I.lt n))
 ·obtain⟨v,o,ho,_⟩:=I.cell y c e
  exact lt c o ho
 ·obtain⟨e,_⟩:=I.pin p hp
  exact lt p.1 _ e
theorem caught {n y cf:Str}{ie iy:Nat}{p2 p3 p4 p5 hpos:Pos}{H2:Hp}{s2:Shared}{D:Ends}(I:Inv X pins σ H s)(hst:X.stack=X.env::X.outer∧X.env.frame=some X.env.locals)(hne:X.xe=fun _ _=>False)
  (hN:X.N.Nodup)(hi:X.N[ie]? = some n)(hl:X.env.kindOf n=some .local)(hy:X.N[iy]? = some y)(hyl:Loc X.env.scope y)(hyf:X.fn y=true∨X.env.scope.names.lookup y=some .local)(gcf:Gl X cf)(mcf:X.mg cf=some (.ref CF))(qcf:fxIn X.K CF=true)(bl:Below X.K CF C)
  (os:s2.os=s.os)(bare:AllBare s2.gens)(un:Un (frs X.stack) [] H H2 s.heap s2.heap)(ok:HOk X.prog X.w H2 s2.heap)(hx:H2 x=some (XO C dx x))(xo:XObj s2.heap x C dx (.ref T))(tr:TrOk s2.heap T)(hT:H2 T=none)(nT:s.heap.objs.size≤T)
  (hd:(cf == ("__debug__":Str))=false)(hdn:(n == ("__debug__":Str))=false)(hcn:(n == ("__classdict__":Str))=false)
  (hs:swapsWith (.Name n p4) (some (.Name y p3)) p5.line X.env=pure false)
  (q:D.nx (((σ.set ie (some (.ref x))).set iy (some (.ref x))).set ie none) H2) :
  wpAny (model X.prog X.w) X.A (noteFrame (.ref x) X.env) (fun _ s3=>wpAny (model X.prog X.w) X.A (setFlight (.ref x) none) (fun _ s4=>wpAny (model X.prog X.w) X.A (handleBy (.ref x) X.env [.ExceptHandler (some (.Name cf p2)) (some n) [.Assign [.Name y p3] (.Name n p4) p5] hpos]) (SP X pins D) E s4) E s3) E s2:=by
 have I1:Inv X pins σ H2 s2:=I.call' os un ok bare (fun b z=>absurd z (by simp))
 have sz:s.heap.objs.size≤s2.heap.objs.size:=by
  obtain⟨bm,fI,q1,q2⟩:=bl
  cases Nat.lt_or_ge s2.heap.objs.size s.heap.objs.size with
  |inr h=>exact h
  |inl h =>
   obtain⟨_,_,g,_⟩:=tr
   exact absurd (Nat.lt_of_lt_of_le (Nat.lt_trans (Heap.lt_size g) h) nT) (Nat.lt_irrefl _)
 have fr:X.A.frames=some (X.env::X.outer):=by rw[←hst.1];exact I.ok.frames
 refine noted1 (base:=X.base) fr (by rw[←hst.1];exact I1.stack) hst.2 xo tr (tr_ne xo hx hT) fun h2 nt=>?_
 obtain⟨⟨T2,n2,x2,t2⟩,k,k2⟩:=id nt
 have nt2:y6l X.stack x C dx (fun b=>b=T) s2.heap h2:=by rw[hst.1];exact nt
 obtain⟨un2,ok2⟩:=noted_un (P:=X.prog) (w:=X.w) (ex:=[T]) I1.hok I1.stkFree (fun b z=>by rw[z];exact hT) hx nt2 (fun b z=>by simp[z])
 have chT:∀b∈[T],(b∈X.ex∨X.s₀.heap.objs.size≤b)∧b≠X.env.locals∧(∀x c,X.env.cells.lookup x=some c→c≠b)∧∀p∈X.pn++pins,p.1≠b:=ch_new I nT
 have I2:Inv X pins σ H2 { s2 with heap:=h2 }:=I1.call' rfl un2 ok2 bare chT
 have hT2:H2 T2=none:=I1.hok.fresh n2
 obtain⟨bm,fI,qC,hbm⟩:=bl
 refine wpAny_handleBy_cons (codeAny_handlers_test ?_) (by intro z;cases z)
 refine z7g (X:=X.in_ (.ref x)) I2.in_ gcf mcf ?_ hd
 obtain⟨f,xc,_⟩:=y4w I2.kIn qC
 refine exm I2.kIn qcf xc hbm x2 ?_
 refine codeAny_handlers_suite_as ?_
 obtain⟨vs,sl,gx,hv⟩:=id x2
 obtain⟨oT,ts,gT,dT,h3⟩:=id t2
 refine wpAny_setFlight_none gx rfl hv gT dT (Array.getElem?_eq_some_iff.mp h3).1 ?_
 have nTx:T2≠x:=fun z=>by rw[z,hx]at hT2;cases hT2
 have kp:∀b o,b≠T2→h2.get? b=some o→(h2.update T2 (Obj.mapFields (·.setIfInBounds 3 .none))).get? b=some o:=fun b o nb e=>(Heap.get?_update_other _ _ (Ne.symm nb)).trans e
 have un3:Un (frs X.stack) [T2] H2 H2 h2 (h2.update T2 (Obj.mapFields (·.setIfInBounds 3 .none))) :=
  ⟨fun b o e _ _ nb=>kp b o (by simpa using nb) e,fun b o e _ _ nb=>⟨o.slots,kp b o (by simpa using nb) e⟩,fun _ _ _ n _=>n,fun b o e nb=>⟨o,kp b o (by simpa using nb) e⟩,fun _ _ z=>z,fun _ _ _ z=>z,fun _ z=>z⟩
 have ok3:HOk X.prog X.w H2 (h2.update T2 (Obj.mapFields (·.setIfInBounds 3 .none))):=fun b o e=>by
  refine(I2.hok b o e).stay (fun c u hc z=>kp c u (fun r=>?_) z) (fun _ z=>z) fun _ _ z=>z
  subst r
  rcases hc with rfl|hc
  ·rw[hT2]at e;cases e
  ·rw[hT2]at hc;cases hc
 have I3:Inv X pins σ H2 { s2 with heap:=h2.update T2 (Obj.mapFields (·.setIfInBounds 3 .none)) }:=I2.call' rfl un3 ok3 bare (ch_new I (Nat.le_trans sz n2))
 refine z8h (v:=.ref x) I3 hN hi (.inl hl) rfl (fun s4 I4=>?_) (.inr hl)
 have body:PSs (X.in_ (.ref x)) [.Assign [.Name y p3] (.Name n p4) p5] _:=z0k (z2g hN hy hyl (y1m hi (.inl hl) hdn hcn) hs hyf) z1w
 have hiσ:ie<σ.length:=by rw[I.len];exact(List.getElem?_eq_some_iff.mp hi).1
 refine wpAny_mono (body pins s4 _ H2 { nx:=fun σ' H'=>σ' = (σ.set ie (some (.ref x))).set iy (some (.ref x))∧H' = H2,rt:=fun _ _=>False } I4.in_ ⟨.ref x,by rw[List.getElem?_set_self hiσ],rfl,rfl⟩) (fun fl s5 h5=>?_) fun e s5 h5=>?_
 ·cases fl with
  |next =>
   obtain⟨σ5,H5,I5,rfl,rfl⟩:=h5
   exact unname (I5.out_ I.ok) hN hi hl fun s6 I6=>⟨_,_,I6,q⟩
  |ret u=>obtain⟨_,_,_,_,_,z⟩:=h5;exact z.elim
  |brk=>obtain⟨_,_,_,z⟩:=h5;exact z.elim
  |cont=>obtain⟨_,_,_,z⟩:=h5;exact z.elim
 ·have z:X.xe e s5:=h5
  rw[hne]at z;exact z.elim
end
end L2
set_option maxHeartbeats 1000000
namespace L2
open PySem PyProof.Rows
section
variable {X:Cx}
theorem ps_try {k:Nat}{f:Addr}{fd:FuncData}{ps:List Str}{sp:Sp}{g n y cf:Str}{ie iy:Nat}{p2 p3 p4 p5 hpos pg cpos epos pos:Pos}{CF:Addr}{e:Expr}{es:List Expr}{t:TA}
  (F:FnOk X.prog X.w X.K X.mg X.base (CX1 X.prog X.w) k f fd ps sp)(hr:Room k X.A)(hg:Gl X g)(hm:X.mg g=some (.ref f))(hk:PySem.W.keepIn X.K (.ref f)=true)(hb:Binds X.K fd ps [])(ha:PA X (e::es) t)
  (hst:X.stack=X.env::X.outer∧X.env.frame=some X.env.locals)(hne:X.xe=fun _ _=>False)(hN:X.N.Nodup)(hi:X.N[ie]? = some n)(hl:X.env.kindOf n=some .local)(hy:X.N[iy]? = some y)(hyl:Loc X.env.scope y)
  (hyf:X.fn y=true∨X.env.scope.names.lookup y=some .local)(gcf:Gl X cf)(mcf:X.mg cf=some (.ref CF))(qcf:fxIn X.K CF=true)
  (hd:(cf == ("__debug__":Str))=false:=by decide)(hdn:(n == ("__debug__":Str))=false:=by decide)(hcn:(n == ("__classdict__":Str))=false:=by decide)(hdg:(g == ("__debug__":Str))=false:=by decide)
  (hs:swapsWith (.Name n p4) (some (.Name y p3)) p5.line X.env=pure false:=by rfl)(he:starEach (e::es) X.env=(false,eval e X.env)::starEach es X.env:=by rfl)(hpl:(backTo cpos (starEach es X.env)).any (·.1)=false:=by rfl)
  (hse:swapsWith (.Call (.Name g pg) (e::es) [] cpos) none epos.line X.env=pure false:=by rfl) :
  PS X (.Try [.Expr (.Call (.Name g pg) (e::es) [] cpos) epos] [.ExceptHandler (some (.Name cf p2)) (some n) [.Assign [.Name y p3] (.Name n p4) p5] hpos] [] [] pos) (tTry X.K CF sp t ie iy):=by
 intro pins s σ H D I h
 refine wpAny_Try_except (wpAny_execs_cons ?_)
 refine wpAny_Expr_any ?_ I.quiet hse
 refine wpAny_Call_Name_kw (z7g I hg hm ?_ hdg)
 refine PySem.W.callWith_K (h₀:=X.base) I.ok.mod.kin hk (wpAny_mono (ha cpos pins s σ H _ I h) (fun us s1 ⟨vs,H1,I1,r,q⟩=>⟨I1.kIn,?_⟩) fun e s1 z=>?_) he hpl
 ·have hl2:(us++[]).length=ps.length:=by rw[List.append_nil,←r.length];exact F.len _ _ _ _ q
  have bt:=hb s1 us I1.kIn hl2
  rw[List.append_nil]at bt
  refine wpAny_call (codeAny_mono (F.run X.A X.stack s1 H1 ⟨us,[]⟩ us vs _ _ hr I1.env0 bt r q) fun r2 s2 hq=>?_)
  cases r2 with
  |error e =>
   obtain⟨x,C,dx,T,H2,rfl,os,bare,un,ok,hx,xo,tr,hT,nx,nT,x2,C2,dx2,e1,e2,hx2,bl,q⟩:=hq
   cases e1;cases e2
   have eC:C2=C:=by
    obtain⟨⟨v1,l1,g1⟩,_⟩:=ok x _ hx2
    obtain⟨v2,l2,g2,_⟩:=xo
    rw[g1]at g2;cases g2;rfl
   subst eC
   exact caught I1 hst hne hN hi hl hy hyl hyf gcf mcf qcf bl os bare un ok hx xo tr hT nT hd hdn hcn hs q
  |ok fl =>
   cases fl with
   |ret u =>
    obtain⟨v,H2,I2,rv,q2⟩:=I1.after hq
    exact wpAny_execs_nil (wpAny_execs_nil ⟨σ,H2,I2,q2⟩)
   |next=>exact False.elim hq
   |brk=>exact False.elim hq
   |cont=>exact False.elim hq
 ·rw[hne]at z;exact z.elim
end
end L2
set_option maxHeartbeats 1000000
namespace L2
open PySem PyProof.Rows
open Builtin Builtin.ObjectAttr
theorem veClass:typeLookup (.type "ValueError") "__class__" = pure (some (.builtin "object.__class__")):=by rw[typeLookup_type,builtinLookup_eq_fast];kernel_rfl
section
variable {prog:Program}{w:World}{A:Around}{E:Value→Shared→Prop}{h:Heap}{g:Array GenState}{d:Drawn}{t:Nat}{os:OsState}
variable {C x:Addr}{bm:List Value}{nid:String}{f:Str→Option Value}{o:Obj}
theorem cls_get {R:Result→Shared→Prop}(c:XC h C bm f nid)(hx:h.get? x=some o)(hc:o.cls=.ref C)(hq:R (.ok (.ret (.ref C))) ⟨h,g,d,t,os⟩) :
  codeAny (model prog w) A (.call (.builtin "getset_descriptor.__get__") ⟨[.builtin "object.__class__",.ref x,.ref C],[]⟩) R ⟨h,g,d,t,os⟩:=by
 obtain⟨nm,qn,N,bs,sn,sub,ab,col,dd,k0,k1,k2,k3,k5,eC,n⟩:=id c.ex
 have t5:(⟨h,g,d,t,os⟩:Shared).TypeIs (.builtin "object.__class__") "getset_descriptor":=F.typeOf_object_class
 have hcB:(Value.ref C::bm).contains (.type (".".intercalate ("object.__class__".cutAt '.').dropLast))=true:=by rw[F.owner_object_class];exact hasV c.up (by decide) C
 refine codeAny_call_builtin F.slot_gs_get.plain F.entry_gs_get (F.slot_gs_get.check _ _ _ _ _ _ _ _ t5 (F.args_gs_get _ _ _) ?_)
 repeat (any_goals (first|assumption|(with_reducible refine wpAny_loadPart_at hx ?_;rw[hc])|(with_reducible refine wpAny_isSubtype_exc eC ?_;rw[hcB])|wp_step))
 refine⟨Code.quiet_builtin _ (by decide +kernel),codeAny_builtin F.entry_object_class ?_⟩
 repeat (any_goals (first|assumption|(with_reducible refine wpAny_loadPart_at hx ?_;rw[hc])|wp_step))
theorem x1b {tk:Tok}{Q:Fin→Shared→Prop}(c:XC h C bm f nid)(hfa:f "__class__" = none)(hx:h.get? x=some o)(hc:o.cls=.ref C)(hq:Q (.done (.ret (.ref C))) ⟨h,g,d,t,os⟩) :
  wpAny (model prog w) A (Builtin.«object.__getattribute__» ⟨[.ref x,.str "__class__" tk],[]⟩) Q E ⟨h,g,d,t,os⟩:=by
 have t5:(⟨h,g,d,t,os⟩:Shared).TypeIs (.builtin "object.__class__") "getset_descriptor":=F.typeOf_object_class
 have f5:=F.typeOf_object_class
 have f6:=F.slot_gs_get.lookup
 have f7:=F.slot_gs_set.lookup
 repeat (any_goals (first|assumption|(with_reducible refine wpAny_loadPart_at hx ?_;rw[hc])|(with_reducible refine c.look (by simp) veClass ?_;rw[hfa])|wp_step))
 refine cls_get c hx hc ?_
 repeat (any_goals (first|assumption|wp_step))
theorem cls_attr {Q:Option Value→Shared→Prop}(c:XC h C bm f nid)(hg:f "__getattribute__" = none)(hh:f "__getattr__" = none)(hfa:f "__class__" = none)(hx:h.get? x=some o)(hc:o.cls=.ref C)(hq:Q (some (.ref C)) ⟨h,g,d,t+1,os⟩) :
  wpAny (model prog w) A (getAttr? (.ref x) "__class__") Q E ⟨h,g,d,t,os⟩:=by
 have FB:=F.attrBase_ValueError
 have f3:=FB.ga.bind (.ref x)
 have z0:(false&&onTheHeap (Value.builtin "BaseException.__getattribute__"))=false:=rfl
 have z2:(Value.builtin "BaseException.__getattribute__" == Value.builtin "object.__getattribute__")=false:=by decide +kernel
 have z1:(onTheHeap (Value.ref C)&&Value.builtin "BaseException.__getattribute__" == Value.builtin "object.__getattribute__")=false:=by rw[z2];rfl
 unfold getAttr? getAttrBy?
 repeat (any_goals (first|assumption|(with_reducible refine wpAny_loadPart_at hx ?_;rw[hc])|(with_reducible refine c.look (by simp) FB.ga.lookup ?_;rw[hg])|(with_reducible refine c.look (by simp) FB.noGetattr ?_;rw[hh])|wp_step))
 refine codeAny_call_builtin FB.ga.plain F.entry_bexc_ga (chk_ga c hx hc (x1b c hfa hx hc ?_))
 repeat (any_goals (first|assumption|wp_step))
end
theorem kitx_exc {K:PySem.W.Frag}{C x fI:Addr}{bm:List Value}(q:xcIn K C bm fI=true):PySem.W.KitX K (.ref x) (.ref C) (fun h=>∃o,h.get? x=some o∧o.cls=.ref C) where
 ty:=fun M h _ ⟨o,h1,h2⟩=>h2 ▸ (PySem.W.Looks.ld h1).andThen .now
 it:=fun M h Y _=>by
  obtain⟨f,c,_⟩:=y4w Y q
  obtain⟨nm,qn,N,bs,sn,sub,ab,col,dd,k0,k1,k2,k3,k5,eC,n⟩:=c.ex
  intro A' Q' E' s' k q
  unfold isType loadHead
  exact wpAny_bind (wpAny_loadPart (k _ _ eC) (wpAny_pure q))
 ne:=fun h tp dd its n sl Y htp=>Bool.eq_false_iff.mpr fun z=>by
  obtain⟨f,c,_⟩:=y4w Y q
  obtain⟨nm,qn,N,bs,sn,sub,ab,col,dd,k0,k1,k2,k3,k5,eC,n⟩:=c.ex
  have e:C=tp:=Value.ref.inj (beq_iff_eq.mp z)
  subst e
  rw[eC]at htp;exact absurd (Value.type.inj (congrArg Obj.cls (Option.some.inj htp))) (by decide)
 ca:=fun {prog w A E Q s} Y ⟨o,h1,h2⟩ k=>by
  obtain⟨f,c,_,no⟩:=y4w Y q
  obtain⟨hp,g,d,t,os⟩:=s
  exact cls_attr c (no _ (by simp)) (no _ (by simp)) (no _ (by simp)) h1 h2 k
end L2
set_option maxHeartbeats 1000000
namespace L2
open PySem PyProof.Rows
def x1s (K:PySem.W.Frag)(a:Str)(te:TE):TE:=fun σ H Q=>te σ H fun y H1=>∃x C dx v bm fI,y=.ref x∧H1 x=some (XO C dx x)∧H1 dx=some (.xd [(a,v)])∧xcIn K C bm fI=true∧(∃z,v=.str z)∧Q v H1
theorem nameNo {a:Str}(ha:a∈(["name","row"]:List Str)):a∈quiets.tail∧typeLookup (.type "ValueError") a=pure none:=by
 simp only[List.mem_cons,List.not_mem_nil,or_false]at ha
 rcases ha with rfl|rfl
 ·exact⟨by simp,by rw[typeLookup_type,builtinLookup_eq_fast];kernel_rfl⟩
 ·exact⟨by simp,by rw[typeLookup_type,builtinLookup_eq_fast];kernel_rfl⟩
section
variable {X:Cx}{e:Expr}{te:TE}{a:Str}{pos:Pos}
theorem z6r (ha:a∈(["name","row"]:List Str))(he:PE X e te)(hb:attributeBase e a X.env (eval e X.env)=eval e X.env):PE X (.Attribute e a pos) (x1s X.K a te):=by
 intro pins s σ H Q I h
 refine attr_of hb (thn (he pins s σ H _ I h) fun u s1 ⟨y,H1,I1,ry,x,C,dx,v,bm,fI,e1,hx,hd,q,⟨z,e2⟩,h1⟩=>?_)
 subst e1;subst e2
 obtain rfl:u=Value.ref x:=ry
 obtain⟨f,c,_,no⟩:=y4w I1.kIn q
 obtain⟨⟨vs,sl,gx⟩,_,_⟩:=I1.hok x _ hx
 obtain⟨mA,nx,rel⟩:=(show ∃mA,s1.heap.Ns1 dx mA∧∀f,RelO (([(a,V.str z)]:List (Str×V)).lookup f) (mA f) from I1.hok dx _ hd)
 obtain⟨aq,aB⟩:=nameNo ha
 have ra:=rel a
 have lk:([(a,V.str z)]:List (Str×V)).lookup a=some (.str z):=by simp[List.lookup]
 rw[lk]at ra
 cases hv:mA a with
 |none=>rw[hv]at ra;exact ra.elim
 |some u2 =>
  rw[hv]at ra
  obtain⟨tk,rfl⟩:=(show ∃t,u2=Value.str z t from ra)
  obtain⟨hp,g,d,t,os⟩:=s1
  exact get_attr c (no _ (by simp)) (no _ (by simp)) (List.mem_of_mem_tail aq) aB (no a aq) gx nx hv rfl ⟨.str z,H1,I1.tok _,⟨tk,rfl⟩,h1⟩
def rIsX (K:PySem.W.Frag):List V→Hp→VK→Prop:=fun xs H Q=>∃x c cv t b,xs=[x,c]∧((∃T,c=.ty T∧cv=.type T) ∨ ∃C2,c=.ref C2∧cv=.ref C2) ∧
 ((x=.non∧t=.type "NoneType") ∨ ∃y C dx bm fI,x=.ref y∧H y=some (XO C dx y)∧xcIn K C bm fI=true∧t=.ref C)∧PySem.W.kitOne K t cv=some b∧Q (.bl b) H
theorem z5z:z7d X (.builtin "isinstance") (rIsX X.K):=by
 intro pins s σ H xs us Q I r h
 obtain⟨x,c,cv,t,b,rfl,hc,hx,e,q⟩:=h
 obtain⟨u,u2,rfl,rx,rt⟩:=vals2 r
 have e2:u2=cv:=by
  rcases hc with ⟨T,rfl,rfl⟩|⟨C2,rfl,rfl⟩
  ·exact rt
  ·exact rt
 subst e2
 rcases hx with ⟨rfl,rfl⟩|⟨y,C,dx,bm,fI,rfl,hy,xc,rfl⟩
 ·cases(show u=Value.none from rx)
  exact PySem.W.kia_one PySem.W.kitx_none I.kIn True.intro e (fun z=>nomatch z) fun tk=>⟨.bl b,H,I.tok tk,rfl,q⟩
 ·obtain rfl:u=Value.ref y:=rx
  obtain⟨⟨vs,sl,gx⟩,_,_⟩:=I.hok y _ hy
  exact PySem.W.kia_one (kitx_exc xc) I.kIn ⟨_,gx,rfl⟩ e (fun z=>nomatch z) fun tk=>⟨.bl b,H,I.tok tk,rfl,q⟩
theorem y2m {x:Str}{C:Addr}(hg:Gl X x)(hm:X.mg x=some (.ref C))(hd:(x == ("__debug__":Str))=false:=by decide):PE X (.Name x pos) (tC (.ref C)):=fun pins s σ H Q I h=>z7g I hg hm ⟨.ref C,H,I,rfl,h⟩ hd
end
end L2
namespace L2
open PySem PyProof.Rows
def isNo:Value→Bool
 |.none=>true
 |_=>false
def isN:V→Bool
 |.non=>true
 |_=>false
theorem isNo_rel {v:V}{w:Value}(r:RelV v w):isNo w=isN v:=by
 cases v with
 |non=>cases(show w=.none from r);rfl
 |ref a=>cases(show w=.ref a from r);rfl
 |int i=>obtain⟨t,rfl⟩:=r;rfl
 |str i=>obtain⟨t,rfl⟩:=r;rfl
 |bl i=>cases(show w=.bool i from r);rfl
 |_=>first|(obtain⟨t,rfl⟩:=r;rfl)|(cases r;rfl)
theorem y9l:∀{xs:List V}{us:List Value},Vals xs us→us.any isNo=xs.any isN
 |_,_,.nil=>rfl
 |_,_,.cons r rs=>by simp only[List.any_cons,isNo_rel r,y9l rs]
theorem y8 {w:Value}:∀{xs:List V}{us:List Value},Vals xs us→w∈us→∃v∈xs,RelV v w
 |_,_,.nil,h=>by cases h
 |_,_,.cons r rs,h=>by
  rcases List.mem_cons.mp h with rfl|h
  ·exact⟨_,List.mem_cons_self,r⟩
  ·obtain⟨v,hv,r'⟩:=y8 rs h
   exact⟨v,List.mem_cons_of_mem _ hv,r'⟩
section
variable {X:Cx}
theorem x3p (hu:X.A.units+100<cLine):OpR X (compareOp .In) (fun x y H Q=>∃p,y=.ref p∧∃xs,x=.non∧H p=some (.lst xs)∧(∀v∈xs,v=.non ∨ ∃a ys,v=.ref a∧H a=some (.tup ys))∧Q (.bl (xs.any isN)) H):=by
 intro pins s σ H x y v u Q I rx ry h
 obtain⟨p,rfl,xs,rfl,hp,hx,q⟩:=h
 cases(show v=.none from rx)
 cases(show u=.ref p from ry)
 obtain⟨its,r,pl,hz⟩:=I.list (SqL.of hp)
 refine SeqAt.in_listAt isNo pl.isList (fun w hw=>?_) ⟨.bl _,H,I,rfl,?_⟩
 ·obtain⟨v',hv,rv⟩:=y8 r (by simpa using hw)
  rcases hx v' hv with rfl|⟨a,ys,rfl,ha⟩
  ·cases(show w=.none from rv)
   exact .same _
  ·cases(show w=.ref a from rv)
   obtain⟨its2,r2,pl2,hz2⟩:=I.tuple (SqT.of ha)
   exact SeqAt.EqAt.tuple_none pl2 (Nat.lt_of_le_of_lt (by show X.A.units+1≤_;omega) hu)
 ·rw[show its.toArray.any isNo=its.any isNo by simp,y9l r]
  exact q
end
end L2
namespace VL
open PySem L2
def isND:D→Bool
 |.non=>true
 |_=>false
theorem rep_isN {F:Hp}{d:D}{v:V}(h:Rep F d v):isN v=isND d:=by
 cases d with
 |non=>cases(show v=.non from h);rfl
 |int i=>cases(show v=.int i from h);rfl
 |str i=>cases(show v=.str i from h);rfl
 |bl i=>cases(show v=.bl i from h);rfl
 |lst xs=>obtain⟨a,vs,rfl,_⟩:=h;rfl
 |tup xs=>obtain⟨a,vs,rfl,_⟩:=h;rfl
 |dct xs=>obtain⟨a,vs,rfl,_⟩:=h;rfl
 |_=>first|(cases h;rfl)|(obtain⟨a,rfl⟩:=h;rfl)
theorem y7x {F:Hp}:∀{ds:List D}{vs:List V},Reps F ds vs→vs.any isN=ds.any isND
 | [],vs,h=>by cases(show vs=[] from h);rfl
 |d::ds,vs,h=>by obtain⟨v,r,rfl,h1,h2⟩:=h;simp only[List.any_cons,rep_isN h1,y7x h2]
theorem y8t {F:Hp}{v:V}:∀{ds:List D}{vs:List V},Reps F ds vs→v∈vs→∃d∈ds,Rep F d v
 | [],vs,h,hv=>by cases(show vs=[] from h);cases hv
 |d::ds,vs,h,hv=>by
  obtain⟨v0,r,rfl,h1,h2⟩:=h
  rcases List.mem_cons.mp hv with rfl|hv
  ·exact⟨d,List.mem_cons_self,h1⟩
  ·obtain⟨d',hd,h'⟩:=y8t h2 hv
   exact⟨d',List.mem_cons_of_mem _ hd,h'⟩
def fInN:D→D→(Bool→D→Prop)→Prop:=fun x y Q=>∃ds:List D,x=.non∧y=.lst ds∧(∀d∈ds,d=.non ∨ ∃xs,d=.tup xs)∧Q false (.bl (ds.any isND))
theorem os_inN:OpS (fun x y H Q=>∃p,y=.ref p∧∃xs,x=.non∧H p=some (.lst xs)∧(∀v∈xs,v=.non ∨ ∃a ys,v=.ref a∧H a=some (.tup ys))∧Q (.bl (xs.any isN)) H) fInN:=by
 intro io H0 F0 F δ σ H x y v u Q Qd I px py q k
 obtain⟨ds,rfl,rfl,hds,q⟩:=q
 obtain⟨b,us,rfl,h2,r2⟩:=py.lst I
 have ex:v=.non:=px.non
 subst ex
 refine⟨b,rfl,us,rfl,h2,fun w hw=>?_,k false _ _ F H (Same.refl _) (I.pushF ?_) q⟩
 ·obtain⟨d,hd,rd⟩:=y8t r2 hw
  rcases hds d hd with rfl|⟨xs,rfl⟩
  ·exact .inl rd
  ·obtain⟨a,vs,rfl,ha,_⟩:=rd
   exact .inr ⟨a,vs,rfl,I.sub _ _ ha⟩
 ·rw[y7x r2];rfl
end VL
namespace L2
open PySem PyProof.Rows
section
variable {X:Cx}{pos:Pos}
end
end L2
namespace VL
open PySem L2
section
variable {X:Cx}{pos:Pos}
end
end VL
namespace L2
open PySem PySem.Spec PySem.Calls PyProof.Rows PySem.W
section
variable {prog:Program}{w:World}{A:Around}{E:Value→Shared→Prop}{s:Shared}{l q I S:Addr}{g:Heap}{vs:List Value}{R:Result→Shared→Prop}{Q:Value→Shared→Prop}{d:Value}
end
abbrev lamScope:Scope:={ kind:=.function,names:=[(Str.ofString "each",.local)],isGenerator:=false,isCoroutine:=false,more:=[] }
section
variable {prog:Program}{w:World}{A:Around}{E:Value→Shared→Prop}{s:Shared}{f c' t:Addr}{p0 p1 p2 p3:Pos}{pm ctv:Value}{items:Array Value}{k:Int}{tk0:Tok}{Q:Value→Shared→Prop}
end
section
variable {X:Cx}{c p:Addr}{pos p0 p1 p2 p3 p4 p5 lp k1 k2:Pos}{e:Expr}{t:TA}
structure LamX (X:Cx)(c p:Addr):Prop where
 code:X.env.code=.ref c
 qual:X.env.qual++"<lambda>" = lamQ
 P:lamP=some p
 hd:codeHdIn X.K c p=true
 cl:closureFor lamScope X.env=pure []
end
section
variable {X:Cx}
end
section
variable {X:Cx}{pins:List (Addr×Obj)}{σ:St}{H:Hp}{s:Shared}{a:Addr}{ob:Obj}{kvs:List (Key×V)}
end
end L2
namespace VL
open PySem L2
section
variable {io:List (Option Addr)}{H0 F0 F:Hp}{δ:List Slot}{σ:L2.St}{H:Hp}
end
section
variable {X:Cx}{c p:Addr}{pos p0 p1 p2 p3 p4 p5 lp k1 k2:Pos}{e:Expr}{u:TLd}
end
theorem upd_comm {H:Hp}{a b:Addr}{o u:HO}(h:a≠b):upd (upd H a o) b u=upd (upd H b u) a o:=by
 funext c
 by_cases z:c=a
 ·subst z;rw[z0i h,z0g,z0g]
 ·by_cases z2:c=b
  ·subst z2;rw[z0g,z0i z,z0g]
  ·rw[z0i z2,z0i z,z0i z,z0i z2]
end VL
namespace L2
open PySem PySem.Spec PyProof.Rows PySem.W
def y9z (K:PySem.W.Frag)(w:World)(a:Addr)(g:Str→Option Str):Prop:=(a == sysModules)=false∧∃es n,K.lookup a=some ⟨.type "dict",none,.dict es n,#[]⟩∧KeysLit w.params es.toList ∧
 ∀x,(∀v,g x=some v→∃t,nsIn K a x=some (some (.str v t)))∧(g x=none→nsIn K a x=some none)
section
variable {X:Cx}{a:Addr}{g:Str→Option Str}{x:Str}{p pos:Pos}{ke:Expr}{tk:TE}
def tGget (g:Str→Option Str)(tk:TE):TE:=fun σ H Q=>tk σ H fun y H1=>∃z v,y=.str z∧g z=some v∧Q (.str v) H1
theorem pe_gget (hd:y9z X.K X.w a g)(hg:Gl X x)(hm:X.mg x=some (.ref a))(hk:PE X ke tk)(hs:NoSl ke)(hdb:(x == ("__debug__":Str))=false:=by decide):PE X (.Subscript (.Name x p) ke pos) (tGget g tk):=by
 intro pins s σ H Q I h
 obtain⟨_,es,n,hl,hkl,hv⟩:=hd
 refine subD_of PySem.F.slot_dict_getitem.lookup hs (z7g I hg hm (thn (hk pins s σ H _ I h) fun iv s2 ⟨y,H2,I2,ry,z,v,ey,gz,q2⟩=>?_) hdb)
 subst ey
 obtain⟨t,rfl⟩:=ry
 obtain⟨m,F⟩:=I2.fr
 obtain⟨t',e⟩:=(hv z).1 v gz
 refine⟨(mapOf_K (prog:=X.prog) I2.kIn hl hkl).typeIs,topGetDict_K F I2.ok.mod.kin hl hkl e ⟨.str v,H2,I2.tok _,⟨t',rfl⟩,q2⟩⟩
theorem op_inG (hd:y9z X.K X.w a g):OpR X (compareOp .In) (fun x y H Q=>∃z,x=.str z∧y=.ref a∧Q (.bl (g z).isSome) H):=by
 intro pins s σ H x y v u Q I rx ry h
 obtain⟨lo,es,n,hl,hkl,hv⟩:=hd
 obtain⟨z,rfl,rfl,q⟩:=h
 obtain⟨t,rfl⟩:=rx
 cases ry
 obtain⟨m,F⟩:=I.fr
 cases e:g z with
 |none =>
  rw[e]at q
  exact topIn_K (r:=none) F I.ok.mod.kin hl hkl ((hv z).2 e) lo ⟨.bl false,H,I.tok _,rfl,q⟩
 |some v =>
  rw[e]at q
  obtain⟨t',e'⟩:=(hv z).1 v e
  exact topIn_K (r:=some (.str v t')) F I.ok.mod.kin hl hkl e' lo ⟨.bl true,H,I.tok _,rfl,q⟩
end
section
variable {X:Cx}
theorem y5b:OpR X (compareOp .LtE) (fun x y H Q=>∃i j,x=.str i∧y=.str j∧Q (.bl (!decide (j.cps.toList<i.cps.toList))) H):=by
 intro pins s σ H x y v u Q I rx ry h
 obtain⟨i,j,rfl,rfl,q⟩:=h
 obtain⟨t,rfl⟩:=rx
 obtain⟨t',rfl⟩:=ry
 exact PySem.P.le_str (z1v I q rfl)
end
end L2
namespace VL
open PySem L2
section
variable {X:Cx}{a:Addr}{g:Str→Option Str}{x:Str}{p pos:Pos}{ke:Expr}{dk:TEd}
def dGget (g:Str→Option Str)(dk:TEd):TEd:=fun δ Q=>dk δ fun _ y δ'=>∃z v,y=.str z∧g z=some v∧Q false (.str v) δ'
theorem de_gget (hd:y9z X.K X.w a g)(hg:Gl X x)(hm:X.mg x=some (.ref a))(hk:DE X ke dk)(hs:NoSl ke)(hdb:(x == ("__debug__":Str))=false:=by decide):DE X (.Subscript (.Name x p) ke pos) (dGget g dk):=by
 obtain⟨t,pt,s⟩:=hk
 refine⟨_,pe_gget hd hg hm pt hs hdb,fun io H0 F0 F δ σ H Q Qd I q k=>s.fz I q fun d v δ' F' H' sf I' r q'=>?_⟩
 obtain⟨z,v',rfl,e,q'⟩:=q'
 cases r
 exact⟨z,v',rfl,e,k false (.str v') _ δ' F' H' sf (I'.pushF rfl) q'⟩
theorem v_gget {δ:List Slot}{Q:Bool→D→List Slot→Prop}:dGget g dk δ Q=dk δ fun _ y δ'=>∃z v,y=.str z∧g z=some v∧Q false (.str v) δ':=rfl
end
def leC (x y:Str):Bool:=!decide (y.cps.toList<x.cps.toList)
def x1y (da db dc:TEd):TEd:=fun δ Q=>da δ fun _ x δ1=>db δ1 fun _ y δ2=>∃i j,x=.str i∧y=.str j∧(if leC i j=true then dc δ2 fun _ z δ3=>∃k,z=.str k∧Q false (.bl (leC j k)) δ3 else Q false (.bl false) δ2)
theorem de_chainS {X:Cx}{a b c:Expr}{da db dc:TEd}{pos:Pos}(ha:DE X a da)(hb:DE X b db)(hc:DE X c dc)(hm:lastMarks [CmpOp.LtE,CmpOp.LtE] [b,c]=false:=by with_unfolding_all rfl):DE X (.Compare a [.LtE,.LtE] [b,c] pos) (x1y da db dc):=by
 obtain⟨ta,pa,sa⟩:=ha;obtain⟨tb,pb,sb⟩:=hb;obtain⟨tc,pc,sc⟩:=hc
 refine⟨_,pe_chain y5b y5b pa pb pc hm,fun io H0 F0 F δ σ H Q Qd I q k=>sa.fz I q fun d v δ1 F1 H1 s1 I1 r1 q1=>sb.fz I1 q1 fun d2 v2 δ2 F2 H2 s2 I2 r2 q2=>?_⟩
 obtain⟨i,j,rfl,rfl,q2⟩:=q2
 cases r1
 cases r2
 refine⟨i,j,rfl,rfl,leC i j,rfl,?_⟩
 cases e:leC i j with
 |false =>
  rw[e,if_neg (by simp)]at q2
  rw[if_neg (by simp)]
  exact k false (.bl false) _ δ2 F2 H2 (s1.trans s2) I2.pB q2
 |true =>
  rw[e,if_pos rfl]at q2
  rw[if_pos rfl]
  refine sc.fz I2 q2 fun d3 v3 δ3 F3 H3 s3 I3 r3 q3=>?_
  obtain⟨m,rfl,q3⟩:=q3
  cases r3
  exact⟨j,m,rfl,rfl,k false (.bl (leC j m)) _ δ3 F3 H3 ((s1.trans s2).trans s3) I3.pB q3⟩
theorem v_chainS {da db dc:TEd}{δ:List Slot}{Q:Bool→D→List Slot→Prop}:x1y da db dc δ Q=da δ fun _ x δ1=>db δ1 fun _ y δ2=>∃i j,x=.str i∧y=.str j∧(if leC i j=true then dc δ2 fun _ z δ3=>∃k,z=.str k∧Q false (.bl (leC j k)) δ3 else Q false (.bl false) δ2):=rfl
end VL
namespace L2
open PySem PySem.Spec PyProof.Rows
def Its (x:Str):It:=⟨fun i H=>i<x.cps.size,fun i H v H'=>H' = H∧∃c,x.cps[i]? = some c∧v=.str ⟨#[c]⟩,fun i H=>i=x.cps.size⟩
theorem y8p {P:Program}{w:World}{K:PySem.W.Frag}{tg:Expr}{ty:String}(x:Str)(t:Tok)(it:Addr)(W:∀A:Around,A.handled=none→Walks P w A it [it] [it] x.cps.size (SignAt x) (fun i h=>h.IsStrIter it ty x t i))
  (hn:["enumerate","zip","dict_itemiterator","dict_reverseitemiterator","odict_iterator","itertools.zip_longest","itertools.pairwise"].contains ty=false)
  (self:∀(A:Around) (i:Nat) (s:Shared) (Q:Value→Shared→Prop) (E:Value→Shared→Prop),s.heap.IsStrIter it ty x t i→Q (.ref it) s→wpAny (model P w) A (pyIter (.ref it)) Q E s) :
  Turn P w K tg (Its x) [it] it (fun i h=>h.IsStrIter it ty x t i) where
 mem:=by simp
 obj:=fun i h st b hb=>by
  have e:b=it:=by simpa using hb
  subst e
  obtain⟨o,e,c,d⟩:=st
  exact⟨o,e,fun v z=>by rw[d]at z;cases z⟩
 keep:=fun i h h' st k=>by
  obtain⟨o,e,c,d⟩:=st
  exact⟨o,k it (by simp) o e,c,d⟩
 item:=by
  intro X hP hw hK hc i pins s σ H E I hf st hg
  subst hP hw hK
  obtain⟨f0,f1,f2,f3,f4,f5⟩:=hf it (by simp)
  refine(W X.A (I.ok.hd hc)).item i s _ _ hg st fun v h' tk hv st' hk=>?_
  obtain⟨c,u,hc',rfl⟩:=hv
  have I1:Inv X pins σ H { s with heap:=h',toks:=tk }:=I.turned (fun b o hb e=>hk b o (by simpa using hb) e) f0 f1 f3 f4 f5
  obtain⟨o,e,c2,d⟩:=id st'
  exact⟨_,rfl,go_of (s:={ s with heap:=h',toks:=tk }) e c2 d hn ⟨.str ⟨#[c]⟩,H,I1,⟨u,rfl⟩,⟨rfl,c,hc',rfl⟩,st',fun b hb=>(hf b hb).1⟩⟩
 done:=by
  intro X hP hw hK hc i pins s σ H E I hf st hg
  subst hP hw hK
  obtain⟨f0,f1,f2,f3,f4,f5⟩:=hf it (by simp)
  have hg':i=x.cps.size:=hg
  subst hg'
  exact(W X.A (I.ok.hd hc)).done s _ _ st fun h' tk hk=>⟨rfl,I.turned (fun b o hb e=>hk b o (by simpa using hb) e) f0 f1 f3 f4 f5⟩
 self:=self
def iStr (tl:TE):TI:=fun σ H R=>tl σ H fun v H1=>∃x,v=.str x∧R (Its x) H1
theorem pi_str {X:Cx}{tg l:Expr}{tl:TE}(hl:PE X l tl):PI X tg l (iStr tl):=by
 intro pins s σ H R I h
 refine thn (hl pins s σ H _ I h) fun v s1 ⟨y,H1,I1,r1,x,ey,q1⟩=>?_
 subst ey
 obtain⟨t,rfl⟩:=r1
 refine wpAny_pyIter_strU ?_
 have fp:∀b∈[s1.heap.objs.size],FpOk X pins H1 b:=fun b hb=>by
  have e:b=s1.heap.objs.size:=by simpa using hb
  subst e
  exact I1.fpOk (Nat.le_refl _) I1.fresh
 have k2:∀ob:Obj,Inv X pins σ H1 { s1 with heap:=s1.heap.push ob }:=fun ob=>I1.kept (t':=s1.toks) fun b o e=>Heap.get?_push_of_some _ e
 unfold strIterType
 cases ha:x.cps.all (· < 128) with
 |true =>
  exact⟨s1.heap.objs.size,[s1.heap.objs.size],_,_,H1,rfl,k2 _,y8p (ty:="str_ascii_iterator") x t _ (fun A hA=>Walks.strAscii hA _ x t) (by decide) (fun A i s Q E hit h=>wpAny_pyIter_striter_ascii hit h),⟨_,Heap.get?_push_size _ rfl,rfl,rfl⟩,fp,q1⟩
 |false =>
  exact⟨s1.heap.objs.size,[s1.heap.objs.size],_,_,H1,rfl,k2 _,y8p (ty:="str_iterator") x t _ (fun A hA=>Walks.strWide hA _ x t) (by decide) (fun A i s Q E hit h=>wpAny_pyIter_striter_wide hit h),⟨_,Heap.get?_push_size _ rfl,rfl,rfl⟩,fp,q1⟩
end L2
namespace VL
open PySem L2
def sgD (x:Str):List D:=x.cps.toList.map fun c=>D.str ⟨#[c]⟩
theorem itOk_str {F:Hp}(x:Str):ItOk (Its x) F (sgD x):=by
 intro io H0 F0 F' δ σ H' sf I i
 refine⟨fun d e=>?_,fun e=>?_⟩
 ·have hi:i<x.cps.size:=by
   have:=(List.getElem?_eq_some_iff.mp e).1
   simpa[sgD] using this
  refine⟨hi,fun v H'' y=>?_⟩
  obtain⟨rfl,c,hc,rfl⟩:=y
  have ed:d=.str ⟨#[c]⟩:=by
   simp only[sgD,List.getElem?_map,Array.getElem?_toList,hc,Option.map_some,Option.some.injEq]at e
   exact e.symm
  subst ed
  exact⟨F',Same.refl _,I,rfl⟩
 ·simpa[sgD,Its] using e
def diStr (td:TEd):TLd:=fun δ Q=>td δ fun _ d δ'=>∃x,d=.str x∧Q (sgD x) δ'
theorem di_str {X:Cx}{tg a:Expr}{da:TEd}(h:DE X a da):DI X tg a (diStr da):=by
 obtain⟨t,p,s⟩:=h
 refine⟨_,pi_str p,fun io H0 F0 F δ σ H R Qd I q k=>s.fz I q fun d v δ' F' H' sf I' r q'=>?_⟩
 obtain⟨x,rfl,q'⟩:=q'
 cases r
 exact⟨x,rfl,k _ (sgD x) δ' F' H' sf I' (itOk_str x) q'⟩
theorem v_diStr {td:TEd}{δ:List Slot}{Q:List D→List Slot→Prop}:diStr td δ Q=td δ fun _ d δ'=>∃x,d=.str x∧Q (sgD x) δ':=rfl
def dAug (i:Nat)(n:Int):TSd:=fun E δ=>∃k,δ[i]? = some (.fz (.int k))∧E.nx (δ.set i (.fz (.int (k+n))))
theorem ds_aug {X:Cx}{i:Nat}{x:Str}{n:Int}{j:Nat}{pos pos' p:Pos}(hN:X.N.Nodup)(hi:X.N[i]? = some x)(hx:Loc X.env.scope x)(hf:X.fn x=true∨X.env.scope.names.lookup x=some .local:=by first|exact .inl rfl|exact .inr rfl|assumption) :
  DS X (.AugAssign (.Name x pos') .Add (.Constant (.int n) j p) pos) (dAug i n):=by
 refine⟨_,ps_aug hN hi hx z1h ip_add hf,fun io H0 F0 F δ σ H E Ed I h S=>?_⟩
 obtain⟨k,e,q⟩:=h
 obtain⟨v,ev,rv⟩:=I.get i _ e
 cases rv
 have hl:i<δ.length:=(List.getElem?_eq_some_iff.mp e).1
 refine⟨_,z2n ev,k,n,rfl,rfl,S.nx F _ _ H (Same.refl _) ((I.pushF (d:=.int (k+n)) (v:=.int (k+n)) rfl).setv (b:=false) (fun c z=>by rw[e]at z;cases z) hl) q⟩
end VL
namespace L2
open PySem PySem.Spec PyProof.Rows PySem.SeqAt
section
variable {X:Cx}{CX:CXT}{k:Nat}{f:Addr}{fd:FuncData}{ps:List Str}{sp:Sp}{dvs:List V}{ds:List Value}{E:XK}{x:Str}{p pos:Pos}{e:Expr}{es:List Expr}{t:TA}
def x3o (i:Nat)(f:Addr)(sp:Sp)(dvs:List V)(E:XK)(t:TA):TE:=fun σ H Q=>tVar i σ H fun v H1=>v=.ref f∧t σ H1 fun vs H2=>sp (vs++dvs) H2 Q E
theorem pe_callV (i:Nat)(F:FnOk X.prog X.w X.K X.mg X.base CX k f fd ps sp)(hr:Room k X.A)(hk:PySem.W.keepIn X.K (.ref f)=true)(hb:Binds X.K fd ps ds)(hd:Vals dvs ds)(hx:z9f CX X E)(ha:PA X (e::es) t)
  (hN:X.N[i]? = some x:=by rfl)(hv:Vis X.env.scope x:=by first|exact Or.inl rfl|exact Or.inr (Or.inl rfl)|exact Or.inr (Or.inr rfl))(hdb:(x == ("__debug__":Str))=false:=by decide)(hcd:(x == ("__classdict__":Str))=false:=by decide)(he:starEach (e::es) X.env=(false,eval e X.env)::starEach es X.env:=by rfl)(hpl:(backTo pos (starEach es X.env)).any (·.1)=false:=by rfl) :
  PE X (.Call (.Name x p) (e::es) [] pos) (x3o i f sp dvs E t):=by
 intro pins s σ H Q I h
 refine wpAny_Call_Name_kw (thn (y1m hN hv hdb hcd pins s σ H _ I h) fun u s1 ⟨v,H1,I1,r,ev,q⟩=>?_)
 subst ev
 obtain rfl:u=Value.ref f:=r
 refine PySem.W.callWith_K (h₀:=X.base) I1.ok.mod.kin hk (thn (ha pos pins s1 σ H1 _ I1 q) fun us s2 ⟨vs,H2,I2,r2,q2⟩=>⟨I2.kIn,?_⟩) he hpl
 exact run_fn F hr hb hd hx I2 r2 q2
end
section
variable {X:Cx}
def rPart:V→List V→Hp→VK→Prop:=fun x vs H Q=>∃a b,x=.str a∧vs=[.str b]∧b.length≠0∧a.length≤sizeLine∧∀p,H p=none→Q (.ref p) (upd H p (.tup [.str (Txt.partition a b).1,.str (Txt.partition a b).2.1,.str (Txt.partition a b).2.2]))
theorem y3e:MtR X "str.partition" rPart:=by
 intro pins s σ H x xs v us Q I rx rs h
 obtain⟨a,b,rfl,rfl,hb,ha,q⟩:=h
 obtain⟨t,rfl⟩:=rx
 obtain⟨u,rfl,ru⟩:=z8m rs
 obtain⟨t',rfl⟩:=ru
 refine call_meets F.slot_str_partition (typeIs_str _ _ _) F.entry_str_partition (F.args_str_partition_2 _ _) (meets_str_partition a b t t' (by simpa using hb) ha) ?_
 have q':=q _ (I.hok.fresh (Nat.le_refl _))
 unfold Txt.partition at q'
 revert q'
 cases Builtin.Str.occurrences a b 0 a.length 1 with
 |nil=>exact fun q'=>⟨.ref s.heap.objs.size,_,I.laid (t':=s.toks+1) (fun b u e=>Heap.get?_push_of_some _ e) (Nat.le_refl _) (show ObjOk X.prog X.w _ _ _ (.tup [.str a,.str Str.empty,.str Str.empty]) from⟨by show 3≤sizeLine;decide,_,.cons ⟨_,rfl⟩ (.cons ⟨_,rfl⟩ (.cons ⟨_,rfl⟩ .nil)),⟨_,Heap.get?_push_size _ rfl,rfl,_,rfl⟩⟩),rfl,q'⟩
 |cons i r=>exact fun q'=>⟨.ref s.heap.objs.size,_,I.laid (t':=s.toks+1+1) (fun b u e=>Heap.get?_push_of_some _ e) (Nat.le_refl _) (show ObjOk X.prog X.w _ _ _ (.tup [.str (Builtin.Str.strSub a 0 i),.str b,.str (Builtin.Str.strSub a (i+b.length) a.length)]) from⟨by show 3≤sizeLine;decide,_,.cons ⟨_,rfl⟩ (.cons ⟨_,rfl⟩ (.cons ⟨_,rfl⟩ .nil)),⟨_,Heap.get?_push_size _ rfl,rfl,_,rfl⟩⟩),rfl,q'⟩
end
section
variable {prog:Program}{w:World}{A:Around}{E:Value→Shared→Prop}{s:Shared}
theorem newKw (l:Addr)(its:Array Value)(n:Nat)(dct:Option Addr)(sl:Array (Option Value))(j:Int)(t:Tok)(hj:Builtin.SmallTypes.fitsIndex j=true) :
  Meets (Builtin.«enumerate.__new__» ⟨[.type "enumerate",.ref l],[("start",.int j t)]⟩) (fun _ R s=>s.heap.get? l=some { cls:=.type "list",dict:=dct,data:=.seq its n,slots:=sl } ∧
   R (.ok (.ret (.ref (s.heap.push { cls:=.type "list_iterator",data:=.fields #[.ref l,.int 0 0] }).objs.size)))
    { s with heap:=(s.heap.push { cls:=.type "list_iterator",data:=.fields #[.ref l,.int 0 0] }).push { cls:=.type "enumerate",data:=.fields #[.none,.bool false,.ref s.heap.objs.size,rawInt j,.none,.none] } }) :=
 .of_wp fun prog w A R s h=>by
  obtain⟨hp,g,d,tk,os⟩:=s
  obtain⟨hl,h⟩:=h
  have hsub:=sub_enumerate
  have hL:Heap.IsList (Shared.heap ⟨hp,g,d,tk,os⟩) l its:=⟨_,hl,rfl,n,rfl⟩
  wp_walk using AutoSeq1.wpAny_loadPart' hl
  refine wpAny_stack_any fun st=>wpAny_pure ?_
  have hj2:(!Builtin.SmallTypes.fitsIndex j)=false:=by rw[hj];rfl
  split
  ·rename_i c _ _ _ _ _
   cases(c == Value.type "enumerate")
   ·wp_walk using AutoSeq1.wpAny_loadPart' hl,wpAny_pyIter_list hL
    exact⟨_,rfl,h⟩
   ·wp_walk using AutoSeq1.wpAny_loadPart' hl,wpAny_pyIter_list hL
    exact⟨_,rfl,h⟩
  ·wp_walk using AutoSeq1.wpAny_loadPart' hl,wpAny_pyIter_list hL
   exact⟨_,rfl,h⟩
theorem initKw {T newId:String}{self:Value}{rest:List Value}{kw:List (Str×Value)}(hl:typeLookup (.type T) "__init__" = pure (some (.builtin "object.__init__")))
  (hm:Bind.madeBy (.type T)=pure (some newId))(hne:(some newId != some "object.__new__")=true) :
  Meets (Builtin.«object.__init__» ⟨self::rest,kw⟩) (fun _ R s=>s.TypeIs self T∧R (.ok (.ret .none)) s):=by
 refine Meets.of_wp fun prog w A R s ⟨hT,hq⟩=>?_
 by_cases hz:(!rest.isEmpty||!kw.isEmpty)=true
 ·repeat (any_goals (first|assumption|wp_step))
  exact⟨_,rfl,hq⟩
 ·cases rest with
  |cons a r=>exact absurd rfl hz
  |nil =>
   cases kw with
   |cons a r=>exact absurd rfl hz
   |nil=>exact wpAny_pure ⟨_,rfl,hq⟩
theorem callKw {T newId:String}{Bn:Builtin}{us:List Value}{kw:List (Str×Value)}{S:PySem.Spec}{Q:Value→Shared→Prop}(ft:TypeCalled T newId "object.__init__")(hne:(some newId != some "object.__new__")=true)
  (hct:checkTypeCall T ⟨us,kw⟩=pure ())(hcn:checkBuiltinCall newId ⟨.type T::us,kw⟩=pure ())(hok:∀obj,argsOk "object.__init__" ⟨obj::us,kw⟩)(eN:entryFor table newId=some Bn)(g:Meets (Bn ⟨.type T::us,kw⟩) S)
  (h:S A.in1 (wants (fun obj s₁=>s₁.TypeIs obj T∧Q obj s₁) E) s):wpAny (model prog w) A (call (.type T) us kw) Q E s:=by
 obtain⟨c,tl,hmro⟩:=ft.mro
 have hmade:=ft.made
 have hsub:=ft.sub
 refine wpAny_call (codeAny_of_tree ?_)
 show wpAny _ _ (callAny (.type T) _) _ _ _
 refine wpAny_pure ⟨Code.quiet_builtin _ (by decide +kernel),codeAny_builtin F.entry_type_call ?_⟩
 rw[Around.under_plain (weight_type_call_type T us kw) (units_type_call_type T us kw)]
 have h1:=ft.notType
 have h2:=ft.canCreate
 repeat (any_goals (first|assumption|wp_step))
 refine codeAny_mono (codeAny_call_builtin ft.plain eN (wpAny_of_eq hcn (g prog w A.in1 _ s h))) fun r s1 hr=>?_
 cases r with
 |error e=>exact hr
 |ok fl =>
  cases fl with
  |ret obj =>
   obtain⟨hT,hq⟩:=hr
   have hli:=ft.init.lookup
   have hbi:=ft.init.bind obj
   repeat (any_goals (first|assumption|wp_step))
   refine codeAny_mono (codeAny_call_builtin ft.init.plain F.entry_object_init (ft.init.check _ _ _ _ _ _ _ _ hT (hok obj) (initKw (kw:=kw) ft.init.lookup ft.made hne prog w A.in1 _ s1 ⟨hT,(show wants (fun r s2=>r=.none∧Q obj s2) E _ _ from⟨rfl,hq⟩)⟩))) fun r2 s2 hr2=>?_
   cases r2 with
   |error e=>exact hr2
   |ok fl2 =>
    cases fl2 with
    |ret r =>
     obtain⟨rfl,hq⟩:=hr2
     repeat (any_goals (first|assumption|wp_step))
    |_=>exact hr2.elim
  |_=>exact hr.elim
theorem tcEnum (a:Value)(j:Int)(t:Tok):checkTypeCall "enumerate" ⟨[a],[("start",.int j t)]⟩=pure ():=by kernel_rfl
theorem ncEnum (a:Value)(j:Int)(t:Tok):checkBuiltinCall "enumerate.__new__" ⟨[.type "enumerate",a],[("start",.int j t)]⟩=pure ():=by kernel_rfl
theorem aiKw (a b:Value)(j:Int)(t:Tok):argsOk "object.__init__" ⟨[a,b],[("start",.int j t)]⟩:=by
 unfold argsOk
 rw[signature?_of (id:="object.__init__") (n:=['_','_','t','i','n','i','_','_']) (o:=['t','c','e','j','b','o']) (by kernel_rfl) F.owner_object]
 kernel_rfl
theorem y7a {l:Addr}{items:Array Value}{j:Int}{t:Tok}{Q:Value→Shared→Prop}(hj:Builtin.SmallTypes.fitsIndex j=true)(hL:s.heap.IsList l items)
  (h:∀h',IsEnum h' (s.heap.objs.size+1) s.heap.objs.size j .none→h'.IsListIter s.heap.objs.size l 0→h'.objs.size=s.heap.objs.size+2 →
   (∀b o,s.heap.get? b=some o→h'.get? b=some o)→Q (.ref (s.heap.objs.size+1)) { s with heap:=h' }) :
  wpAny (model prog w) A (call (.type "enumerate") [.ref l] [("start",.int j t)]) Q E s:=by
 obtain⟨⟨c,dct,dt,sl⟩,hl,hc,n,hd⟩:=hL
 obtain rfl:c=.type "list":=hc
 obtain rfl:dt=.seq items n:=hd
 refine callKw F.called_enumerate (by decide) (tcEnum _ j t) (ncEnum _ j t) (fun obj=>aiKw obj _ j t) F.entry_enumerate_new (newKw l items n dct sl j t hj) ⟨hl,?_⟩
 have hz:(s.heap.push { cls:=.type "list_iterator",data:=.fields #[.ref l,.int 0 0] }).objs.size=s.heap.objs.size+1:=Heap.size_push ..
 show _∧_
 rw[hz]
 have he:IsEnum ((s.heap.push { cls:=.type "list_iterator",data:=.fields #[.ref l,.int 0 0] }).push { cls:=.type "enumerate",data:=.fields #[.none,.bool false,.ref s.heap.objs.size,rawInt j,.none,.none] }) (s.heap.objs.size+1) s.heap.objs.size j .none:=by
  have:=Heap.get?_push_size (s.heap.push { cls:=.type "list_iterator",data:=.fields #[.ref l,.int 0 0] }) (o:={ cls:=.type "enumerate",data:=.fields #[.none,.bool false,.ref s.heap.objs.size,rawInt j,.none,.none] }) rfl
  rwa [hz]at this
 exact⟨⟨_,he,rfl⟩,h _ he ⟨_,Heap.get?_push_of_some _ (Heap.get?_push_size _ rfl),rfl,rfl⟩ (by rw[Heap.size_push,hz]) fun b o x=>Heap.get?_push_of_some _ (Heap.get?_push_of_some _ x)⟩
theorem nextKw {e it l:Addr}{j:Int}{i:Nat}{items:Array Value}{x old:Value}{Q:Value→Shared→Prop}
  (he:IsEnum s.heap e it j old)(hit:s.heap.IsListIter it l i)(hl:s.heap.IsList l items)(hx:items[i]? = some x)(hne:e≠it)
  (hQ:∀h',IsEnumOut h' e it (j+1) x s.heap.objs.size→h'.IsListIter it l (i+1)→h'.get? s.heap.objs.size=some { cls:=.type "tuple",data:=.seq #[.int j s.toks,x] }→h'.objs.size=s.heap.objs.size+1 →
   (∀b o,b≠e→b≠it→s.heap.get? b=some o→h'.get? b=some o)→Q (.ref s.heap.objs.size) { s with heap:=h',toks:=s.toks+1 }) :
  wpAny (model prog w) A (Builtin.«enumerate.__next__» ⟨[.ref e],[]⟩) (fun fin s'=>∃v,fin=.done (.ret v)∧Q v s') E s:=by
 obtain⟨hp,g,d,tk,os⟩:=s
 show wpAny _ _ (field (.ref e) 2 >>= _) _ _ _
 refine wpAny_bind (wpAny_field he rfl (x:=.ref it) rfl ?_)
 refine wpAny_bind (wpAny_nextOf_list_item hit hl hx fun g1 i1 (k1:Heap.SameBut it hp g1)=>?_)
 have e1:IsEnum g1 e it j old:=(k1.2 e hne).trans he
 show wpAny _ _ (field (.ref e) 3 >>= _) _ _ ⟨g1,g,d,tk,os⟩
 refine wpAny_bind (wpAny_field e1 rfl (x:=rawInt j) rfl ?_)
 show wpAny _ _ (field (.ref e) 4 >>= _) _ _ ⟨g1,g,d,tk,os⟩
 refine wpAny_bind (wpAny_field e1 rfl (x:=.none) rfl ?_)
 show wpAny _ _ (mkInt j >>= _) _ _ ⟨g1,g,d,tk,os⟩
 refine wpAny_bind (wpAny_mkInt ?_)
 show wpAny _ _ (setField (.ref e) 3 (rawInt (j+1)) >>= _) _ _ ⟨g1,g,d,tk+1,os⟩
 refine wpAny_bind (wpAny_setField_rec e1 (by simp) fun g2 (e2:IsEnum g2 e it (j+1) old) (k2:Heap.SameBut e g1 g2)=>?_)
 show wpAny _ _ (setField (.ref e) 4 .none >>= _) _ _ ⟨g2,g,d,tk+1,os⟩
 refine wpAny_bind (wpAny_setField_rec e2 (by simp) fun g3 (e3:IsEnum g3 e it (j+1) old) (k3:Heap.SameBut e g2 g3)=>?_)
 show wpAny _ _ (newTuple [.int j tk,x] >>= _) _ _ ⟨g3,g,d,tk+1,os⟩
 refine wpAny_bind (wpAny_newTuple ?_)
 have e4:IsEnum (g3.push { cls:=.type "tuple",data:=.seq #[.int j tk,x] }) e it (j+1) old:=Heap.get?_push_of_some _ e3
 generalize hg4:g3.push { cls:=.type "tuple",data:=.seq #[.int j tk,x] }=g4 at e4
 have hsz:g3.objs.size=hp.objs.size:=by rw[k3.1,k2.1,k1.1]
 have hel:e<hp.objs.size:=Heap.lt_size he
 have t4:g4.get? hp.objs.size=some { cls:=.type "tuple",data:=.seq #[.int j tk,x] }:=by rw[←hg4,←hsz];exact Heap.get?_push_size _ rfl
 have z4:g4.objs.size=hp.objs.size+1:=by rw[←hg4,Heap.size_push,hsz]
 have k4:∀b o,b≠e→b≠it→hp.get? b=some o→g4.get? b=some o:=fun b o hbe hbi hb=>by
  rw[←hg4];exact Heap.get?_push_of_some _ (k3.extBut b o hbe (k2.extBut b o hbe (k1.extBut b o hbi hb)))
 have i4:g4.IsListIter it l (i+1):=by
  rw[←hg4]
  obtain⟨o,ho,r⟩:=(i1.extBut k2.extBut (Ne.symm hne)).extBut k3.extBut (Ne.symm hne)
  exact⟨o,Heap.get?_push_of_some _ ho,r⟩
 show wpAny _ _ (Builtin.SmallTypes.ownedTupleIsFree (.ref e) >>= _) _ _ ⟨g4,g,d,tk+1,os⟩
 rw[hsz]
 clear hg4 e3 k3 e2 k2 e1 k1 i1 hsz g3 g2 g1
 refine wpAny_bind ?_
 unfold Builtin.SmallTypes.ownedTupleIsFree
 refine wpAny_bind (wpAny_field e4 rfl (x:=.none) rfl (wpAny_pure ?_))
 simp only[if_true]
 refine wpAny_bind (wpAny_rule ?_)
 refine wpAny_bind (wpAny_field e4 rfl (x:=old) rfl ?_)
 refine wpAny_bind (wpAny_setField_rec e4 (by simp) fun g5 (e5:IsEnum g5 e it (j+1) x) (k5:Heap.SameBut e g4 g5)=>?_)
 show wpAny _ _ (Builtin.SmallTypes.ownedTupleHandOut (.ref e) (.ref hp.objs.size) >>= _) _ _ ⟨g5,g,d,tk+1,os⟩
 refine wpAny_bind ?_
 unfold Builtin.SmallTypes.ownedTupleHandOut
 refine wpAny_bind (wpAny_setField_rec e5 (by simp) fun g6 (e6:IsEnumOut g6 e it (j+1) x hp.objs.size) (k6:Heap.SameBut e g5 g6)=>?_)
 refine wpAny_setField_rec e6 (by simp) fun g7 (e7:IsEnumOut g7 e it (j+1) x hp.objs.size) (k7:Heap.SameBut e g6 g7)=>?_
 have ne:=Nat.ne_of_gt hel
 exact wpAny_bind (wpAny_letGo (wpAny_pure ⟨_,rfl,hQ g7 e7 (((i4.extBut k5.extBut (Ne.symm hne)).extBut k6.extBut (Ne.symm hne)).extBut k7.extBut (Ne.symm hne)) (k7.extBut _ _ ne (k6.extBut _ _ ne (k5.extBut _ _ ne t4))) (by rw[k7.1,k6.1,k5.1,z4]) fun b o h1 h2 hb=>k7.extBut b o h1 (k6.extBut b o h1 (k5.extBut b o h1 (k4 b o h1 h2 hb)))⟩))
theorem pyNextKw {e it l:Addr}{j:Int}{i:Nat}{items:Array Value}{x old:Value}{Q:Option Value→Shared→Prop}
  (he:IsEnum s.heap e it j old)(hit:s.heap.IsListIter it l i)(hl:s.heap.IsList l items)(hx:items[i]? = some x)(hne:e≠it)
  (hQ:∀h',IsEnumOut h' e it (j+1) x s.heap.objs.size→h'.IsListIter it l (i+1)→h'.get? s.heap.objs.size=some { cls:=.type "tuple",data:=.seq #[.int j s.toks,x] }→h'.objs.size=s.heap.objs.size+1 →
   (∀b o,b≠e→b≠it→s.heap.get? b=some o→h'.get? b=some o)→Q (some (.ref s.heap.objs.size)) { s with heap:=h',toks:=s.toks+1 }) :
  wpAny (model prog w) A (pyNext (.ref e)) Q E s:=by
 have hT:s.TypeIs (.ref e) "enumerate":=⟨_,he,rfl⟩
 unfold pyNext
 exact wpAny_bind (wpAny_attempt (wpAny_callSpecial?_slot (name:=Str.ofString "__next__") hT F.slot_enumerate_next (wpAny_call_entry F.slot_enumerate_next hT F.entry_enumerate_next (nextKw he hit hl hx hne fun h' a b c d k=>wpAny_pure (hQ h' a b c d k)) (F.args_enumerate_next_1 _))))
theorem y7l {e it l:Addr}{j:Int}{i:Nat}{items:Array Value}{old:Value}{Q:Option Value→Shared→Prop}(hh:A.handled=none)
  (he:IsEnum s.heap e it j old)(hit:s.heap.IsListIter it l i)(hl:s.heap.IsList l items)(hx:items[i]? = none)(hQ:∀h',Heap.ExtBut it s.heap h'→Q none { s with heap:=h' }):wpAny (model prog w) A (pyNext (.ref e)) Q E s:=by
 have hT:s.TypeIs (.ref e) "enumerate":=⟨_,he,rfl⟩
 unfold pyNext
 refine wpAny_bind (wpAny_attempt (wpAny_callSpecial?_slot (name:=Str.ofString "__next__") hT F.slot_enumerate_next (wpAny_call_entry F.slot_enumerate_next hT F.entry_enumerate_next ?_ (F.args_enumerate_next_1 _))))
 show wpAny _ _ (field (.ref e) 2 >>= _) _ _ _
 refine wpAny_bind (wpAny_field he rfl (x:=.ref it) rfl (wpAny_bind (wpAny_nextOf_list_end hh hit hl hx fun h' x he' hx'=>?_)))
 obtain⟨o,ho,hc⟩:=hx'
 exact wpAny_bind (wpAny_isInstance (T:="StopIteration") (b:=true) ⟨o,ho,hc⟩ isSubtype_stop (wpAny_pure (hQ _ he')))
end
section
variable {X:Cx}
def Itk (a:Addr):It :=
 ⟨fun i H=>∃xs x,H a=some (.lst xs)∧xs[i]? = some x,
 fun i H v H'=>∃t n,v=.ref t∧H t=none∧∀xs,H a=some (.lst xs)→∃x,xs[i]? = some x∧H' = upd H t (.tup [.int n,x]),
 fun i H=>∃xs,H a=some (.lst xs)∧xs[i]? = none⟩
theorem x0a {P:Program}{w:World}{K:PySem.W.Frag}{elts:List Expr}{x1:Nat}{pos:Pos}{l e it:Addr}(nd:e≠it) :
  Turn P w K (.Tuple elts x1 pos) (Itk l) [e,it] e (fun i h=>(∃n old,IsEnum h e it n old)∧h.IsListIter it l i) where
 mem:=by simp
 obj:=fun i h st b hb=>by
  obtain⟨⟨n,old,h1⟩,⟨o4,e4,c4,d4⟩⟩:=st
  simp only[List.mem_cons,List.not_mem_nil,or_false]at hb
  rcases hb with rfl|rfl
  ·exact⟨_,h1,fun v z=>by cases z⟩
  ·exact⟨_,e4,fun v z=>by rw[d4]at z;cases z⟩
 keep:=fun i h h' ⟨⟨n,old,h1⟩,h4⟩ k=>⟨⟨n,old,k e (by simp) _ h1⟩,h4.at fun o q=>k it (by simp) o q⟩
 item:=by
  intro X hP hw hK hc i pins s σ H E I hf st hg
  subst hP hw hK
  obtain⟨⟨n,old,h1⟩,h4⟩:=st
  obtain⟨xs,x,ha,hx⟩:=hg
  obtain⟨us,ru,pu,_⟩:=I.list (SqL.of ha)
  obtain⟨ux,ex,rx⟩:=ru.get hx
  refine pyNextKw h1 h4 pu.isList (x:=ux) (by simpa using ex) nd fun h' a1 a3 a5 a6 a7=>?_
  have I1:Inv X pins σ (upd H s.heap.objs.size (.tup [.int n,x])) { s with heap:=h',toks:=s.toks+1 }:=I.turnsLaid (t':=s.toks+1) (ch:=[e,it]) (fun b u hb q=>a7 b u (fun z=>hb (by simp[z])) (fun z=>hb (by simp[z])) q)
   hf (Nat.le_refl _) (show ObjOk X.prog X.w _ h' _ (.tup [.int n,x]) from⟨by show 2≤sizeLine;decide,[_,ux],.cons ⟨_,rfl⟩ (.cons rx .nil),⟨_,a5,rfl,_,rfl⟩⟩)
  have hfr:=I.fresh
  have old':∀b∈[e,it],upd H s.heap.objs.size (.tup [.int n,x]) b=none:=fun b hb=>by
   rw[z4w]
   refine⟨fun q=>?_,(hf b hb).1⟩
   have ob:∃o,s.heap.get? b=some o:=by
    obtain⟨o4,e4,_⟩:=h4
    simp only[List.mem_cons,List.not_mem_nil,or_false]at hb
    rcases hb with rfl|rfl
    ·exact⟨_,h1⟩
    ·exact⟨_,e4⟩
   obtain⟨o,eo⟩:=ob
   exact absurd (Heap.lt_size eo) (by rw[q];exact Nat.lt_irrefl _)
  refine⟨_,rfl,wpAny_letOwnedTupleGo_enum (s:={ s with heap:=h',toks:=s.toks+1 }) a1 fun h2' b1 b2=>?_⟩
  obtain⟨_,f1,f2,f3,f4⟩:=hf e (by simp)
  have I2:Inv X pins σ (upd H s.heap.objs.size (.tup [.int n,x])) { s with heap:=h2',toks:=s.toks+1 }:=I1.turned (t':=s.toks+1) (fun b o hb q=>(b2.2 b hb).trans q) (old' e (by simp)) f1 f3 f4.1 f4.2
  refine⟨.ref s.heap.objs.size,_,I2,rfl,⟨_,n,rfl,hfr,fun xs' q1=>?_⟩,⟨⟨n+1,ux,b1⟩,a3.at fun o q=>(b2.2 it (Ne.symm nd)).trans q⟩,old'⟩
  rw[ha]at q1;cases q1
  exact⟨x,hx,rfl⟩
 done:=by
  intro X hP hw hK hc i pins s σ H E I hf st hg
  subst hP hw hK
  obtain⟨⟨n,old,h1⟩,h4⟩:=st
  obtain⟨xs,ha,hend⟩:=hg
  obtain⟨us,ru,pu,_⟩:=I.list (SqL.of ha)
  refine y7l (I.ok.hd hc) h1 h4 pu.isList (by simpa using Vals.none_of ru hend) fun h' hk=>⟨rfl,I.turneds (t':=s.toks) (ch:=[e,it]) (fun b u hb q=>hk b u (fun z=>hb (by simp[z])) q) hf⟩
 self:=fun _ _ _ _ _ st h=>by
  obtain⟨⟨n,old,h1⟩,_⟩:=st
  exact wpAny_pyIter_enum h1 h
def iEnumK (ta:TA)(tk:TE):TI:=fun σ H R=>ta σ H fun vs H1=>tk σ H1 fun y H2=>∃a j,vs=[.ref a]∧y=.int j∧Builtin.SmallTypes.fitsIndex j=true∧∃xs,H2 a=some (.lst xs)∧R (Itk a) H2
theorem y0w {M:Model}{A:Around}{E:Value→Shared→Prop}{s:Shared}{env:Env}{pos:Pos}{T:String}{e:Expr}{rest:List Expr}{kws:List Keyword}{Q:Value→Shared→Prop}
  (h:wpAny M A (spliced (backTo pos (starEach (e::rest) env))) (fun vs s₁=>wpAny M A (evalAll ((backToKw pos (keywordEach kws env)).map (·.2)))
   (fun kvs s₂=>wpAny M A (call (.type T) vs (((backToKw pos (keywordEach kws env)).filterMap (·.1)).zip kvs)) Q E s₂) E s₁) E s)
  (he:backTo pos (starEach (e::rest) env)=(false,eval e env)::backTo pos (starEach rest env))(hplain:(backTo pos (starEach (e::rest) env)).any (·.1)=false)
  (hall:(backToKw pos (keywordEach kws env)).all (·.1.isSome)=true)(hkw:(backToKw pos (keywordEach kws env)).any (·.1.isNone)=false) :
  wpAny M A (callWith pos (.type T) [] (backTo pos (starEach (e::rest) env)) (backToKw pos (keywordEach kws env))) Q E s:=by
 have h2:wpAny M A (evalArgs (.type T) true (backTo pos (starEach (e::rest) env)) (backToKw pos (keywordEach kws env))) (fun a s₁=>wpAny M A (call (.type T) ([]++a.pos) a.kw) Q E s₁) E s:=by
  rw[he]at h ⊢
  exact evalArgs_kwB hall h
 unfold callWith
 refine wpAny_bind (wpAny_holding (wpAny_mono h2 (fun a s1 h1=>wpAny_bind (wpAny_standAt ?_)) fun _ _ x=>x))
 simp only[hplain,hkw,Bool.or_false]
 refine wpAny_bind (wpAny_pure ?_)
 exact wpAny_bind (wpAny_mono h1 (fun r s2 hr=>wpAny_bind (wpAny_holding (wpAny_point (wpAny_pure hr)))) fun _ _ x=>x)
theorem pi_enumK {elts:List Expr}{x1:Nat}{pt kp:Pos}{e1 e2:Expr}{ta:TA}{tk:TE}{p pos:Pos}(hg:Gl X "enumerate")(hm:X.mg "enumerate" = none)(ha:PA X [e1] ta)(hk:PE X e2 tk)
  (he:backTo pos (starEach [e1] X.env)=(false,eval e1 X.env)::backTo pos (starEach [] X.env):=by rfl)(hpl:(backTo pos (starEach [e1] X.env)).any (·.1)=false:=by rfl)
  (hall:(backToKw pos (keywordEach [⟨some "start",e2,kp⟩] X.env)).all (·.1.isSome)=true:=by rfl)(hkw:(backToKw pos (keywordEach [⟨some "start",e2,kp⟩] X.env)).any (·.1.isNone)=false:=by rfl) :
  PI X (.Tuple elts x1 pt) (.Call (.Name "enumerate" p) [e1] [⟨some "start",e2,kp⟩] pos) (iEnumK ta tk):=by
 intro pins s σ H R I h
 refine wpAny_Call_Name_kw (z9d I hg hm PyProof.Rows.boot_enumerate ?_)
 refine y0w (thn (ha pos pins s σ H _ I h) fun us s1 ⟨vs,H1,I1,r1,q1⟩=>?_) he hpl hall hkw
 refine kws_cons (thn (hk pins s1 σ H1 _ I1 q1) fun u s2 ⟨y,H2,I2,ry,q2⟩=>kws_nil ?_)
 obtain⟨a,j,rfl,rfl,hj,xs,hA,q⟩:=q2
 obtain⟨u1,rfl,ru⟩:=z8m r1
 cases ru
 obtain⟨t,rfl⟩:=ry
 obtain⟨us,ru,pu,_⟩:=I2.list (SqL.of hA)
 refine y7a hj pu.isList fun h' z1 z2 z3 z7=>wpAny_pyIter_enum z1 ?_
 refine⟨s2.heap.objs.size+1,_,_,_,H2,rfl,I2.kept (t':=s2.toks) z7,x0a (by show(_:Nat)≠_;omega),⟨⟨_,_,z1⟩,z2⟩,fun c hc=>?_,q⟩
 have hge:s2.heap.objs.size≤c:=by
  simp only[List.mem_cons,List.not_mem_nil,or_false]at hc
  rcases hc with rfl|rfl
  ·exact Nat.le_add_right _ _
  ·exact Nat.le_refl _
 exact I2.fpOk hge (I2.hok.fresh hge)
def LoopK (a:Addr)(g:TG)(tb:TS)(D:Ends)(σ:St)(H1:Hp):Prop:=∃W:Nat→Nat→St→Hp→Prop,(∃m,W 0 m σ H1)∧∀i m σ H,W i m σ H →
 ((Itk a).stop i H∧D.nx σ H)∨((Itk a).go i H∧∃N:St→Hp→Prop,(∀σ' H',N σ' H'→∃m',m' < m∧W (i+1) m' σ' H')∧∀x H',(Itk a).yld i H x H'→g x σ H' fun σ2 H2=>tb { D with nx:=N,ct:=N,bk:=D.nx } σ2 H2)
theorem tFor_k {ta:TA}{tk:TE}{g:TG}{tb:TS}{D:Ends}{σ:St}{H:Hp}:tFor (iEnumK ta tk) g tb D σ H=ta σ H fun vs H1=>tk σ H1 fun y H2=>∃a j,vs=[.ref a]∧y=.int j∧Builtin.SmallTypes.fitsIndex j=true∧∃xs,H2 a=some (.lst xs)∧LoopK a g tb D σ H2:=rfl
theorem loopK {a:Addr}{xs:List V}{g:TG}{tb:TS}{D:Ends}{σ:St}{H:Hp}(Pv:Nat→St→Hp→Prop)(h0:Pv 0 σ H)(hl:∀i σ H,Pv i σ H→H a=some (.lst xs))
  (hs:∀i x σ H t n,xs[i]? = some x→Pv i σ H→H t=none→g (.ref t) σ (upd H t (.tup [.int n,x])) fun σ2 H2=>tb { D with nx:=Pv (i+1),ct:=Pv (i+1),bk:=D.nx } σ2 H2)(hd:∀σ H,Pv xs.length σ H→D.nx σ H):LoopK a g tb D σ H:=by
 refine⟨fun i m σ H=>Pv i σ H∧i+m=xs.length,⟨xs.length,h0,by omega⟩,fun i m σ H ⟨p,e⟩=>?_⟩
 cases m with
 |zero =>
  obtain rfl:i=xs.length:=by omega
  exact .inl ⟨⟨xs,hl _ σ H p,List.getElem?_eq_none (Nat.le_refl _)⟩,hd σ H p⟩
 |succ m =>
  obtain⟨x,hx⟩:∃x,xs[i]? = some x:=⟨_,List.getElem?_eq_getElem (by omega)⟩
  refine .inr ⟨⟨xs,x,hl i σ H p,hx⟩,Pv (i+1),fun σ' H' q=>⟨m,by omega,q,by omega⟩,fun v H' y=>?_⟩
  obtain⟨t,n,rfl,ht,y⟩:=y
  obtain⟨x',hx',rfl⟩:=y xs (hl i σ H p)
  rw[hx]at hx';cases hx'
  exact hs i x σ H t n hx p ht
end
end L2
namespace Pap
open PySem L2
inductive Part where
 |txt (s:Str)
 |tup (n:Str)(ps:List Part)
inductive RepL (H:Hp):List V→List Part→List V→List Addr→Prop
 |nil:RepL H [] [] [] []
 |txt {s:Str}{vs:List V}{ps:List Part}{out:List V}{F:List Addr}:RepL H vs ps out F→RepL H (.str s::vs) (.txt s::ps) (.str s::out) F
 |tup {t l:Addr}{n:Str}{cs:List V}{qs:List Part}{o1:List V}{F1:List Addr}{vs:List V}{ps:List Part}{o2:List V}{F2:List Addr}(ht:H t=some (.tup [.str n,.ref l])) (hl:H l=some (.lst cs)) (h1:RepL H cs qs o1 F1) (h2:RepL H vs ps o2 F2) :
   RepL H (.ref t::vs) (.tup n qs::ps) (.ref t::(o1++o2)) (l::(F1++F2))
inductive Bel (H:Hp):Addr→List Addr→List (List Part×Str)→List Addr→Prop
 |nil {c:Addr}:Bel H c [] [] []
 |cons {c a t:Addr}{as:List Addr}{vs:List V}{n:Str}{ps:List Part}{o:List V}{F G:List Addr}{fs:List (List Part×Str)}(ha:H a=some (.lst (vs++[.ref t]))) (ht:H t=some (.tup [.str n,.ref c])) (h:RepL H vs ps o F) (b:Bel H a as fs G) :
   Bel H c (a::as) ((ps,n)::fs) (F++G)
structure BInv (H:Hp)(a:Addr)(as:List Addr)(cur:List Part)(fs:List (List Part×Str))(S:List Addr):Prop where
 ex:∃vs o F G,H a=some (.lst vs)∧RepL H vs cur o F∧Bel H a as fs G∧S=F++G
 nd:(a::as).Nodup
 off:∀b∈a::as,b∉S
end Pap
namespace L2
open PySem PySem.Spec PyProof.Rows
structure Ent (K:PySem.W.Frag)(mg:Str→Option Value)(x:Str)(st:Stmt)(ps:List Str)(f:Addr)(fd:FuncData):Prop where
 F:Fun K x x st f fd
 g:mg x=some (.ref f)
 b:Binds K fd ps []
theorem z1j {K:PySem.W.Frag}{mg:Str→Option Value}{h:Heap}{x:Str}{st:Stmt}{ps:List Str}{f:Addr}{oc:Value}{od an:Option Addr}{osl:Array (Option Value)}{kV doc pm cdv ct:Value}(X:K.In h)(G:h.Ns mainGlobals mg)
  (hb:∀(kV doc pm:Value) (an:Option Addr) (cdv ct:Value) (us:List Value),us.length=ps.length→bindArgs (PySem.W.fnOf x x (z0s st) (z0p st) (z0b st) .none kV doc pm an cdv ct) ⟨us,[]⟩=pure (ps.zip us))
  (a:PySem.W.nsIn K mainGlobals x=some (some (.ref f)))(l:K.lookup f=some ⟨oc,od,.func (PySem.W.fnOf x x (z0s st) (z0p st) (z0b st) .none kV doc pm an cdv ct),osl⟩)
  (c:PySem.W.codeIn K cdv x=true)(k:PySem.W.keepIn K (.ref f)=true):∃f fd,Ent K mg x st ps f fd :=
 ⟨f,_,y5h l c k,PySem.W.mg_of X G a,(y5h (st:=st) l c k).binds hb⟩
end L2
namespace K04
open PySem L2 VL
def top (i:Nat):Stmt:=PySem.Challenge.pw_formferry_k21_forms_written.main.body.getD i (.Pass ⟨0,0,0,0⟩)
abbrev u0g:Stmt:=top 10
abbrev u3q:Stmt:=top 11
abbrev u1p:Stmt:=top 13
abbrev u1q:Stmt:=top 14
abbrev u4p:Stmt:=top 15
abbrev u0w:Stmt:=top 19
abbrev u2g:Stmt:=top 20
abbrev u2k:Stmt:=top 21
abbrev u2l:Stmt:=top 22
abbrev u2h:Stmt:=top 23
abbrev u3n:Stmt:=top 24
abbrev u1c:Stmt:=top 25
abbrev u1u:Stmt:=top 26
abbrev u0y:Stmt:=top 27
abbrev u4q:Stmt:=top 31
abbrev u0t:Stmt:=top 32
abbrev u2s:Stmt:=top 33
abbrev u1b:Stmt:=top 34
abbrev u2t:Stmt:=top 35
abbrev u1v:Stmt:=top 36
abbrev u2m:Stmt:=top 37
abbrev u2b:Stmt:=top 39
abbrev u1w:Stmt:=top 40
abbrev u3a:Stmt:=top 41
abbrev u2u:Stmt:=top 42
abbrev u2n:Stmt:=top 43
abbrev u1g:Stmt:=top 44
abbrev u1h:Stmt:=top 45
abbrev u1x:Stmt:=top 46
abbrev u2v:Stmt:=top 47
abbrev u1d:Stmt:=top 48
abbrev u0q:Stmt:=top 49
abbrev u1e:Stmt:=top 50
abbrev u3r:Stmt:=top 51
abbrev u3d:Stmt:=top 52
abbrev u3e:Stmt:=top 53
abbrev u1i:Stmt:=top 54
abbrev u0k:Stmt:=top 55
abbrev u2w:Stmt:=top 56
abbrev u2c:Stmt:=top 57
abbrev u3f:Stmt:=top 58
abbrev u5m:Stmt:=top 59
theorem z7u:FnScope ["pattern"] ["pattern"] (z0b u0g):=⟨rfl,rfl,rfl,by decide +kernel,rfl,by decide +kernel,by decide +kernel⟩
theorem u5h:FnScope ["pattern","found","inner"] ["pattern"] (z0b u3q):=⟨rfl,rfl,rfl,by decide +kernel,rfl,by decide +kernel,by decide +kernel⟩
theorem u1j:FnScope ["rules","ahead","name","pattern","found"] ["rules"] (z0b u1p):=⟨rfl,rfl,rfl,by decide +kernel,rfl,by decide +kernel,by decide +kernel⟩
theorem u1y:FnScope ["root","rules","known","rule","sign"] ["root","rules"] (z0b u1q):=⟨rfl,rfl,rfl,by decide +kernel,rfl,by decide +kernel,by decide +kernel⟩
theorem x1e:FnScope ["form"] ["form"] (z0b u4p):=⟨rfl,rfl,rfl,by decide +kernel,rfl,by decide +kernel,by decide +kernel⟩
theorem y4q:FnScope ["sign"] ["sign"] (z0b u0w):=⟨rfl,rfl,rfl,by decide +kernel,rfl,by decide +kernel,by decide +kernel⟩
theorem x0i:FnScope ["text"] ["text"] (z0b u2g):=⟨rfl,rfl,rfl,by decide +kernel,rfl,by decide +kernel,by decide +kernel⟩
theorem u4i:FnScope ["line","begin","end","close"] ["line","begin"] (z0b u2k):=⟨rfl,rfl,rfl,by decide +kernel,rfl,by decide +kernel,by decide +kernel⟩
theorem u3u:FnScope ["line","found","begin","end"] ["line"] (z0b u2l):=⟨rfl,rfl,rfl,by decide +kernel,rfl,by decide +kernel,by decide +kernel⟩
theorem y7v:FnScope ["kind","patterns"] ["kind","patterns"] (z0b u2h):=⟨rfl,rfl,rfl,by decide +kernel,rfl,by decide +kernel,by decide +kernel⟩
theorem u5n:FnScope ["rows","patterns"] ["rows"] (z0b u3n):=⟨rfl,rfl,rfl,by decide +kernel,rfl,by decide +kernel,by decide +kernel⟩
theorem u4h:FnScope ["groups","inner"] ["groups"] (z0b u1c):=⟨rfl,rfl,rfl,by decide +kernel,rfl,by decide +kernel,by decide +kernel⟩
theorem u4r:FnScope ["groups","token","row"] ["groups","token"] (z0b u1u):=⟨rfl,rfl,rfl,by decide +kernel,rfl,by decide +kernel,by decide +kernel⟩
theorem u3o:FnScope ["line","groups","token"] ["line"] (z0b u0y):=⟨rfl,rfl,rfl,by decide +kernel,rfl,by decide +kernel,by decide +kernel⟩
theorem u6o:FnScope ["pattern","kinds","line"] ["pattern","kinds"] (z0b u4q):=⟨rfl,rfl,rfl,by decide +kernel,rfl,by decide +kernel,by decide +kernel⟩
theorem u4j:FnScope ["pattern","kind"] ["pattern"] (z0b u0t):=⟨rfl,rfl,rfl,by decide +kernel,rfl,by decide +kernel,by decide +kernel⟩
theorem y6j:FnScope ["form"] ["form"] (z0b u2s):=⟨rfl,rfl,rfl,by decide +kernel,rfl,by decide +kernel,by decide +kernel⟩
theorem u4k:FnScope ["line","pattern"] ["line"] (z0b u1b):=⟨rfl,rfl,rfl,by decide +kernel,rfl,by decide +kernel,by decide +kernel⟩
theorem u4l:FnScope ["line","middle","reader","cut","told"] ["line","middle","reader"] (z0b u2t):=⟨rfl,rfl,rfl,by decide +kernel,rfl,by decide +kernel,by decide +kernel⟩
theorem u3p:FnScope ["lines","middle","reader","first","rules","place","line","rule"] ["lines","middle","reader","first"] (z0b u1v):=⟨rfl,rfl,rfl,by decide +kernel,rfl,by decide +kernel,by decide +kernel⟩
theorem u2i:FnScope ["rows","head","form"] ["rows"] (z0b u2m):=⟨rfl,rfl,rfl,by decide +kernel,rfl,by decide +kernel,by decide +kernel⟩
theorem y0c:FnScope ["_law_script","_law_k"] ["_law_script","_law_k"] (z0b u2b):=⟨rfl,rfl,rfl,by decide +kernel,rfl,by decide +kernel,by decide +kernel⟩
theorem u1k:FnScope ["_law_script","_law_turn","_law_many_here","_law_cells","_law_found","_law_left","_law_k","_law_at","_law_place","_law_number"] ["_law_script","_law_turn","_law_many_here"] (z0b u1w):=⟨rfl,rfl,rfl,by decide +kernel,rfl,by decide +kernel,by decide +kernel⟩
theorem y6t:FnScope ["_law_draws_here"] ["_law_draws_here"] (z0b u3a):=⟨rfl,rfl,rfl,by decide +kernel,rfl,by decide +kernel,by decide +kernel⟩
theorem u4w:FnScope ["_law_found","_law_due_here","_law_k"] ["_law_found","_law_due_here"] (z0b u2u):=⟨rfl,rfl,rfl,by decide +kernel,rfl,by decide +kernel,by decide +kernel⟩
theorem u3z:FnScope ["_law_k","_law_draw","_law_letters","_law_base","_law_at"] ["_law_k","_law_draw"] (z0b u2n):=⟨rfl,rfl,rfl,by decide +kernel,rfl,by decide +kernel,by decide +kernel⟩
theorem z9s:FnScope ["_law_pattern_here","_law_number"] ["_law_pattern_here","_law_number"] (z0b u1g):=⟨rfl,rfl,rfl,by decide +kernel,rfl,by decide +kernel,by decide +kernel⟩
theorem u1r:FnScope ["_law_some","_law_draws_here","_law_row","_law_number","_law_many_here","_law_at","_law_made"] ["_law_some","_law_draws_here"] (z0b u1h):=⟨rfl,rfl,rfl,by decide +kernel,rfl,by decide +kernel,by decide +kernel⟩
theorem u3x:FnScope ["_law_names","_law_number","_law_some","_law_at"] ["_law_names","_law_number"] (z0b u1x):=⟨rfl,rfl,rfl,by decide +kernel,rfl,by decide +kernel,by decide +kernel⟩
theorem u2x:FnScope ["_law_script","_law_turn","_law_many_here","_law_draws_here","_law_first","_law_names","_law_rules","_law_name_here","_law_at"] ["_law_script","_law_turn","_law_many_here"] (z0b u2v):=⟨rfl,rfl,rfl,by decide +kernel,rfl,by decide +kernel,by decide +kernel⟩
theorem u3c:FnScope ["_law_pattern_here","_law_found","_law_one"] ["_law_pattern_here"] (z0b u1d):=⟨rfl,rfl,rfl,by decide +kernel,rfl,by decide +kernel,by decide +kernel⟩
theorem z6y:FnScope ["_law_pattern_here"] ["_law_pattern_here"] (z0b u0q):=⟨rfl,rfl,rfl,by decide +kernel,rfl,by decide +kernel,by decide +kernel⟩
theorem z8j:FnScope ["_law_form_here"] ["_law_form_here"] (z0b u1e):=⟨rfl,rfl,rfl,by decide +kernel,rfl,by decide +kernel,by decide +kernel⟩
theorem u2y:FnScope ["_law_form_here","_law_met","_law_name_here","_law_pattern_here","_law_found","_law_sign"] ["_law_form_here"] (z0b u3r):=⟨rfl,rfl,rfl,by decide +kernel,rfl,by decide +kernel,by decide +kernel⟩
theorem u1m:FnScope ["_law_form_here","_law_number","_law_root","_law_rules","_law_at","_law_to","_law_name_here","_law_pattern_here","_law_found","_law_twice","_law_made","_law_lone"] ["_law_form_here","_law_number"] (z0b u3d):=⟨rfl,rfl,rfl,by decide +kernel,rfl,by decide +kernel,by decide +kernel⟩
theorem y5n:FnScope ["_law_cell"] ["_law_cell"] (z0b u3e):=⟨rfl,rfl,rfl,by decide +kernel,rfl,by decide +kernel,by decide +kernel⟩
theorem y0k:FnScope ["_law_pattern_here","_law_kinds"] ["_law_pattern_here","_law_kinds"] (z0b u1i):=⟨rfl,rfl,rfl,by decide +kernel,rfl,by decide +kernel,by decide +kernel⟩
theorem u3w:FnScope ["_law_pattern_here","_law_mark"] ["_law_pattern_here"] (z0b u0k):=⟨rfl,rfl,rfl,by decide +kernel,rfl,by decide +kernel,by decide +kernel⟩
theorem u2j:FnScope ["_law_error","_law_found"] ["_law_error"] (z0b u2w):=⟨rfl,rfl,rfl,by decide +kernel,rfl,by decide +kernel,by decide +kernel⟩
theorem u4a:FnScope ["_law_form_here","_law_rows_here","_law_name_here","_law_pattern_here"] ["_law_form_here"] (z0b u3f):=⟨rfl,rfl,rfl,by decide +kernel,rfl,by decide +kernel,by decide +kernel⟩
theorem u4e:FnScope ["_law_script","_law_form_here","_law_draws_here","_law_k","_law_due_here","_law_rows_here","_law_handed","_law_found","_law_name_here","_law_pattern_here","_law_told"] ["_law_script"] (z0b u5m):=⟨rfl,rfl,rfl,by decide +kernel,rfl,by decide +kernel,by decide +kernel⟩
open PySem L2 VL
abbrev i_Twice:Stmt:=y7c (top 2) 0
abbrev i_NoName:Stmt:=y7c (top 3) 0
abbrev i_Stars:Stmt:=y7c (top 4) 0
theorem si_Twice:FnScope ["self","name"] ["self","name"] (z0b i_Twice):=⟨rfl,rfl,rfl,by decide +kernel,rfl,by decide +kernel,by decide +kernel⟩
theorem x1p:FnScope ["self","name"] ["self","name"] (z0b i_NoName):=⟨rfl,rfl,rfl,by decide +kernel,rfl,by decide +kernel,by decide +kernel⟩
open PySem L2 VL
local macro_rules|`(tactic| walk_at "vd")=>do
 let u←("reduceIte getK_0 getK_s setK_0 setK_s z9u y0o y1h setW_s y1a y1g pkS_fz pkS_ob obK_ob scK_sc ioK_t ioK_no intK_e strK_e blK_e lstK_e dctK_e z7n isLK_e z9q y0d z7s v_seq v_next v_ret y1n v_drop v_if v_set v_c v_var v_mv v_op v_opV v_opW v_test v_not v_and v_or v_truV v_andV v_notV v_ifE v_nil v_cons v_tup v_lst v_CB v_CBV v_mt v_gN y1k y0e v_gNil v_asg v_setL y1c y0a v_call v_aNil v_aV v_aO z7i v_oN v_oS v_slLV v_slS v_slC v_join y0f v_din v_dput v_I v_Ic y0s y1q y0q y1t v_catS v_cat v_ixL v_ixT0 v_ixT1 v_ixS v_ixQl v_ixQt v_eqL0 v_neL0 v_inL z7j v_inT2 v_inT3 v_lenL v_lenS y1r y1i z8c z9w z7p z7m v_pop z4n z4g z3r z3k z2z z4j z4d z3j z3s z3a z4f z4e z3q z3p z3d z4c z4l z3m z3o z3b v_ixC v_lenC y1e v_scA y0l z9t y1s z7q v_slR".splitOn " ").mapM fun n=>`(Lean.Parser.Tactic.simpLemma| ↓ $(Lean.mkIdent n.toName):term)
 let v←("rsl_t rsl_f outS z8 z6f z6g z6k List.map_cons List.map_nil List.length_cons List.length_nil Nat.reduceAdd List.replicate_succ List.replicate_zero List.cons_append List.nil_append List.append_nil List.drop_succ_cons List.drop_zero List.filter_cons List.filter_nil Option.isNone_none Option.isNone_some and_true true_and decide_eq_true_eq Bool.true_eq_false Bool.false_eq_true Bool.not_true Bool.not_false Bool.not_not Bool.not_eq_eq_eq_not decide_true decide_false if_true if_false eq_self Int.zero_add List.isEmpty_nil List.isEmpty_cons not_true_eq_false not_false_eq_true false_and and_false Option.isSome_some z6j fgt List.set_cons_zero List.set_cons_succ".splitOn " ").mapM fun n=>`(Lean.Parser.Tactic.simpLemma| $(Lean.mkIdent n.toName):term)
 `(tactic| simp only[$((u++v).toArray),*])
structure Zs (K:PySem.W.Frag)(mg:Str→Option Value):Prop where
 z_list:mg "list" = none
 z_reversed:mg "reversed" = none
 z_isinstance:mg "isinstance" = none
 z_str:mg "str" = none
 z_len:mg "len" = none
 z_int:mg "int" = none
 z_bool:mg "bool" = none
 z_range:mg "range" = none
 z_all:mg "all" = none
 z_any:mg "any" = none
 z_zip:mg "zip" = none
 z_tuple:mg "tuple" = none
 z_dict:mg "dict" = none
 z_set:mg "set" = none
 z_enumerate:mg "enumerate" = none
 z_max:mg "max" = none
 g_TEXT_SIGN:∃t,mg "TEXT_SIGN" = some (.str "#" t)
 kit:KitOk K
inductive Wk where
 |maybe|many|some
def Wk.str:Wk→Str
 |.maybe=>"maybe"
 |.many=>"many"
 |.some=>"some"
inductive Pat where
 |none
 |one (s:Str)
 |row (ps:List Pat)
 |any (ps:List Pat)
 |wrap (k:Wk)(p:Pat)
mutual
def patD:Pat→D
 |.none=>.tup [.str "none"]
 |.one s=>.tup [.str "one",.str s]
 |.row ps=>.tup [.str "row",.lst (z1z ps)]
 |.any ps=>.tup [.str "any",.lst (z1z ps)]
 |.wrap k p=>.tup [.str k.str,patD p]
def z1z:List Pat→List D
 | []=>[]
 |p::ps=>patD p::z1z ps
end
theorem z2j:∀ps:List Pat,z1z ps=ps.map patD
 | []=>rfl
 |p::ps=>by rw[z1z,z2j ps];rfl
theorem y0z (ps:List Pat):(z1z ps).length=ps.length:=by rw[z2j];simp
def kids:Pat→List Pat
 |.row ps=>ps
 |.any ps=>ps
 |.wrap _ p=>[p]
 |_=>[]
mutual
def szP:Pat→Nat
 |.none=>1
 |.one _=>1
 |.row ps=>1+szPs ps
 |.any ps=>1+szPs ps
 |.wrap _ p=>1+szP p
def szPs:List Pat→Nat
 | []=>0
 |p::ps=>szP p+szPs ps
end
mutual
def dpP:Pat→Nat
 |.none=>0
 |.one _=>0
 |.row ps=>dpPs ps+1
 |.any ps=>dpPs ps+1
 |.wrap _ p=>dpP p+1
def dpPs:List Pat→Nat
 | []=>0
 |p::ps=>max (dpP p) (dpPs ps)
end
theorem z4b {p:Pat}:∀{ps:List Pat},p∈ps→dpP p≤dpPs ps
 |q::ps,h=>by
  rcases List.mem_cons.mp h with rfl|h
  ·simp only[dpPs];omega
  ·have:=z4b h;simp only[dpPs];omega
theorem z5e {p:Pat}:∀{ps:List Pat},p∈ps→szP p≤szPs ps
 |q::ps,h=>by
  rcases List.mem_cons.mp h with rfl|h
  ·simp only[szPs];omega
  ·have:=z5e h;simp only[szPs];omega
theorem szP_pos:∀p:Pat,0<szP p
 |.none=>by simp[szP]
 |.one _=>by simp[szP]
 |.row ps=>by simp only[szP];omega
 |.any ps=>by simp only[szP];omega
 |.wrap _ p=>by simp only[szP];omega
theorem z4v:∀ps:List Pat,ps.length≤szPs ps
 | []=>Nat.le_refl _
 |p::ps=>by have:=z4v ps;have:=szP_pos p;simp only[szPs,List.length_cons];omega
theorem z5f:∀ps qs:List Pat,szPs (ps++qs)=szPs ps+szPs qs
 | [],qs=>by simp[szPs]
 |p::ps,qs=>by simp only[List.cons_append,szPs,z5f ps qs];omega
theorem kids_sz (p:Pat):szPs (kids p)<szP p:=by
 cases p<;>simp[kids,szP,szPs]
theorem kids_dp {p q:Pat}(h:q∈kids p):dpP q<dpP p:=by
 cases p with
 |row ps=>have:=z4b (show q∈ps from h);simp only[dpP];omega
 |any ps=>have:=z4b (show q∈ps from h);simp only[dpP];omega
 |wrap k p=>simp[kids]at h;subst h;simp[dpP]
 |none=>simp[kids]at h
 |one s=>simp[kids]at h
mutual
def z0o:Pat→List Str
 |.none=>[]
 |.one s=>[s]
 |.row ps=>z0w ps
 |.any ps=>z0w ps
 |.wrap _ p=>z0o p
def z0w:List Pat→List Str
 | []=>[]
 |p::ps=>z0o p++z0w ps
end
theorem z2v:∀ps qs:List Pat,z0w (ps++qs)=z0w ps++z0w qs
 | [],qs=>by simp[z0w]
 |p::ps,qs=>by simp only[List.cons_append,z0w,z2v ps qs,List.append_assoc]
theorem y7g {p:Pat}(h:∀s,p≠.one s):z0o p=z0w (kids p):=by
 cases p with
 |one s=>exact absurd rfl (h s)
 |_=>simp[z0o,z0w,kids]
mutual
theorem z3h:∀p:Pat,(z0o p).length≤szP p
 |.none=>by simp[z0o]
 |.one _=>by simp[z0o,szP]
 |.row ps=>by have:=z3w ps;simp only[z0o,szP];omega
 |.any ps=>by have:=z3w ps;simp only[z0o,szP];omega
 |.wrap _ p=>by have:=z3h p;simp only[z0o,szP];omega
theorem z3w:∀ps:List Pat,(z0w ps).length≤szPs ps
 | []=>by simp[z0w]
 |p::ps=>by have:=z3h p;have:=z3w ps;simp only[z0w,szPs,List.length_append];omega
end
theorem y1x {α:Type}(f g:α→D)(xs:List α){te:TEd}{Q:Bool→D→List VL.Slot→Prop}{δ:List VL.Slot}(hl:xs.length≤sizeLine)
  (h:∀x∈xs,∀P:D→List VL.Slot→Prop,P (g x) (.fz (f x)::δ)→te (.fz (f x)::δ) fun _ y δ'=>P y δ')(q:Q true (.lst (xs.map g)) δ):x0j 1 (xs.map f) (dgN 0) dYes te Q δ:=by
 refine⟨fun r acc δ1=>δ1=δ∧∃pre suf,xs=pre++suf∧r=suf.map f∧acc=pre.map g,⟨rfl,[],xs,rfl,rfl,rfl⟩,?_,?_⟩
 ·rintro d r acc δ1 ⟨rfl,pre,suf,e,er,rfl⟩
  cases suf with
  |nil=>cases er
  |cons x suf =>
   cases er
   refine⟨trivial,?_⟩
   unfold dYes
   dsimp only
   rw[if_pos rfl]
   have hlen:pre.length<sizeLine:=by rw[e]at hl;simp at hl;omega
   exact h x (by rw[e];simp) (fun y δ4=>(pre.map g).length<sizeLine∧List.drop 1 δ4=δ1∧∃pre' suf',xs=pre'++suf'∧suf.map f=suf'.map f∧pre.map g++[y]=pre'.map g) ⟨by simpa using hlen,rfl,pre++[x],suf,by rw[e];simp,rfl,by simp⟩
 ·rintro acc δ1 ⟨rfl,pre,suf,e,er,rfl⟩
  have es:suf=[]:=by simpa using er.symm
  subst es
  simp at e
  subst e
  exact q
section
variable {P:Program}{w:World}{K:PySem.W.Frag}{mg:Str→Option Value}{base:Heap}{f:Addr}{fd:FuncData}
def y8z:RD:=fun δ Q=>∃p:Pat,δ=[.fz (patD p)]∧Q true (.lst (z1z (kids p))) [.no]
theorem u6p (E:Ent K mg "patterns_within" u0g ["pattern"] f fd)(T:Zs K mg):FnOk P w K mg base CX0 1 f fd ["pattern"] (spD y8z):=by
 refine VL.Fun.dok E.F z7u (fun δ Qd h=>?_) (by decide) (fun cdv A outer s H E δ Qd hr h=>?_)
 ·obtain⟨p,rfl,_⟩:=h;rfl
 ·obtain⟨p,rfl,q⟩:=h
  have hu:=z5b hr
  refine⟨_,(z0c (z1x (z1f y2h z6u (z0t z1c z1g (pv 0) z0f (fun _ _=>rfl)) (z1o (z0a z0l (z0a z0l z0e))) rfl) (z0h (z0r (z8f x2f z7o rfl T.z_list PyProof.Rows.boot_list (z0a (z0t z1c z1g (pv 0) z0f (fun _ _=>rfl)) z0e)))) z0v)
   (z0c (z1x (z1f y2h z6u (z0t z1c z1g (pv 0) z0f (fun _ _=>rfl)) (z1o (z0a z0l (z0a z0l (z0a z0l z0e)))) rfl) (z0h (z0r (z1i (z0a (z0t z1c z1g (pv 0) z0f (fun _ _=>rfl)) z0e)))) z0v)
   (z0h (z0r (z1i z0e))))),?_⟩
  have sz:=z0x
  cases p with
  |none =>
   simp only[patD]
   walk_at "vd"
   refine⟨by omega,?_⟩
   rw[if_neg (by decide)]
   refine⟨by omega,?_⟩
   rw[if_neg (by decide)]
   exact⟨by omega,q⟩
  |one s =>
   simp only[patD]
   walk_at "vd"
   refine⟨by omega,?_⟩
   rw[if_neg (by decide)]
   refine⟨by omega,?_⟩
   rw[if_neg (by decide)]
   exact⟨by omega,q⟩
  |row ps =>
   simp only[patD]
   walk_at "vd"
   refine⟨by omega,?_⟩
   rw[if_pos (.inl trivial)]
   exact q
  |any ps =>
   simp only[patD]
   walk_at "vd"
   refine⟨by omega,?_⟩
   rw[if_pos (.inr trivial)]
   exact q
  |wrap k p =>
   cases k<;>simp only[patD,Wk.str]<;>walk_at "vd"<;>refine⟨by omega,?_⟩<;>rw[if_neg (by decide)]<;>refine⟨by omega,?_⟩
   ·rw[if_pos (.inl trivial)];exact⟨by omega,q⟩
   ·rw[if_pos (.inr (.inl trivial))];exact⟨by omega,q⟩
   ·rw[if_pos (.inr (.inr trivial))];exact⟨by omega,q⟩
theorem z8o {k:Nat}{ps:List Str}{R:RD}(h:∀δ Q,¬R δ Q):FnOk P w K mg base CX0 k f fd ps (spD R) :=
 ⟨fun vs H Q E q=>by obtain⟨_,_,_,_,_,_,_,z,_⟩:=q;exact(h _ _ z).elim,fun A outer s H args us vs Q E _ _ _ _ q=>by obtain⟨_,_,_,_,_,_,_,z,_⟩:=q;exact(h _ _ z).elim⟩
theorem pat_kind (p:Pat):(∃s,p=.one s)∨((∀s,p≠.one s)∧∃(z:Str) (r:List D),patD p=.tup (.str z::r)∧z ≠ "one"∧(z = "row"↔∃ps,p=.row ps)):=by
 cases p with
 |one s=>exact .inl ⟨s,rfl⟩
 |none=>exact .inr ⟨(fun s e=>by cases e),"none",_,rfl,by decide,⟨fun h=>absurd h (by decide),(fun⟨_,e⟩=>by cases e)⟩⟩
 |row ps=>exact .inr ⟨(fun s e=>by cases e),"row",_,rfl,by decide,⟨fun _=>⟨ps,rfl⟩,fun _=>rfl⟩⟩
 |any ps=>exact .inr ⟨(fun s e=>by cases e),"any",_,rfl,by decide,⟨fun h=>absurd h (by decide),(fun⟨_,e⟩=>by cases e)⟩⟩
 |wrap k p=>exact .inr ⟨(fun s e=>by cases e),k.str,_,rfl,by cases k<;>decide,⟨fun h=>absurd h (by cases k<;>decide),(fun⟨_,e⟩=>by cases e)⟩⟩
def y0x (n:Nat):RD:=fun δ Q=>∃p:Pat,δ=[.fz (patD p)]∧dpP p<n∧szP p≤1000000∧Q true (.lst ((z0o p).map .str)) [.no]
theorem z9i {f1:Addr}{fd1:FuncData}(u0r:Ent K mg "signs" u3q ["pattern"] f fd)(T:Zs K mg)(u0b:Ent K mg "patterns_within" u0g ["pattern"] f1 fd1):∀n,FnOk P w K mg base CX0 (n+2) f fd ["pattern"] (spD (y0x n)):=by
 have u4x:FnOk P w K mg base CX0 1 f1 fd1 _ (spD y8z):=u6p u0b T
 intro n
 induction n with
 |zero=>exact z8o fun δ Q h=>by obtain⟨_,_,h,_⟩:=h;exact Nat.not_lt_zero _ h
 |succ n u4f =>
 refine VL.Fun.dok u0r.F u5h (fun δ Qd h=>?_) (by decide) (fun cdv A outer s H E δ Qd hr h=>?_)
 ·obtain⟨_,rfl,_⟩:=h;rfl
 ·obtain⟨p,rfl,hdp,hsz,q⟩:=h
  refine⟨_,(z0c (z1x (z1f z4q z3c (z0t z1c z1g (pv 0) z0f (fun _ _=>rfl)) z0l (z0u _)) (z0h (z0r (z1i (z0a (z0t z1c z1g (pv 0) z0f (fun _ _=>rfl)) z0e)))) z0v)
   (z0c (z1b (i:=1) u5h.nd rfl (Or.inl rfl) (z1i z0e))
   (z0c (z5h PassesOwn.never rfl (z2h (z0y u4x (hr.mono (by omega)) rfl u0b.g u0b.F.kp u0b.b z0z (z0a (dv 0) z0e))) (z2f (i:=2) u5h.nd rfl (Or.inl rfl)) (z0h (z5a (y3b ms_extend PySem.F.slot_list_extend PySem.F.type_list_extend mt_extend (pv 1) (z0a (z0y u4f (hr.mono (by omega)) rfl u0r.g u0r.F.kp u0r.b z0z (z0a (dv 2) z0e)) z0e)))))
   (z0h (z0r (dm 1)))))),?_⟩
  have sz:=z0x
  rcases pat_kind p with ⟨s,rfl⟩|⟨h1,z,r,ep,hz,_⟩
  ·simp only[patD]
   walk_at "vd"
   exact⟨by omega,q⟩
  ·rw[ep]
   walk_at "vd"
   rw[if_neg (by simpa using hz),←ep]
   refine⟨by omega,p,rfl,?_⟩
   walk_at "vd"
   refine z9z [2] (fun r δ=>∃pre suf,kids p=pre++suf∧r=z1z suf∧δ=[.fz (patD p),.ob false (.lst ((z0w pre).map .str)),.no]) ⟨[],kids p,rfl,rfl,rfl⟩ ?_ ?_
   ·rintro d r δ ⟨pre,suf,e1,e2,rfl⟩
    cases suf with
    |nil=>cases e2
    |cons c suf =>
     cases e2
     walk_at "vd"
     have hc:c∈kids p:=by rw[e1];simp
     have e5:=kids_sz p
     rw[e1,z5f,szPs]at e5
     have e6:=kids_dp hc
     have e7:=z3h c
     have e8:=z3w pre
     refine⟨c,rfl,by omega,by omega,?_⟩
     walk_at "vd"
     refine⟨by simp;omega,pre++[c],suf,by simp[e1],rfl,?_⟩
     simp[z2v,z0w]
   ·rintro δ ⟨pre,suf,e1,e2,rfl⟩
    cases suf with
    |cons c suf=>cases e2
    |nil =>
     walk_at "vd"
     rw[List.append_nil]at e1
     rw[y7g h1,e1]at q
     exact q
end
open PySem L2 VL Pap
def u7l:RD:=fun δ Q=>∃ns:List Int,δ=[.ob true (.lst (ns.map .int))]∧∀(x:Int) (ms:List Int),Q false (.int x) [.ob true (.lst (ms.map .int))]
theorem e_pop {ns:List Int}{Q:Bool→D→List VL.Slot→Prop}{w:Beh Q}:hold u7l Q w [.ob true (.lst (ns.map .int))] = ∀(x:Int) (ms:List Int),Q false (.int x) [.ob true (.lst (ms.map .int))] :=
 propext ⟨fun⟨_,_,h⟩=>h,fun h=>⟨ns,rfl,h⟩⟩
local macro_rules|`(tactic| walk_at "vd")=>do
 let u←("reduceIte getK_0 getK_s setK_0 setK_s z9u y0o y1h setW_s y1a y1g pkS_fz pkS_ob obK_ob scK_sc ioK_t ioK_no intK_e strK_e blK_e lstK_e dctK_e z7n isLK_e z9q y0d z7s v_seq v_next v_ret y1n v_drop v_if v_set v_c v_var v_mv v_op v_opV v_opW v_test v_not v_and v_or v_truV v_andV v_notV v_ifE v_nil v_cons v_tup v_lst v_CB v_CBV v_mt v_gN y1k y0e v_gNil v_asg v_setL y1c y0a v_call v_aNil v_aV v_aO z7i v_oN v_oS v_slLV v_slS v_slC v_join y0f v_din v_dput v_I v_Ic y0s y1q y0q y1t v_catS v_cat v_ixL v_ixT0 v_ixT1 v_ixS v_ixQl v_ixQt v_eqL0 v_neL0 v_inL z7j v_inT2 v_inT3 v_lenL v_lenS y1r y1i z8c z9w z7p z7m v_pop z4n z4g z3r z3k z2z z4j z4d z3j z3s z3a z4f z4e z3q z3p z3d z4c z4l z3m z3o z3b v_ixC v_lenC y1e v_scA y0l z9t y1s z7q v_slR".splitOn " ").mapM fun n=>`(Lean.Parser.Tactic.simpLemma| ↓ $(Lean.mkIdent n.toName):term)
 let v←("rsl_t rsl_f outS z8 z6f z6g z6k List.map_cons List.map_nil List.length_cons List.length_nil Nat.reduceAdd List.replicate_succ List.replicate_zero List.cons_append List.nil_append List.append_nil List.drop_succ_cons List.drop_zero List.filter_cons List.filter_nil Option.isNone_none Option.isNone_some and_true true_and decide_eq_true_eq Bool.true_eq_false Bool.false_eq_true Bool.not_true Bool.not_false Bool.not_not Bool.not_eq_eq_eq_not decide_true decide_false if_true if_false eq_self Int.zero_add List.isEmpty_nil List.isEmpty_cons not_true_eq_false not_false_eq_true false_and and_false Option.isSome_some z6j fgt List.set_cons_zero List.set_cons_succ e_pop v_gget v_chainS v_diStr".splitOn " ").mapM fun n=>`(Lean.Parser.Tactic.simpLemma| $(Lean.mkIdent n.toName):term)
 `(tactic| simp only[$((u++v).toArray),*])
mutual
def pD:Part→D
 |.txt s=>.str s
 |.tup n ps=>.tup [.str n,.lst (pDs ps)]
def pDs:List Part→List D
 | []=>[]
 |p::ps=>pD p::pDs ps
end
mutual
def okA:D→Bool
 |.str _=>true
 |.int _=>true
 |.lst xs=>decide (xs.length≤1000000)&&okAL xs
 |.tup xs=>decide (xs.length≤1000000)&&okAL xs
 |_=>false
def okAL:List D→Bool
 | []=>true
 |d::r=>okA d&&okAL r
end
theorem x2i {xs:List D}(h:okAL xs=true){d:D}(hd:d∈xs):okA d=true:=by
 induction xs with
 |nil=>cases hd
 |cons a r ih =>
  simp only[okAL,Bool.and_eq_true]at h
  rcases List.mem_cons.mp hd with rfl|hd
  ·exact h.1
  ·exact ih h.2 hd
theorem x1v {xs:List D}{d:D}(hd:d∈xs):dep d≤depL xs:=by
 induction xs with
 |nil=>cases hd
 |cons a r ih =>
  simp only[depL]
  rcases List.mem_cons.mp hd with rfl|hd
  ·omega
  ·have:=ih hd;omega
section
variable {P:Program}{w:World}{K:PySem.W.Frag}{mg:Str→Option Value}{base:Heap}{f:Addr}{fd:FuncData}
theorem u7y (E:Ent K mg "_law_pop" u3a ["_law_draws_here"] f fd)(T:Zs K mg):FnOk P w K mg base CX0 1 f fd ["_law_draws_here"] (spD u7l):=by
 refine VL.Fun.dok E.F y6t (fun δ Qd h=>?_) (by decide) (fun cdv A outer s H E δ Qd hr h=>?_)
 ·obtain⟨ns,rfl,_⟩:=h;rfl
 ·obtain⟨ns,rfl,q⟩:=h
  have hu:=z5b hr
  refine⟨_,(z0c (z1x (y7b (x1u hu) z8i (pv 0) (z1i z0e) (z0u _)) (z0h (z0r z0f)) z0v)
   (z0h (z0r (de_mt0 ms_pop PySem.F.slot_list_pop PySem.F.type_list_pop mt_pop (pv 0))))),?_⟩
  walk_at "vd"
  refine⟨by decide,?_⟩
  cases ns with
  |nil=>exact iteT (q 0 [])
  |cons a r =>
   have hlt:(a::r).length - 1<(a::r).length:=by simp
   refine iteF ⟨.int (a::r)[(a::r).length - 1],?_,?_⟩
   ·rw[List.getElem?_map,List.length_map,List.getElem?_eq_getElem hlt];rfl
   ·have:=q (a::r)[(a::r).length - 1] (a::r).dropLast
    rwa [List.map_dropLast]at this
def u6q (n:Nat):RD:=fun δ Q=>∃d:D,δ=[.fz d,.fz d]∧dep d<n∧okA d=true∧Q false (.bl true) [.no,.no]
theorem u7m (u0z:Ent K mg "_law_alike" u2u ["_law_found","_law_due_here"] f fd)(T:Zs K mg):∀n,FnOk P w K mg base CX0 (n+1) f fd ["_law_found","_law_due_here"] (spD (u6q n)):=by
 intro n
 induction n with
 |zero=>exact z8o fun δ Q h=>by obtain⟨_,_,h,_⟩:=h;exact Nat.not_lt_zero _ h
 |succ n u4b =>
 refine VL.Fun.dok u0z.F u4w (fun δ Qd h=>?_) (by decide) (fun cdv A outer s H E δ Qd hr h=>?_)
 ·obtain⟨_,rfl,_⟩:=h;rfl
 ·obtain⟨d,rfl,hdp,hok,q⟩:=h
  refine⟨_,(z0c (z1x (z8x (z4x (z9 T.kit) (z2x (K:=K) rfl) rfl T.z_isinstance PyProof.Rows.boot_isinstance (z0a (dv 1) (z0a (y4l rfl T.z_str PyProof.Rows.boot_str) z0e)))) (z0h (z0r (y9f (z4x (z9 T.kit) (z2x (K:=K) rfl) rfl T.z_isinstance PyProof.Rows.boot_isinstance (z0a (dv 0) (z0a (y4l rfl T.z_str PyProof.Rows.boot_str) z0e))) (x2j (y8v z4q z3c (dv 0) (dv 1) (z0u _)))))) z0v)
   (z0c (z1x (z8x (z4x (z9 T.kit) (z2x (K:=K) rfl) rfl T.z_isinstance PyProof.Rows.boot_isinstance (z0a (dv 1) (z0a (y4l rfl T.z_int PyProof.Rows.boot_int) z0e)))) (z0h (z0r (y9f (z4x (z9 T.kit) (z2x (K:=K) rfl) rfl T.z_isinstance PyProof.Rows.boot_isinstance (z0a (dv 0) (z0a (y4l rfl T.z_int PyProof.Rows.boot_int) z0e))) (y9f (de_not (z4x (z9 T.kit) (z2x (K:=K) rfl) rfl T.z_isinstance PyProof.Rows.boot_isinstance (z0a (dv 0) (z0a (y4l rfl T.z_bool PyProof.Rows.boot_bool) z0e)))) (x2j (y8v z4q z3c (dv 0) (dv 1) (z0u _))))))) z0v)
   (z0c (z1x (z8x (z4x (z9 T.kit) (z2x (K:=K) rfl) rfl T.z_isinstance PyProof.Rows.boot_isinstance (z0a (dv 1) (z0a (y4l rfl T.z_list PyProof.Rows.boot_list) z0e)))) (z0h (z1x (x3w (z8x (z4x (z9 T.kit) (z2x (K:=K) rfl) rfl T.z_isinstance PyProof.Rows.boot_isinstance (z0a (dv 0) (z0a (y4l rfl T.z_list PyProof.Rows.boot_list) z0e))))) (z0h (z0r y9x)) z0v)) (z0h (z1x (x3w (z8x (z4x (z9 T.kit) (z2x (K:=K) rfl) rfl T.z_isinstance PyProof.Rows.boot_isinstance (z0a (dv 0) (z0a (y4l rfl T.z_tuple PyProof.Rows.boot_tuple) z0e))))) (z0h (z0r y9x)) z0v)))
   (z0c (z1x (z1f y9v y1j (z1q y7e z4h rfl T.z_len PySem.boot_len (pv 0)) (z1q y7e z4h rfl T.z_len PySem.boot_len (pv 1)) (z0u _)) (z0h (z0r y9x)) z0v)
   (z0c (z5h PassesOwn.never rfl (z5p rfl T.z_range (z0a (z1q y7e z4h rfl T.z_len PySem.boot_len (pv 1)) z0e)) (z2f (i:=2) u4w.nd rfl (Or.inl rfl)) (z0h (z1x (x3w (z8x (z0y u4b (hr.mono (by omega)) rfl u0z.g u0z.F.kp u0z.b z0z (z0a (z0t os_ixQ ix_seq (pv 0) (dv 2) (fun _ _=>rfl)) (z0a (z0t os_ixQ ix_seq (pv 1) (dv 2) (fun _ _=>rfl)) z0e))))) (z0h (z0r y9x)) z0v)))
   (z0h (z0r y9x))))))),?_⟩
  cases d with
  |str z =>
   walk_at "vd"
   exact q
  |int z =>
   walk_at "vd"
   exact q
  |lst xs =>
   simp only[okA,Bool.and_eq_true,decide_eq_true_eq]at hok
   simp only[dep]at hdp
   walk_at "vd"
   refine⟨by omega,by omega,x3n [2] (fun i δ=>δ=[.fz (.lst xs),.fz (.lst xs),.no]) rfl ?_ ?_⟩
   ·rintro i δ hi rfl
    have hi':i<xs.length:=by omega
    have e:atI xs (i:Int)=some xs[i]:=z4p (List.getElem?_eq_getElem hi')
    have hm:xs[i]∈xs:=List.getElem_mem hi'
    have hd:=x1v hm
    walk_at "vd"
    refine⟨_,e,_,e,_,rfl,by omega,x2i hok.2 hm,?_⟩
    walk_at "vd"
   ·rintro δ rfl
    walk_at "vd"
    exact q
  |tup xs =>
   simp only[okA,Bool.and_eq_true,decide_eq_true_eq]at hok
   simp only[dep]at hdp
   walk_at "vd"
   refine⟨by omega,by omega,x3n [2] (fun i δ=>δ=[.fz (.tup xs),.fz (.tup xs),.no]) rfl ?_ ?_⟩
   ·rintro i δ hi rfl
    have hi':i<xs.length:=by omega
    have e:atI xs (i:Int)=some xs[i]:=z4p (List.getElem?_eq_getElem hi')
    have hm:xs[i]∈xs:=List.getElem_mem hi'
    have hd:=x1v hm
    walk_at "vd"
    refine⟨_,e,_,e,_,rfl,by omega,x2i hok.2 hm,?_⟩
    walk_at "vd"
   ·rintro δ rfl
    walk_at "vd"
    exact q
  |_=>cases hok
def y7n (K:PySem.W.Frag):RD:=fun δ Q=>∃(ns:List Int) (t m:Nat),δ=[.sc K ns,.fz (.int t),.fz (.int m)]∧t≤1000∧m≤1000∧∀ms:List Int,ms.length=m→Q true (.lst (ms.map .int)) [.no,.no,.no]
theorem y3s {ns:List Int}{i:Int}(h0:0≤i)(h1:i<ns.length):∃x,atI (ns.map D.int) i=some (.int x):=by
 obtain⟨d,hd,e⟩:=z8y (xs:=ns.map D.int) h0 (by simpa using h1)
 obtain⟨x,_,rfl⟩:=List.mem_map.mp hd
 exact⟨x,e⟩
theorem ixN_of {n:Nat}{i:Int}(h0:0≤i)(h1:i<n):∃j,ixN n i=some j∧j<n:=by
 unfold ixN
 rw[if_pos h0,if_pos h1]
 exact⟨_,rfl,by omega⟩
theorem y9k (u1a:Ent K mg "_law_draws" u1w ["_law_script","_law_turn","_law_many_here"] f fd)(T:Zs K mg):FnOk P w K mg base CX0 1 f fd ["_law_script","_law_turn","_law_many_here"] (spD (y7n K)):=by
 refine VL.Fun.dok u1a.F u1k (fun δ Qd h=>?_) (by decide) (fun cdv A outer s H E δ Qd hr h=>?_)
 ·obtain⟨_,_,_,rfl,_⟩:=h;rfl
 ·obtain⟨ns,t,m,rfl,ht,hm,q⟩:=h
  refine⟨_,(z0c (z1b (i:=3) u1k.nd rfl (Or.inl rfl) (z0m z4r z2y (de_sliceC (K:=K) rfl (pv 0) z2e (z1u z0f)) (z1i (z0a (dv 1) z0e))))
   (z0c (z1b (i:=4) u1k.nd rfl (Or.inl rfl) (z1i z0e))
   (z0c (z1x (z1f z4q z3c (z0m z1l z1k (z0m z2d z1r (z0t z4k z2c (pv 3) z0f (fun _ _=>rfl)) z0f) z0f) z0f (z0u _)) (z0c (y3u (j:=5) ["_law_cell"] ["_law_script","_law_turn","_law_many_here","_law_cells","_law_found","_law_left","_law_k","_law_at","_law_place","_law_number"] u1k.nd rfl rfl rfl (show CScopeG (z0b u1w) ["_law_script","_law_turn","_law_many_here","_law_cells","_law_found","_law_left","_law_k","_law_at","_law_place","_law_number"] ["_law_cell"] _ _ from⟨rfl,by decide +kernel,by decide +kernel,by decide +kernel,by decide +kernel⟩) (z2h (dv 3)) (fun _ _ _ _ _=>(z2b (i:=0) (by decide) (show List.Nodup (["_law_cell","_law_script","_law_turn","_law_many_here","_law_cells","_law_found","_law_left","_law_k","_law_at","_law_place","_law_number"]:List Str) from by decide +kernel) rfl (Or.inl rfl))) (fun _ _ _ _ _=>z5s) (fun _ _ _ _ _=>(z0m z2d z1r (dv 0) z0f)))
   (z0c (z5h PassesOwn.never rfl (z5p rfl T.z_range (z0a (z0m z2r z2q (dv 1) (dv 2)) z0e)) (z2f (i:=6) u1k.nd rfl (Or.inl rfl)) (z0c (z1b (i:=7) u1k.nd rfl (Or.inl rfl) (z0m z1l z1k (dv 6) (z1q z3x z1d rfl T.z_len PySem.boot_len (pv 5))))
   (z0c (z1x (z1f os_ge op_ge (dv 6) (dv 1) (z0u _)) (z0h (z5a (y3b z4i PySem.F.slot_list_append PySem.F.type_list_append z1p (pv 4) (z0a (z0m z1l z1k (z0t z4k z2c (pv 5) (dv 7) (fun _ _=>rfl)) z0f) z0e)))) z0v)
   (z0h (ds_setL (pv 5) (dv 7) (z0m z2d z1r (z0t z4k z2c (pv 5) (dv 7) (fun _ _=>rfl)) z0f))))))
   (z0h (z0r (dm 4))))) z0v)
   (z0c (z5h PassesOwn.never rfl (z5p rfl T.z_range (z0a (dv 2) z0e)) (z2f (i:=6) u1k.nd rfl (Or.inl rfl)) (z0c (z1b (i:=8) u1k.nd rfl (Or.inl rfl) (z0m z2r z2q (z0m z7v z7t (z0m z7v z7t (z0m z2r z2q (dv 6) (dv 1)) (z0m z2r z2q (dv 6) (dv 1))) z0f) z0f))
   (z0c (z1b (i:=9) u1k.nd rfl (Or.inl rfl) (z0m z1l z1k (z0m z7v z7t (z0m z2r z2q (z0m z1l z1k (z0t z4k z2c (pv 3) (z0m z1l z1k (dv 6) (z1q z3x z1d rfl T.z_len PySem.boot_len (pv 3))) (fun _ _=>rfl)) z0f) (dv 8)) z0f) z0f))
   (z0c (z1b (i:=9) u1k.nd rfl (Or.inl rfl) (z0m z1l z1k (z0m z2r z2q (z0m z7v z7t (dv 9) (dv 9)) (z0m z7v z7t z0f (dv 6))) z0f))
   (z0h (z5a (y3b z4i PySem.F.slot_list_append PySem.F.type_list_append z1p (pv 4) (z0a (z0m z1l z1k (z0m z7v z7t (dv 9) (dv 9)) z0f) z0e))))))))
   (z0h (z0r (dm 4))))))),?_⟩
  have sz:=z0x
  have ec:∃cs:List Int,cutD (ns.map .int) none (some 63)=cs.map .int∧cs.length≤63:=by
   refine⟨ns.take 63,?_,by rw[List.length_take];omega⟩
   rw[show(63:Int)=((63:Nat):Int) from rfl,z5l,List.map_take]
  obtain⟨cs0,ec,hcl⟩:=ec
  walk_at "vd"
  rw[ec]
  have e2:List.map D.int cs0++[D.int t]=(cs0++[(t:Int)]).map .int:=by simp
  rw[e2]
  generalize hcs:cs0++[(t:Int)]=cs
  have hcs1:0<cs.length:=by rw[←hcs];simp
  have hcs2:cs.length≤64:=by rw[←hcs];simp;omega
  obtain⟨c0,e0⟩:=y3s (ns:=cs) (i:=0) (by decide) (by omega)
  refine⟨by omega,by simp;omega,by omega,_,e0,?_⟩
  walk_at "vd"
  refine⟨⟨by decide,by decide⟩,by decide,ite2 (fun _=>?_) fun _=>?_⟩
  ·refine comp1 (fun _ y=>∃x:Int,y=.int x) (by simp;omega) (fun d hd P hP=>?_) fun ys hys=>?_
   ·obtain⟨x,_,rfl⟩:=List.mem_map.mp hd
    walk_at "vd"
    exact⟨⟨by decide,by decide⟩,hP _ ⟨_,rfl⟩⟩
   ·obtain⟨ls,rfl,hls⟩:∃ls:List Int,ys=ls.map .int∧ls.length=cs.length:=by
     have:∀{ds ys:List D},All2 (fun _ y=>∃x:Int,y=.int x) ds ys→∃ls:List Int,ys=ls.map .int∧ls.length=ds.length:=by
      intro ds ys h
      induction h with
      |nil=>exact⟨[],rfl,rfl⟩
      |cons g _ ih =>
       obtain⟨x,rfl⟩:=g
       obtain⟨ls,rfl,hl⟩:=ih
       exact⟨x::ls,rfl,by simp[hl]⟩
     obtain⟨ls,h1,h2⟩:=this hys
     exact⟨ls,h1,by simpa using h2⟩
    walk_at "vd"
    refine⟨by omega,by omega,x3n [6,7] (fun i δ=>∃(fs ls:List Int),fs.length=i - t∧ls.length=cs.length∧δ=[.sc K ns,.fz (.int t),.fz (.int m),.fz (.lst (cs.map .int)),.ob false (.lst (fs.map .int)),.ob false (.lst (ls.map .int)),.no,.no,.no,.no]) ⟨[],ls,by simp,hls,rfl⟩ ?_ ?_⟩
    ·rintro i δ hi ⟨fs,ls,hf,hl,rfl⟩
     walk_at "vd"
     have hL:((List.map D.int ls).length:Int)=cs.length:=by simp[hl]
     rw[hL]
     have h0:0<(cs.length:Int):=by omega
     have a1:=z2k (a:=(i:Int)) h0
     have a2:=z2l (a:=(i:Int)) h0
     generalize (i:Int) % (cs.length:Int)=k at a1 a2 ⊢
     obtain⟨x,ex⟩:=y3s (ns:=ls) a1 (by omega)
     obtain⟨j,ej,hj⟩:=ixN_of (n:=(List.map D.int ls).length) a1 (by omega)
     have es:∀v:Int,(List.map D.int ls).set j (.int v)=(ls.set j v).map .int:=fun v=>by simp
     refine⟨h0,ite2 (fun hge=>⟨_,ex,?_⟩) fun hlt=>⟨_,ex,?_⟩⟩
     ·walk_at "vd"
      refine⟨by decide,by simp;omega,_,ex,?_⟩
      walk_at "vd"
      refine⟨⟨by decide,by decide⟩,j,ej,fs++[x % 2147483587],ls.set j (x / 2147483587),by simp;omega,by simp[hl],?_⟩
      rw[es];simp
     ·walk_at "vd"
      refine⟨⟨by decide,by decide⟩,j,ej,fs,ls.set j (x / 2147483587),by omega,by simp[hl],?_⟩
      rw[es]
    ·rintro δ ⟨fs,ls,hf,hl,rfl⟩
     walk_at "vd"
     exact q fs (by omega)
  ·refine⟨by omega,by omega,x3n [6,8,9] (fun i δ=>∃fs:List Int,fs.length=i∧δ=[.sc K ns,.fz (.int t),.fz (.int m),.ob false (.lst (cs.map .int)),.ob false (.lst (fs.map .int)),.no,.no,.no,.no,.no]) ⟨[],rfl,rfl⟩ ?_ ?_⟩
   ·rintro i δ hi ⟨fs,hf,rfl⟩
    walk_at "vd"
    have hL:((List.map D.int cs).length:Int)=cs.length:=by simp
    rw[hL]
    have h0:0<(cs.length:Int):=by omega
    obtain⟨x,ex⟩:=y3s (ns:=cs) (z2k (a:=(i:Int)) h0) (z2l h0)
    refine⟨.inl ⟨by omega,by omega⟩,.inr ⟨by decide,by decide⟩,h0,_,ex,?_⟩
    walk_at "vd"
    have b1:=z2k (a:=(x % 2147483647+(((i:Int)+t) * (i+t) * 7919+104729)) * 48271) (b:=2147483647) (by decide)
    have b2:=z2l (a:=(x % 2147483647+(((i:Int)+t) * (i+t) * 7919+104729)) * 48271) (b:=2147483647) (by decide)
    generalize (x % 2147483647+(((i:Int)+t) * (i+t) * 7919+104729)) * 48271 % 2147483647=y at b1 b2 ⊢
    have b3:=z2k (a:=y * y+69621 * (i:Int)) (b:=2147483629) (by decide)
    have b4:=z2l (a:=y * y+69621 * (i:Int)) (b:=2147483629) (by decide)
    generalize (y * y+69621 * (i:Int)) % 2147483629=z at b3 b4 ⊢
    refine⟨by decide,.inr ⟨by decide,by decide⟩,by decide,.inl ⟨by omega,by omega⟩,.inl ⟨by decide,by decide⟩,by decide,.inl ⟨by omega,by omega⟩,by decide,by simp;omega,fs++[z * z % 2147483587],by simp;omega,by simp⟩
   ·rintro δ ⟨fs,hf,rfl⟩
    walk_at "vd"
    exact q fs (by omega)
def u7z (K:PySem.W.Frag):RD:=fun δ Q=>∃(ns:List Int) (k:Nat),δ=[.sc K ns,.fz (.int k)]∧Q false (.int (ns.getD k 0)) [.no,.no]
theorem u9e (u2d:Ent K mg "_law_cell_at" u2b ["_law_script","_law_k"] f fd)(T:Zs K mg):FnOk P w K mg base CX0 1 f fd ["_law_script","_law_k"] (spD (u7z K)):=by
 refine VL.Fun.dok u2d.F y0c (fun δ Qd h=>?_) (by decide) (fun cdv A outer s H E δ Qd hr h=>?_)
 ·obtain⟨_,_,rfl,_⟩:=h;rfl
 ·obtain⟨ns,k,rfl,q⟩:=h
  refine⟨_,(z0c (z1x (z1f y5r y4a (dv 1) (de_lenC (K:=K) rfl rfl T.z_len (pv 0)) (z0u _)) (z0h (z0r (de_ixC (K:=K) rfl (pv 0) (dv 1)))) z0v)
   (z0h (z0r z0f))),?_⟩
  walk_at "vd"
  by_cases hk:(k:Int)<ns.length
  ·rw[if_pos hk]
   have hk':k<ns.length:=by omega
   refine⟨ns[k],z4p (by rw[List.getElem?_eq_getElem hk']),?_⟩
   rw[List.getD_eq_getElem?_getD,List.getElem?_eq_getElem hk']at q
   exact q
  ·rw[if_neg hk]
   rw[List.getD_eq_getElem?_getD,List.getElem?_eq_none (by omega)]at q
   exact q
def u8a:RD:=fun δ Q=>∃c:Int,δ=[.fz (.int c)]∧∀m:Nat,1≤m→m≤8→Q false (.int m) [.no]
theorem u9f (u3g:Ent K mg "_law_many" u3e ["_law_cell"] f fd)(T:Zs K mg):FnOk P w K mg base CX0 1 f fd ["_law_cell"] (spD u8a):=by
 refine VL.Fun.dok u3g.F y5n (fun δ Qd h=>?_) (by decide) (fun cdv A outer s H E δ Qd hr h=>?_)
 ·obtain⟨_,rfl,_⟩:=h;rfl
 ·obtain⟨c,rfl,q⟩:=h
  refine⟨_,(z0c (z1x (z1f z4q z3c (z0m z1l z1k (z0m z2d z1r (dv 0) z0f) z0f) z0f (z0u _)) (z0h (z0r (z0m z2r z2q z0f (z0m z1l z1k (z0m z2d z1r (dv 0) z0f) z0f)))) z0v)
   (z0h (z0r (z0m z2r z2q z0f (z0m z1l z1k (z0m z2d z1r (dv 0) z0f) z0f))))),?_⟩
  have key:∀b:Int,0<b→b≤8→Qd false (.int (1+c / 16 % b)) [.no]:=fun b h1 h2=>by
   have a1:=z2k (a:=c / 16) h1
   have a2:=z2l (a:=c / 16) h1
   have e:(1+c / 16 % b)=(((1+c / 16 % b).toNat:Nat):Int):=by omega
   rw[e]
   exact q _ (by omega) (by omega)
  walk_at "vd"
  exact⟨⟨by decide,by decide⟩,by decide,ite2 (fun _=>⟨⟨by decide,by decide⟩,by decide,key 8 (by decide) (by decide)⟩) fun _=>⟨⟨by decide,by decide⟩,by decide,key 4 (by decide) (by decide)⟩⟩
end
open PySem L2 VL Pap
def abc:List Nat:=("abcdefghijklmnopqrstuvwxyz":Str).cps.toList
theorem abcOk:∀c∈abc,97≤c∧c≤122:=by decide +kernel
theorem y0i:abc.length=26:=by decide +kernel
theorem abc_inj:∀i,i<26→∀j,j<26→abc[i]? = abc[j]?→i=j:=by decide +kernel
def letF (i:Int):Nat:=abc.getD (i % 26).toNat 0
theorem letF_at (i:Int):atI abc (i % 26)=some (letF i):=by
 have h1:=z2k (a:=i) (b:=26) (by decide)
 have h2:=z2l (a:=i) (b:=26) (by decide)
 have e:(i % 26)=(((i % 26).toNat:Nat):Int):=by omega
 have hl:(i % 26).toNat<abc.length:=by rw[y0i];omega
 rw[e,z4p (List.getElem?_eq_getElem hl)]
 unfold letF
 rw[List.getD_eq_getElem?_getD,List.getElem?_eq_getElem hl]
 rfl
theorem y6q (i:Int):97≤letF i∧letF i≤122:=by
 have h1:=z2k (a:=i) (b:=26) (by decide)
 have h2:=z2l (a:=i) (b:=26) (by decide)
 have hl:(i % 26).toNat<abc.length:=by rw[y0i];omega
 unfold letF
 rw[List.getD_eq_getElem?_getD,List.getElem?_eq_getElem hl]
 exact abcOk _ (List.getElem_mem hl)
theorem letF_inj {i j:Int}(h:letF i=letF j):i % 26=j % 26:=by
 have a1:=z2k (a:=i) (b:=26) (by decide)
 have a2:=z2l (a:=i) (b:=26) (by decide)
 have b1:=z2k (a:=j) (b:=26) (by decide)
 have b2:=z2l (a:=j) (b:=26) (by decide)
 have hl:(i % 26).toNat<abc.length:=by rw[y0i];omega
 have hm:(j % 26).toNat<abc.length:=by rw[y0i];omega
 have:=abc_inj (i % 26).toNat (by omega) (j % 26).toNat (by omega) (by
  unfold letF at h
  rw[List.getD_eq_getElem?_getD,List.getD_eq_getElem?_getD,List.getElem?_eq_getElem hl,List.getElem?_eq_getElem hm]at h
  rw[List.getElem?_eq_getElem hl,List.getElem?_eq_getElem hm]
  exact congrArg some h)
 omega
def z5c (n:Int):Str:=Txt.join "" ((List.range (n % 5).toNat).map fun(k:Nat)=>(⟨#[letF (n / 150+(k:Int) * k)]⟩:Str))
def atF (n:Int):Int:=n / 5 % ((z5c n).length+1)
def z7f (k n:Int):Str:=Txt.slice (z5c n) none (some (atF n))++⟨#[letF (k+n)]⟩++Txt.slice (z5c n) (some (atF n)) none
theorem z7k (k n:Int):(z7f k n).cps.toList=(Txt.slice (z5c n) none (some (atF n))).cps.toList++letF (k+n)::(Txt.slice (z5c n) (some (atF n)) none).cps.toList:=by
 show(((Txt.slice (z5c n) none (some (atF n))).cps++#[letF (k+n)])++(Txt.slice (z5c n) (some (atF n)) none).cps).toList=_
 simp
theorem x2b {i j n:Int}(h:z7f i n=z7f j n):(i+n) % 26=(j+n) % 26:=by
 have e:=congrArg (fun z:Str=>z.cps.toList) h
 simp only[z7k]at e
 have e2:=List.append_cancel_left e
 exact letF_inj (List.cons.inj e2).1
theorem nameF_ne (k n:Int):z7f k n ≠ "#":=fun h=>by
 have e:=congrArg (fun z:Str=>z.cps.toList) h
 simp only[z7k]at e
 have m:letF (k+n)∈("#":Str).cps.toList:=by rw[←e];simp
 have:=y6q (k+n)
 have e3:("#":Str).cps.toList=[35]:=by decide +kernel
 rw[e3]at m
 simp at m
 omega
theorem y9i (n:Nat):rngD 0 n=(List.range n).map fun(k:Nat)=>D.int (k:Int):=by simp[rngD]
theorem ones_len (g:Nat→Nat)(l:List Nat):((l.map fun(k:Nat)=>(⟨#[g k]⟩:Str)).map (·.length)).sum=l.length:=by
 induction l with
 |nil=>rfl
 |cons a r ih=>simp only[List.map_cons,List.sum_cons,ih,List.length_cons];show 1+_=_;omega
section
variable {P:Program}{w:World}{K:PySem.W.Frag}{mg:Str→Option Value}{base:Heap}{f:Addr}{fd:FuncData}
def x3y:RD:=fun δ Q=>∃k n:Int,δ=[.fz (.int k),.fz (.int n)]∧Q false (.str (z7f k n)) [.no,.no]
theorem Str.len_app (a b:Str):(a++b).length=a.length+b.length:=by
 show(a.cps++b.cps).size=_
 rw[Array.size_append];rfl
theorem u9g (E:Ent K mg "_law_name" u2n ["_law_k","_law_draw"] f fd)(T:Zs K mg):FnOk P w K mg base CX0 1 f fd ["_law_k","_law_draw"] (spD x3y):=by
 refine VL.Fun.dok E.F u3z (fun δ Qd h=>?_) (by decide) (fun cdv A outer s H E δ Qd hr h=>?_)
 ·obtain⟨_,_,rfl,_⟩:=h;rfl
 ·obtain⟨kk,n,rfl,q⟩:=h
  refine⟨_,(z0c (z1b (i:=2) u3z.nd rfl (Or.inr rfl) z0l)
   (z0c (z1b (i:=3) u3z.nd rfl (Or.inl rfl) (y0y z0l (z4z ["_law_j"] ["_law_k","_law_draw","_law_letters","_law_base","_law_at"] rfl (show CScopeG (z0b u2n) ["_law_k","_law_draw","_law_letters","_law_base","_law_at"] ["_law_j"] _ _ from⟨rfl,by decide +kernel,by decide +kernel,by decide +kernel,by decide +kernel⟩) (z5p rfl T.z_range (z0a (z0m z1l z1k (dv 1) z0f) z0e)) (fun _ _ _ _ _=>(z2b (i:=0) (by decide) (show List.Nodup (["_law_j","_law_k","_law_draw","_law_letters","_law_base","_law_at"]:List Str) from by decide +kernel) rfl (Or.inl rfl))) (fun _ _ _ _ _=>z5s) (fun _ _ _ _ _=>(z0t y6h y2n (pv 3) (z0m z1l z1k (z0m z2r z2q (z0m z2d z1r (dv 2) z0f) (z0m z7v z7t (dv 0) (dv 0))) z0f) (fun _ _=>rfl))))))
   (z0c (z1b (i:=4) u3z.nd rfl (Or.inl rfl) (z0m z1l z1k (z0m z2d z1r (dv 1) z0f) (z0m z2r z2q (z1q y6r z6m rfl T.z_len PySem.boot_len (pv 3)) z0f)))
   (z0h (z0r (z0m z2u z1n (z0m z2u z1n (z5q (dv 3) z2e (z1u (dv 4))) (z0t y6h y2n (pv 2) (z0m z1l z1k (z0m z2r z2q (dv 0) (dv 1)) z0f) (fun _ _=>rfl))) (z5q (dv 3) (z1u (dv 4)) z2e))))))),?_⟩
  have hLL:("abcdefghijklmnopqrstuvwxyz":Str).cps.toList=abc:=rfl
  have hll:("abcdefghijklmnopqrstuvwxyz":Str).length=26:=y0i
  generalize ("abcdefghijklmnopqrstuvwxyz":Str)=letters at hLL hll ⊢
  have sz:=z0x
  have m1:=z2k (a:=n) (b:=5) (by decide)
  have m2:=z2l (a:=n) (b:=5) (by decide)
  walk_at "vd"
  rw[y9i]
  refine⟨by decide,by omega,by omega,y1x (fun k:Nat=>D.int (k:Int)) (fun k:Nat=>.str (⟨#[letF (n / 150+(k:Int) * k)]⟩:Str)) (List.range (n % 5).toNat) (by simp;omega) (fun k hk P hP=>?_) ?_⟩
  ·have hk':=List.mem_range.mp hk
   walk_at "vd"
   refine⟨⟨by decide,by decide⟩,.inl ⟨by omega,by omega⟩,by decide,by omega,_,by rw[hLL];exact letF_at _,hP⟩
  ·refine⟨(List.range (n % 5).toNat).map fun(k:Nat)=>(⟨#[letF (n / 150+(k:Int) * k)]⟩:Str),by simp,PyProof.Rows.joinOk_of_weight ?_ (by decide),?_⟩
   ·have:=ones_len (fun k=>letF (n / 150+(k:Int) * k)) (List.range (n % 5).toNat)
    rw[this]
    simp
    omega
   ·have hb:(z5c n).length≤10:=by
     have:=PySem.W.KT.join_ones ((List.range (n % 5).toNat).map fun(k:Nat)=>(⟨#[letF (n / 150+(k:Int) * k)]⟩:Str)) (fun t ht=>by obtain⟨k,_,rfl⟩:=List.mem_map.mp ht;rfl)
     have e:(z5c n).length=_:=this
     simp at e
     omega
    show _
    rw[show Txt.join (Str.ofString "") ((List.range (n % 5).toNat).map fun(k:Nat)=>(⟨#[letF (n / 150+(k:Int) * k)]⟩:Str))=z5c n from rfl]
    walk_at "vd"
    have g1:=Txt.slice_le (z5c n) none (some (atF n))
    have g2:=Txt.slice_le (z5c n) (some (atF n)) none
    have l1:(⟨#[letF (kk+n)]⟩:Str).length=1:=rfl
    have l2:=Str.len_app (Txt.slice (z5c n) none (some (atF n))) ⟨#[letF (kk+n)]⟩
    have l3:=Str.len_app (Txt.slice (z5c n) none (some (atF n))++⟨#[letF (kk+n)]⟩) (Txt.slice (z5c n) (some (atF n)) none)
    rw[show n / 5 % (((z5c n).length:Int)+1)=atF n from rfl]
    exact⟨⟨by decide,by decide⟩,by omega,by omega,by omega,by decide,by omega,_,by rw[hLL];exact letF_at _,by omega,by omega,by omega,q⟩
end
open PySem L2 VL Pap
mutual
def lenB:Pat→Nat
 |.none=>0
 |.one _=>1
 |.row ps=>z4m ps
 |.any ps=>z4m ps
 |.wrap _ p=>3 * lenB p
def z4m:List Pat→Nat
 | []=>0
 |p::ps=>lenB p+z4m ps
end
theorem y4y (ps qs:List Pat):z1z (ps++qs)=z1z ps++z1z qs:=by simp[z2j]
theorem z6e:∀ps qs:List Pat,z4m (ps++qs)=z4m ps+z4m qs
 | [],qs=>by simp[z4m]
 |p::ps,qs=>by simp only[List.cons_append,z4m,z6e ps qs];omega
theorem z7y:∀ps qs:List Pat,dpPs (ps++qs)=max (dpPs ps) (dpPs qs)
 | [],qs=>by simp[dpPs]
 |p::ps,qs=>by simp only[List.cons_append,dpPs,z7y ps qs];omega
theorem cut_mid (xs:List D){a b:Nat}(h:a+b≤xs.length):cutD xs (some (a:Int)) (some ((a:Int)+b))=(xs.drop a).take b:=by
 have e:(a:Int)+(b:Int)=((a+b:Nat):Int):=by omega
 rw[e]
 unfold cutD
 rw[HT.sIx_nat,HT.sIx_nat,Nat.min_eq_left h,Nat.min_eq_left (by omega)]
 congr 1
 omega
mutual
def okP:Pat→Bool
 |.none=>true
 |.one _=>true
 |.row ps=>decide (2≤ps.length)&&okPs ps
 |.any ps=>decide (2≤ps.length)&&okPs ps
 |.wrap _ p=>okP p
def okPs:List Pat→Bool
 | []=>true
 |p::ps=>okP p&&okPs ps
end
theorem z8e:∀ps qs:List Pat,okPs (ps++qs)=(okPs ps&&okPs qs)
 | [],qs=>by simp[okPs]
 |p::ps,qs=>by simp only[List.cons_append,okPs,z8e ps qs,Bool.and_assoc]
structure WrapOk (p q:Pat):Prop where
 sg:z0o q=z0o p
 sz:szP q≤szP p+2
 dp:dpP q≤dpP p+1
 ln:lenB q≤3 * lenB p
 ok:okP p=true→okP q=true
section
variable {P:Program}{w:World}{K:PySem.W.Frag}{mg:Str→Option Value}{base:Heap}{f:Addr}{fd:FuncData}
def z9y:RD:=fun δ Q=>∃(p:Pat) (n:Int),δ=[.fz (patD p),.fz (.int n)]∧∀q:Pat,WrapOk p q→Q false (patD q) [.no,.no]
theorem x0c (u0m:Ent K mg "_law_wrapped" u1g ["_law_pattern_here","_law_number"] f fd)(T:Zs K mg):FnOk P w K mg base CX0 1 f fd ["_law_pattern_here","_law_number"] (spD z9y):=by
 refine VL.Fun.dok u0m.F z9s (fun δ Qd h=>?_) (by decide) (fun cdv A outer s H E δ Qd hr h=>?_)
 ·obtain⟨_,_,rfl,_⟩:=h;rfl
 ·obtain⟨p,n,rfl,q⟩:=h
  refine⟨_,(z0c (z1x (z1f z4q z3c (z0m z1l z1k (dv 1) z0f) z0f (z0u _)) (z0h (z0r (z1o (z0a z0l (z0a (z1i (z0a (dv 0) (z0a (z1o (z0a z0l z0e)) z0e))) z0e))))) z0v)
   (z0c (z1x (z1f z4q z3c (z0m z1l z1k (dv 1) z0f) z0f (z0u _)) (z0h (z0r (z1o (z0a z0l (z0a (z1i (z0a (z1o (z0a z0l z0e)) (z0a (dv 0) z0e))) z0e))))) z0v)
   (z0c (z1x (z1f y5r y4a (z0m z1l z1k (dv 1) z0f) z0f (z0u _)) (z0h (z0r (z1o (z0a (x3m z4k z2c (z1i (z0a z0l (z0a z0l (z0a z0l z0e)))) (z0m os_sub op_sub (z0m z1l z1k (dv 1) z0f) z0f) (fun _ _=>rfl)) (z0a (dv 0) z0e))))) z0v)
   (z0h (z0r (dm 0)))))),?_⟩
  have sz:=z0x
  have m1:=z2k (a:=n) (b:=9) (by decide)
  have m2:=z2l (a:=n) (b:=9) (by decide)
  walk_at "vd"
  refine⟨by decide,ite2 (fun h0=>?_) fun h0=>?_⟩
  ·exact⟨by omega,by omega,by omega,q (.any [p,.none]) ⟨by simp[z0o,z0w],by simp[szP,szPs];omega,by simp[dpP,dpPs],by simp[lenB,z4m];omega,fun h=>by simp[okP,okPs,h]⟩⟩
  ·refine⟨by decide,ite2 (fun h1=>?_) fun h1=>?_⟩
   ·exact⟨by omega,by omega,by omega,q (.row [.none,p]) ⟨by simp[z0o,z0w],by simp[szP,szPs];omega,by simp[dpP,dpPs],by simp[lenB,z4m];omega,fun h=>by simp[okP,okPs,h]⟩⟩
   ·refine⟨by decide,ite2 (fun h2=>?_) fun h2=>?_⟩
    ·have e:n % 9=2∨n % 9=3∨n % 9=4:=by omega
     have ok:∀k,WrapOk p (.wrap k p):=fun k=>⟨rfl,by simp only[szP];omega,by simp only[dpP];omega,by simp only[lenB];omega,fun h=>h⟩
     rcases e with e|e|e<;>rw[e]
     ·exact⟨by omega,by decide,_,atI0,by omega,q _ (ok .maybe)⟩
     ·exact⟨by omega,by decide,_,atI1,by omega,q _ (ok .many)⟩
     ·exact⟨by omega,by decide,_,atI2,by omega,q _ (ok .some)⟩
    ·exact q p ⟨rfl,by omega,by omega,by omega,fun h=>h⟩
def y6g:RD:=fun δ Q=>∃(sg:List Str) (ns:List Int),δ=[.fz (.lst (sg.map .str)),.ob true (.lst (ns.map .int))]∧sg.length≤9 ∧
 ∀(p:Pat) (ms:List Int),z0o p=sg→szP p≤50→dpP p≤20→lenB p≤200000→okP p=true→Q false (patD p) [.no,.ob true (.lst (ms.map .int))]
structure RowOk (sg:List Str)(row:List Pat):Prop where
 si:z0w row=sg
 sz:szPs row+3 * row.length≤4 * sg.length
 dp:dpPs row+2 * row.length≤2 * sg.length
 ln:z4m row * 3 ^ row.length≤sg.length * 3 ^ sg.length
 ok:okPs row=true
theorem y8q:∀sg:List Str,okPs (sg.map .one)=true
 | []=>rfl
 |s::r=>by simp[okPs,okP,y8q r]
theorem x3u:∀sg:List Str,z0w (sg.map .one)=sg∧szPs (sg.map .one)=sg.length∧dpPs (sg.map .one)=0∧z4m (sg.map .one)=sg.length
 | []=>⟨rfl,rfl,rfl,rfl⟩
 |s::r=>by
  obtain⟨h1,h2,h3,h4⟩:=x3u r
  simp only[List.map_cons,z0w,z0o,szPs,szP,dpPs,dpP,z4m,lenB,h1,h2,h3,h4,List.length_cons]
  exact⟨rfl,by omega,by omega,by omega⟩
theorem RowOk.start (sg:List Str):RowOk sg (sg.map .one):=by
 obtain⟨h1,h2,h3,h4⟩:=x3u sg
 refine⟨h1,?_,?_,?_,y8q sg⟩
 ·rw[h2,List.length_map];omega
 ·rw[h3,List.length_map];omega
 ·rw[h4,List.length_map];exact Nat.le_refl _
theorem RowOk.step {sg:List Str}{row:List Pat}(h:RowOk sg row){a m:Nat}(hm:2≤m)(hl:a+m≤row.length){k:List Pat→Pat}(hk:k=.row∨k=.any){q:Pat}(hq:WrapOk (k ((row.drop a).take m)) q) :
  RowOk sg (row.take a++[q]++row.drop (a+m)):=by
 have e:row=row.take a++((row.drop a).take m++row.drop (a+m)):=by
  rw[←List.drop_drop,List.take_append_drop,List.take_append_drop]
 have e1:z0w row=z0w (row.take a)++(z0w ((row.drop a).take m)++z0w (row.drop (a+m))):=by rw[←z2v,←z2v,←e]
 have e2:szPs row=szPs (row.take a)+(szPs ((row.drop a).take m)+szPs (row.drop (a+m))):=by rw[←z5f,←z5f,←e]
 have e3:dpPs row=max (dpPs (row.take a)) (max (dpPs ((row.drop a).take m)) (dpPs (row.drop (a+m)))):=by rw[←z7y,←z7y,←e]
 have e4:z4m row=z4m (row.take a)+(z4m ((row.drop a).take m)+z4m (row.drop (a+m))):=by rw[←z6e,←z6e,←e]
 have k1:z0o (k ((row.drop a).take m))=z0w ((row.drop a).take m):=by rcases hk with rfl|rfl<;>rfl
 have k2:szP (k ((row.drop a).take m))=1+szPs ((row.drop a).take m):=by rcases hk with rfl|rfl<;>rfl
 have k3:dpP (k ((row.drop a).take m))=dpPs ((row.drop a).take m)+1:=by rcases hk with rfl|rfl<;>rfl
 have k4:lenB (k ((row.drop a).take m))=z4m ((row.drop a).take m):=by rcases hk with rfl|rfl<;>rfl
 have len:(row.take a++[q]++row.drop (a+m)).length=row.length - m+1:=by simp;omega
 obtain⟨s1,s2,s3,s4,s5⟩:=hq
 refine⟨?_,?_,?_,?_,?_⟩
 ·rw[z2v,z2v]
  simp only[z0w,List.append_nil]
  rw[s1,k1,←h.si,e1,List.append_assoc]
 ·rw[len,z5f,z5f]
  simp only[szPs]
  have:=h.sz
  omega
 ·rw[len,z7y,z7y]
  simp only[dpPs]
  have:=h.dp
  omega
 ·rw[len,z6e,z6e]
  simp only[z4m]
  have h1:z4m (row.take a)+(lenB q+0)+z4m (row.drop (a+m))≤3 * z4m row:=by omega
  have h2:3 ^ (row.length - m+1)≤3 ^ (row.length - 1):=Nat.pow_le_pow_right (by decide) (by omega)
  have h3:3 * 3 ^ (row.length - 1)=3 ^ row.length:=by
   rw[Nat.mul_comm,←Nat.pow_succ]
   congr 1
   omega
  calc _≤(3 * z4m row) * 3 ^ (row.length - 1):=Nat.mul_le_mul h1 h2
   _=z4m row * (3 * 3 ^ (row.length - 1)):=by rw[Nat.mul_comm 3,Nat.mul_assoc]
   _=z4m row * 3 ^ row.length:=by rw[h3]
   _≤_:=h.ln
 ·have h0:=h.ok
  rw[e,z8e,z8e,Bool.and_eq_true,Bool.and_eq_true]at h0
  have h1:okP (k ((row.drop a).take m))=true:=by
   have l2:2≤((row.drop a).take m).length:=by rw[List.length_take,List.length_drop];omega
   have l3:(decide (2≤((row.drop a).take m).length)&&okPs ((row.drop a).take m))=true:=by rw[decide_eq_true l2,h0.2.1];rfl
   rcases hk with rfl|rfl
   ·exact l3
   ·exact l3
  rw[z8e,z8e]
  simp[okPs,h0.1,h0.2.2,s5 h1]
theorem pw9:∀n:Nat,n≤9→n * 3 ^ n≤177147:=by decide
theorem x0f {f1 f2:Addr}{fd1 fd2:FuncData}(u1l:Ent K mg "_law_pattern" u1h ["_law_some","_law_draws_here"] f fd)(T:Zs K mg)(u0p:Ent K mg "_law_pop" u3a ["_law_draws_here"] f1 fd1)(u0m:Ent K mg "_law_wrapped" u1g ["_law_pattern_here","_law_number"] f2 fd2):FnOk P w K mg base CX0 2 f fd ["_law_some","_law_draws_here"] (spD y6g):=by
 have u3y:FnOk P w K mg base CX0 1 f1 fd1 _ (spD u7l):=u7y u0p T
 have u4s:FnOk P w K mg base CX0 1 f2 fd2 _ (spD z9y):=x0c u0m T
 refine VL.Fun.dok u1l.F u1r (fun δ Qd h=>?_) (by decide) (fun cdv A outer s H E δ Qd hr h=>?_)
 ·obtain⟨_,_,rfl,_⟩:=h;rfl
 ·obtain⟨sg,ns,rfl,hl,q⟩:=h
  have hu:=z5b hr
  refine⟨_,(z0c (y3u (j:=2) ["_law_sign"] ["_law_some","_law_draws_here","_law_row","_law_number","_law_many_here","_law_at","_law_made"] u1r.nd rfl rfl rfl (show CScopeG (z0b u1h) ["_law_some","_law_draws_here","_law_row","_law_number","_law_many_here","_law_at","_law_made"] ["_law_sign"] _ _ from⟨rfl,by decide +kernel,by decide +kernel,by decide +kernel,by decide +kernel⟩) (z2h (dv 0)) (fun _ _ _ _ _=>(z2b (i:=0) (by decide) (show List.Nodup (["_law_sign","_law_some","_law_draws_here","_law_row","_law_number","_law_many_here","_law_at","_law_made"]:List Str) from by decide +kernel) rfl (Or.inl rfl))) (fun _ _ _ _ _=>z5s) (fun _ _ _ _ _=>(z1o (z0a z0l (z0a (dv 0) z0e)))))
   (z0c (y3l PassesOwn.never (z1f os_gt op_gt (z1q z3x z1d rfl T.z_len PySem.boot_len (pv 2)) z0f (z0u _)) (z0c (z1b (i:=3) u1r.nd rfl (Or.inl rfl) (z5r (i:=1) u3y (hr.mono (by decide)) rfl u0p.g u0p.F.kp u0p.b z0z (da_o (pv 1) y2l)))
   (z0c (z1b (i:=4) u1r.nd rfl (Or.inl rfl) (z0m z2r z2q z0f (z0m z7v z7t (z0m z1l z1k (dv 3) z0f) (z8f cs_int x2q rfl T.z_int PyProof.Rows.boot_int (z0a (y8v os_gt op_gt (z1q z3x z1d rfl T.z_len PySem.boot_len (pv 2)) z0f (z0u _)) z0e)))))
   (z0c (z1b (i:=5) u1r.nd rfl (Or.inl rfl) (z0m z1l z1k (z0m z2d z1r (dv 3) z0f) (z0m z2r z2q (z0m os_sub op_sub (z1q z3x z1d rfl T.z_len PySem.boot_len (pv 2)) (dv 4)) z0f)))
   (z0c (z1b (i:=6) u1r.nd rfl (Or.inl rfl) (z1o (z0a (x3m z4k z2c (z1i (z0a z0l (z0a z0l z0e))) (z0m z1l z1k (z0m z2d z1r (dv 3) z0f) z0f) (fun _ _=>rfl)) (z0a (z1m (pv 2) (z1u (dv 5)) (z1u (z0m z2r z2q (dv 5) (dv 4)))) z0e))))
   (z0h (z1b (i:=2) u1r.nd rfl (Or.inl rfl) (z0m z4r z2y (z0m z4r z2y (z1m (pv 2) z2e (z1u (dv 5))) (z1i (z0a (z0y u4s (hr.mono (by decide)) rfl u0m.g u0m.F.kp u0m.b z0z (z0a (dv 6) (z0a (z0m z2d z1r (dv 3) z0f) z0e))) z0e))) (z1m (pv 2) (z1u (z0m z2r z2q (dv 5) (dv 4))) z2e)))))))))
   (z0c (z1x (y7b (x1u hu) z8i (pv 2) (z1i z0e) (z0u _)) (z0h (z5a (y3b z4i PySem.F.slot_list_append PySem.F.type_list_append z1p (pv 2) (z0a (z1o (z0a z0l z0e)) z0e)))) z0v)
   (z0h (z0r (z0y u4s (hr.mono (by decide)) rfl u0m.g u0m.F.kp u0m.b z0z (z0a (z0t z4k z2c (pv 2) z0f (fun _ _=>rfl)) (z0a (z5r (i:=1) u3y (hr.mono (by decide)) rfl u0p.g u0p.F.kp u0p.b z0z (da_o (pv 1) y2l)) z0e)))))))),?_⟩
  have sz:=z0x
  walk_at "vd"
  refine y1x D.str (fun s=>patD (.one s)) sg (by omega) (fun s hs P hP=>?_) ?_
  ·walk_at "vd"
   exact⟨by omega,hP⟩
  ·walk_at "vd"
   refine⟨[3,4,5,6],fun δ=>∃(row:List Pat) (ms:List Int),RowOk sg row∧δ=[.fz (.lst (sg.map .str)),.ob true (.lst (ms.map .int)),.ob false (.lst (z1z row)),.no,.no,.no,.no],fun δ=>match δ with | [_,_,.ob _ (.lst xs),_,_,_,_]=>xs.length|_=>0,⟨sg.map .one,ns,.start sg,by rw[z2j,List.map_map];rfl⟩,?_⟩
   rintro δ ⟨row,ms,ok,rfl⟩
   have hrl:=y0z row
   have hrs:=z4v row
   have ksz:=ok.sz
   have kdp:=ok.dp
   have kln:=ok.ln
   walk_at "vd"
   refine ite2 (fun h1 x ms=>?_) fun h1=>?_
   ·have x1:=z2k (a:=x) (b:=2) (by decide)
    have x2:=z2l (a:=x) (b:=2) (by decide)
    obtain⟨m,em,hm2,hml⟩:∃m:Nat,(2+x % 2 * if 2<((z1z row).length:Int) then 1 else 0)=(m:Int)∧2≤m∧m≤row.length:=by
     split
     ·exact⟨(2+x % 2 * 1).toNat,by omega,by omega,by omega⟩
     ·exact⟨2,by omega,by omega,by omega⟩
    have cm:CMul (x % 2) (if 2<((z1z row).length:Int) then 1 else 0):=.inl ⟨by omega,by omega⟩
    rw[em]
    have hp:(0:Int)<((z1z row).length:Int) - m+1:=by omega
    have y1:=z2k (a:=x / 2) hp
    have y2:=z2l (a:=x / 2) hp
    obtain⟨a,ea,hal⟩:∃a:Nat,x / 2 % (((z1z row).length:Int) - m+1)=(a:Int)∧a+m≤row.length:=⟨(x / 2 % (((z1z row).length:Int) - m+1)).toNat,by omega,by omega⟩
    rw[ea,cut_mid _ (by omega),z5l]
    have z1:=z2k (a:=x / 32) (b:=2) (by decide)
    have z2:=z2l (a:=x / 32) (b:=2) (by decide)
    have fin:∀(nm:Str) (k:List Pat→Pat),(k=.row∨k=.any)→patD (k ((row.drop a).take m))=.tup [.str nm,.lst (z1z ((row.drop a).take m))]→hold z9y
      (fun b d_1 x_1=>1≤sizeLine∧fCat (D.lst ((z1z row).take a)) (D.lst [d_1]) fun b d_2=>dSlLV 2 (doS (dOp (fI fun i j=>D.int (i+j)) (dVar 5) (dVar 4))) doN
       [Slot.fz (D.lst (List.map D.str sg)),Slot.ob true (D.lst (List.map D.int ms)),Slot.ob false (D.lst (z1z row)),Slot.fz (D.int x),Slot.fz (D.int m),Slot.fz (D.int a),Slot.fz (D.tup [.str nm,D.lst (((z1z row).drop a).take m)])]
       fun x y δ2=>fCat d_2 y fun b d=>setW 2 (rsl b d) δ2 fun δ2 =>
        (∃row ms,RowOk sg row∧(((δ2.set 3 Slot.no).set 4 Slot.no).set 5 Slot.no).set 6 Slot.no=[Slot.fz (D.lst (List.map D.str sg)),Slot.ob true (D.lst (List.map D.int ms)),Slot.ob false (D.lst (z1z row)),Slot.no,Slot.no,Slot.no,Slot.no]) ∧
         (match (((δ2.set 3 Slot.no).set 4 Slot.no).set 5 Slot.no).set 6 Slot.no with
          | [_,_,Slot.ob _ (D.lst xs),_,_,_,_]=>xs.length
          |_=>0)<(z1z row).length) Beh.mk [Slot.fz (D.tup [.str nm,D.lst (((z1z row).drop a).take m)]),Slot.fz (D.int (x / 64))]:=by
     intro nm k hk ek
     have ed:((z1z row).drop a).take m=z1z ((row.drop a).take m):=by rw[z2j,z2j,List.map_take,List.map_drop]
     rw[ed,←ek]
     refine⟨_,x / 64,rfl,fun q hq=>?_⟩
     walk_at "vd"
     rw[show((a:Int)+m)=((a+m:Nat):Int) by omega,z6o]
     have tl:(List.take a (z1z row)).length=a:=by rw[List.length_take];omega
     have tl2:(List.take a (z1z row)++[patD q]++List.drop (a+m) (z1z row)).length=a+1+(row.length - (a+m)):=by rw[List.length_append,List.length_append,tl,List.length_drop,hrl];rfl
     refine⟨by omega,by omega,by rw[←List.length_append,tl2];omega,⟨row.take a++[q]++row.drop (a+m),ms,ok.step hm2 hal hk hq,?_⟩,by rw[tl2];omega⟩
     rw[y4y,y4y]
     simp[z2j,List.map_take,List.map_drop]
    rcases(show x / 32 % 2=0∨x / 32 % 2=1 by omega) with e|e<;>rw[e]
    ·exact⟨by decide,cm,⟨by decide,by decide⟩,hp,by omega,⟨by decide,by decide⟩,by decide,_,atI0,by omega,⟨by decide,by decide⟩,fin _ .row (.inl rfl) rfl⟩
    ·exact⟨by decide,cm,⟨by decide,by decide⟩,hp,by omega,⟨by decide,by decide⟩,by decide,_,atI1,by omega,⟨by decide,by decide⟩,fin _ .any (.inr rfl) rfl⟩
   ·refine⟨by omega,?_⟩
    cases row with
    |nil =>
     refine iteT ⟨by omega,by simp[z1z];omega,_,atI0,fun x ms=>⟨.none,x,rfl,fun q' hq=>?_⟩⟩
     obtain⟨s1,s2,s3,s4,s5⟩:=hq
     exact q q' ms (by rw[s1];exact ok.si) (by simp only[szP]at s2;omega) (by simp only[dpP]at s3;omega) (by simp only[lenB]at s4;omega) (s5 rfl)
    |cons p r =>
     have er:r=[]:=by
      have:(p::r).length≤1:=by omega
      simpa using this
     subst er
     refine iteF ⟨_,atI0,fun x ms=>⟨p,x,rfl,fun q' hq=>?_⟩⟩
     obtain⟨s1,s2,s3,s4,s5⟩:=hq
     have e1:=ok.si
     have b9:=pw9 sg.length hl
     simp only[z0w,List.append_nil]at e1
     simp only[szPs,List.length_cons,List.length_nil]at ksz
     simp only[dpPs,List.length_cons,List.length_nil]at kdp
     simp only[z4m,List.length_cons,List.length_nil]at kln
     exact q q' ms (by rw[s1];exact e1) (by omega) (by omega) (by omega) (s5 (by simpa[okPs] using ok.ok))
end
open PySem L2 VL Pap
section
variable {P:Program}{w:World}{K:PySem.W.Frag}{mg:Str→Option Value}{base:Heap}{f:Addr}{fd:FuncData}
def y9j:RD:=fun δ Q=>∃(zs:List Str) (n:Int),δ=[.fz (.lst (zs.map .str)),.fz (.int n)]∧zs.length≤8∧zs.Nodup∧("#":Str)∉zs ∧
 ∀us:List Str,us.Nodup→us.length≤9→(∀u∈us,u = "#" ∨ u∈zs)→∀b,Q b (.lst (us.map .str)) [.no,.no]
theorem x2p (u1z:Ent K mg "_law_signs" u1x ["_law_names","_law_number"] f fd)(T:Zs K mg):FnOk P w K mg base CX0 1 f fd ["_law_names","_law_number"] (spD y9j):=by
 refine VL.Fun.dok u1z.F u3x (fun δ Qd h=>?_) (by decide) (fun cdv A outer s H E δ Qd hr h=>?_)
 ·obtain⟨_,_,rfl,_⟩:=h;rfl
 ·obtain⟨zs,n,rfl,hl,nd,nh,q⟩:=h
  refine⟨_,(z0c (y3u (j:=2) ["_law_j","_law_name_here"] ["_law_names","_law_number","_law_some","_law_at"] u3x.nd rfl rfl rfl (show CScopeG (z0b u1x) ["_law_names","_law_number","_law_some","_law_at"] ["_law_j","_law_name_here"] _ _ from⟨rfl,by decide +kernel,by decide +kernel,by decide +kernel,by decide +kernel⟩) (di_enum rfl T.z_enumerate (z0a (dv 0) z0e)) (fun _ _ _ _ _=>(y6p (m:=2) rfl (z5m (z2b (i:=0) (by decide) (show List.Nodup (["_law_j","_law_name_here","_law_names","_law_number","_law_some","_law_at"]:List Str) from by decide +kernel) rfl (Or.inl rfl)) (z5m (z2b (i:=1) (by decide) (show List.Nodup (["_law_j","_law_name_here","_law_names","_law_number","_law_some","_law_at"]:List Str) from by decide +kernel) rfl (Or.inl rfl)) y4c)))) (fun _ _ _ _ _=>(df_one (z1f y5r y4a (z0m z1l z1k (z0m z2d z1r (dv 3) (z0m z2r z2q (dv 0) z0f)) z0f) z0f (z0u _)))) (fun _ _ _ _ _=>(dv 1)))
   (z0c (z1x (z1f z4q z3c (z0m z1l z1k (z0m z2d z1r (dv 1) z0f) z0f) z0f (z0u _)) (z0h (z5a (y3b z4i PySem.F.slot_list_append PySem.F.type_list_append z1p (pv 2) (z0a z0l z0e)))) z0v)
   (z0c (z1b (i:=3) u3x.nd rfl (Or.inl rfl) (z0m z1l z1k (z0m z2d z1r (dv 1) z0f) (z0m z2r z2q (z1q z3x z1d rfl T.z_len PySem.boot_len (pv 2)) z0f)))
   (z0c (z1b (i:=2) u3x.nd rfl (Or.inl rfl) (z0m z4r z2y (z1m (pv 2) (z1u (dv 3)) z2e) (z1m (pv 2) z2e (z1u (dv 3)))))
   (z0c (z1x (z1f z4q z3c (z0m z1l z1k (z0m z2d z1r (dv 1) z0f) z0f) z0f (z0u _)) (z0h (z0r (x3k (dv 2)))) z0v)
   (z0h (z0r (dm 2)))))))),?_⟩
  have sz:=z0x
  walk_at "vd"
  refine⟨fun r acc δ1=>δ1=[.fz (.lst (zs.map .str)),.fz (.int n),.no,.no]∧∃pre suf us,zs=pre++suf∧r=y0t pre.length (suf.map .str)∧acc=us.map D.str∧us.Sublist pre,⟨rfl,[],zs,[],rfl,rfl,rfl,.refl _⟩,?_,?_⟩
  ·rintro d r acc δ1 ⟨rfl,pre,suf,us,e1,e2,rfl,e3⟩
   cases suf with
   |nil=>cases e2
   |cons z suf =>
    cases e2
    walk_at "vd"
    have hpl:pre.length<8:=by rw[e1]at hl;simp at hl;omega
    have hus:us.length≤pre.length:=e3.length_le
    refine⟨⟨by omega,Nat.lt_of_le_of_lt (Nat.log2_le_self _) (by omega)⟩,by decide,ite2 (fun _=>⟨by simp;omega,pre++[z],suf,us++[z],by simp[e1],by simp,by simp,e3.append (.refl _)⟩) fun _=>⟨pre++[z],suf,us,by simp[e1],by simp,rfl,e3.trans (List.sublist_append_left _ _)⟩⟩
  ·rintro acc δ1 ⟨rfl,pre,suf,us,e1,e2,rfl,e3⟩
   cases suf with
   |cons z suf=>cases e2
   |nil =>
    rw[List.append_nil]at e1
    subst e1
    have fin:∀vs:List Str,vs.Nodup→vs.length≤9→(∀u∈vs,u = "#" ∨ u∈zs)→((0:Int)<14∧(Int.natAbs 14).log2<9000) ∧
     0<((vs.map D.str).length:Int)+1 ∧
      (cutD (vs.map D.str) (some (n / 14 % (((vs.map D.str).length:Int)+1))) none).length+(cutD (vs.map D.str) none (some (n / 14 % (((vs.map D.str).length:Int)+1)))).length≤sizeLine ∧
       ((0:Int)<1009∧(Int.natAbs 1009).log2<9000)∧(0:Int)<2 ∧
         if n / 1009 % 2=0 then Qd true (D.lst (cutD (vs.map D.str) (some (n / 14 % (((vs.map D.str).length:Int)+1))) none++cutD (vs.map D.str) none (some (n / 14 % (((vs.map D.str).length:Int)+1)))).reverse) [Slot.no,Slot.no]
         else Qd true (D.lst (cutD (vs.map D.str) (some (n / 14 % (((vs.map D.str).length:Int)+1))) none++cutD (vs.map D.str) none (some (n / 14 % (((vs.map D.str).length:Int)+1))))) [Slot.no,Slot.no]:=by
     intro vs h1 h2 h3
     have hp:(0:Int)<((vs.map D.str).length:Int)+1:=by omega
     have y1:=z2k (a:=n / 14) hp
     have y2:=z2l (a:=n / 14) hp
     obtain⟨a,ea⟩:∃a:Nat,n / 14 % (((vs.map D.str).length:Int)+1)=(a:Int):=⟨_,(Int.toNat_of_nonneg y1).symm⟩
     rw[ea,z6o,z5l,←List.map_drop,←List.map_take,←List.map_append,←List.map_reverse]
     have hn:(vs.drop a++vs.take a).Nodup:=by rw[List.perm_append_comm.nodup_iff,List.take_append_drop];exact h1
     have hlen:(vs.drop a++vs.take a).length≤9:=by simp;omega
     have hm:∀u∈vs.drop a++vs.take a,u = "#" ∨ u∈zs:=fun u hu=>h3 u (by
      rcases List.mem_append.mp hu with z|z
      ·exact List.mem_of_mem_drop z
      ·exact List.mem_of_mem_take z)
     refine⟨⟨by decide,by decide⟩,hp,by simp;omega,⟨by decide,by decide⟩,by decide,ite2 (fun _=>?_) fun _=>?_⟩
     ·exact q _ ((List.reverse_perm _).nodup_iff.mpr hn) (by rw[List.length_reverse];exact hlen) (fun u hu=>hm u (List.mem_reverse.mp hu)) _
     ·exact q _ hn hlen hm _
    walk_at "vd"
    have hus:=e3.length_le
    have und:=e3.nodup nd
    have usub:=e3.subset
    refine⟨⟨by decide,by decide⟩,by decide,ite2 (fun _=>⟨by simp;omega,?_⟩) fun _=>?_⟩
    ·have:=fin (us++[("#":Str)]) (by
      rw[List.nodup_append]
      exact⟨und,by simp,fun a ha b hb=>by simp at hb;subst hb;intro z;subst z;exact nh (usub ha)⟩) (by simp;omega) (fun u hu=>by
      rcases List.mem_append.mp hu with z|z
      ·exact .inr (usub z)
      ·exact .inl (by simpa using z))
     rw[List.map_append]at this
     exact this
    ·exact fin us und (by omega) fun u hu=>.inr (usub hu)
def z3g (root:Str)(rules:List (Str×Pat)):D:=.tup [.str root,.lst (rules.map fun r=>.tup [.str r.1,patD r.2])]
structure PatOk (zs:List Str)(p:Pat):Prop where
 nd:(z0o p).Nodup
 sg:∀s∈z0o p,s = "#" ∨ s∈zs
 sz:szP p≤50
 dp:dpP p≤20
 ln:lenB p≤200000
 ok:okP p=true
theorem z8g {x:Str}{l u:Option Int}{c:Nat}(h:c∈(Txt.slice x l u).cps.toList):c∈x.cps.toList:=by
 unfold Txt.slice at h
 split at h
 ·exact h
 ·simp only[List.mem_filterMap]at h
  obtain⟨i,_,hi⟩:=h
  exact Array.mem_toList_iff.mpr (Array.mem_of_getElem? hi)
def AbcS (s:Str):Prop:=s.length≤20∧s.cps.toList≠[]∧∀c∈s.cps.toList,97≤c∧c≤122
theorem x3t (k n:Int):AbcS (z7f k n):=by
 have m1:=z2k (a:=n) (b:=5) (by decide)
 have m2:=z2l (a:=n) (b:=5) (by decide)
 have hb:(z5c n).length≤5:=by
  have:=PySem.W.KT.join_ones ((List.range (n % 5).toNat).map fun(k:Nat)=>(⟨#[letF (n / 150+(k:Int) * k)]⟩:Str)) (fun t ht=>by obtain⟨k,_,rfl⟩:=List.mem_map.mp ht;rfl)
  have e:(z5c n).length=_:=this
  simp at e
  omega
 have hm:∀c∈(z5c n).cps.toList,97≤c∧c≤122:=fun c hc=>by
  have eb:z5c n=⟨((List.range (n % 5).toNat).map fun(k:Nat)=>letF (n / 150+(k:Int) * k)).toArray⟩:=by
   rw[←PyProof.Rows.join_ones,←StrLaws.glued_eq_join,List.map_map];rfl
  rw[eb]at hc
  obtain⟨k,_,rfl⟩:=List.mem_map.mp (show c∈(List.range (n % 5).toNat).map fun(k:Nat)=>letF (n / 150+(k:Int) * k) by simpa using hc)
  exact y6q _
 have g1:=Txt.slice_le (z5c n) none (some (atF n))
 have g2:=Txt.slice_le (z5c n) (some (atF n)) none
 have l1:(⟨#[letF (k+n)]⟩:Str).length=1:=rfl
 refine⟨?_,?_,fun c hc=>?_⟩
 ·unfold z7f
  rw[Str.len_app,Str.len_app]
  omega
 ·rw[z7k];simp
 ·rw[z7k]at hc
  rcases List.mem_append.mp hc with hc|hc
  ·exact hm c (z8g hc)
  ·rcases List.mem_cons.mp hc with rfl|hc
   ·exact y6q _
   ·exact hm c (z8g hc)
structure FormOk (root:Str)(rules:List (Str×Pat)):Prop where
 len:rules.length≤8
 nl:∀s∈rules.map (·.1),AbcS s
 nd:(rules.map (·.1)).Nodup
 root:root∈rules.map (·.1)
 pat:∀r∈rules,PatOk (rules.map (·.1)) r.2
def u8b (K:PySem.W.Frag):RD:=fun δ Q=>∃(ns:List Int) (t m:Nat),δ=[.sc K ns,.fz (.int t),.fz (.int m)]∧t≤500∧1≤m∧m≤8∧∀root rules,FormOk root rules→Q false (z3g root rules) [.no,.no,.no]
theorem u9h {f1 f2 f3 f4 f5 f6:Addr}{fd1 fd2 fd3 fd4 fd5 fd6:FuncData}(u3h:Ent K mg "_law_form" u2v ["_law_script","_law_turn","_law_many_here"] f fd)(T:Zs K mg)(u0p:Ent K mg "_law_pop" u3a ["_law_draws_here"] f1 fd1)(u0m:Ent K mg "_law_wrapped" u1g ["_law_pattern_here","_law_number"] f2 fd2)(u1l:Ent K mg "_law_pattern" u1h ["_law_some","_law_draws_here"] f3 fd3)(u1a:Ent K mg "_law_draws" u1w ["_law_script","_law_turn","_law_many_here"] f4 fd4)(u3i:Ent K mg "_law_name" u2n ["_law_k","_law_draw"] f5 fd5)(u1z:Ent K mg "_law_signs" u1x ["_law_names","_law_number"] f6 fd6) :
  FnOk P w K mg base CX0 3 f fd ["_law_script","_law_turn","_law_many_here"] (spD (u8b K)):=by
 have u3y:FnOk P w K mg base CX0 1 f1 fd1 _ (spD u7l):=u7y u0p T
 have u5b:FnOk P w K mg base CX0 2 f3 fd3 _ (spD y6g):=x0f u1l T u0p u0m
 have u4m:FnOk P w K mg base CX0 1 f4 fd4 _ (spD (y7n K)):=y9k u1a T
 have u5s:FnOk P w K mg base CX0 1 f5 fd5 _ (spD x3y):=u9g u3i T
 have u5o:FnOk P w K mg base CX0 1 f6 fd6 _ (spD y9j):=x2p u1z T
 refine VL.Fun.dok u3h.F u2x (fun δ Qd h=>?_) (by decide) (fun cdv A outer s H E δ Qd hr h=>?_)
 ·obtain⟨_,_,_,rfl,_⟩:=h;rfl
 ·obtain⟨ns,t,m,rfl,ht,hm1,hm2,q⟩:=h
  refine⟨_,(z0c (z1b (i:=3) u2x.nd rfl (Or.inl rfl) (z9m u4m (hr.mono (by decide)) rfl u1a.g u1a.F.kp u1a.b z0z (pv 0) (z0a (dv 1) (z0a (z0m z2r z2q (z0m z7v z7t z0f (dv 2)) z0f) z0e))))
   (z0c (z1b (i:=4) u2x.nd rfl (Or.inr rfl) (z5r (i:=3) u3y (hr.mono (by decide)) rfl u0p.g u0p.F.kp u0p.b z0z (da_o (pv 3) y2l)))
   (z0c (y3u (j:=5) ["_law_k"] ["_law_script","_law_turn","_law_many_here","_law_draws_here","_law_first","_law_names","_law_rules","_law_name_here","_law_at"] u2x.nd rfl rfl rfl (show CScopeG (z0b u2v) ["_law_script","_law_turn","_law_many_here","_law_draws_here","_law_first","_law_names","_law_rules","_law_name_here","_law_at"] ["_law_k"] _ _ from⟨rfl,by decide +kernel,by decide +kernel,by decide +kernel,by decide +kernel⟩) (z5p rfl T.z_range (z0a (dv 2) z0e)) (fun _ _ _ _ _=>(z2b (i:=0) (by decide) (show List.Nodup (["_law_k","_law_script","_law_turn","_law_many_here","_law_draws_here","_law_first","_law_names","_law_rules","_law_name_here","_law_at"]:List Str) from by decide +kernel) rfl (Or.inl rfl))) (fun _ _ _ _ _=>z5s) (fun _ _ _ _ _=>(z0y u5s (hr.mono (by decide)) rfl u3i.g u3i.F.kp u3i.b z0z (z0a (dv 0) (z0a (dv 5) z0e)))))
   (z0c (z1b (i:=6) u2x.nd rfl (Or.inl rfl) (z1i z0e))
   (z0c (z5h PassesOwn.never rfl (z2h (dv 5)) (z2f (i:=7) u2x.nd rfl (Or.inl rfl)) (z0h (z5a (y3b z4i PySem.F.slot_list_append PySem.F.type_list_append z1p (pv 6) (z0a (z1o (z0a (dv 7) (z0a (z5r (i:=3) u5b (hr.mono (by decide)) rfl u1l.g u1l.F.kp u1l.b z0z (da_v (z0y u5o (hr.mono (by decide)) rfl u1z.g u1z.F.kp u1z.b z0z (z0a (dv 5) (z0a (z5r (i:=3) u3y (hr.mono (by decide)) rfl u0p.g u0p.F.kp u0p.b z0z (da_o (pv 3) y2l)) z0e))) (da_o (pv 3) y2l))) z0e))) z0e)))))
   (z0c (z1b (i:=8) u2x.nd rfl (Or.inl rfl) (z0m z1l z1k (z0m z2d z1r (dv 4) z0f) (dv 2)))
   (z0h (z0r (z1o (z0a (z0t z4k z2c (pv 5) (z0m z1l z1k (z5r (i:=3) u3y (hr.mono (by decide)) rfl u0p.g u0p.F.kp u0p.b z0z (da_o (pv 3) y2l)) (dv 2)) (fun _ _=>rfl)) (z0a (z0m z4r z2y (z1m (pv 6) (z1u (dv 8)) z2e) (z1m (pv 6) z2e (z1u (dv 8)))) z0e))))))))))),?_⟩
  have sz:=z0x
  walk_at "vd"
  refine⟨.inl ⟨by decide,by decide⟩,ns,t,14 * m+2,by congr 3,by omega,by omega,fun ms hms=>?_⟩
  walk_at "vd"
  intro x ms1
  refine⟨by omega,by omega,?_⟩
  rw[Int.toNat_natCast,y9i]
  refine y1x (fun k:Nat=>D.int (k:Int)) (fun k:Nat=>.str (z7f k x)) (List.range m) (by simp;omega) (fun k hk P hP=>?_) ?_
  ·walk_at "vd"
   exact⟨_,_,rfl,hP⟩
  ·have ez:(List.range m).map (fun k:Nat=>D.str (z7f k x))=((List.range m).map fun k:Nat=>z7f k x).map D.str:=by rw[List.map_map];rfl
   rw[ez]
   have hz1:((List.range m).map fun k:Nat=>z7f k x).length=m:=by simp
   have hz2:((List.range m).map fun k:Nat=>z7f k x).Nodup:=by
    unfold List.Nodup
    rw[List.pairwise_map]
    refine List.Pairwise.imp_of_mem (fun {a b} ha hb hne e=>hne ?_) List.nodup_range
    have h1:=x2b e
    have h2:=List.mem_range.mp ha
    have h3:=List.mem_range.mp hb
    omega
   have hz3:("#":Str)∉(List.range m).map fun k:Nat=>z7f k x:=fun h=>by
    obtain⟨k,_,e⟩:=List.mem_map.mp h
    exact nameF_ne _ _ e
   have hz4:∀s∈(List.range m).map fun k:Nat=>z7f k x,AbcS s:=fun s h=>by
    obtain⟨k,_,rfl⟩:=List.mem_map.mp h
    exact x3t _ _
   generalize (List.range m).map (fun k:Nat=>z7f k x)=zs at hz1 hz2 hz3 hz4 ⊢
   walk_at "vd"
   refine⟨by omega,z9z [7] (fun r δ=>∃(pre suf:List Str) (rules:List (Str×Pat)) (ms:List Int),zs=pre++suf∧r=suf.map .str∧rules.map (·.1)=pre∧(∀r∈rules,PatOk zs r.2) ∧
    δ=[.sc K ns,.fz (.int t),.fz (.int m),.ob false (.lst (ms.map .int)),.fz (.int x),.fz (.lst (zs.map .str)),.ob false (.lst (rules.map fun r=>.tup [.str r.1,patD r.2])),.no,.no]) ⟨[],zs,[],ms1,rfl,rfl,rfl,(fun r hr=>by cases hr),rfl⟩ ?_ ?_⟩
   ·rintro d r δ ⟨pre,suf,rules,ms2,e1,e2,e3,ok,rfl⟩
    cases suf with
    |nil=>cases e2
    |cons z suf =>
     cases e2
     walk_at "vd"
     intro x1 ms3
     refine⟨zs,x1,rfl,by omega,hz2,hz3,fun us u1 u2 u3 b=>?_⟩
     walk_at "vd"
     refine⟨us,ms3,rfl,u2,fun p ms4 p1 p2 p3 p4 p5=>?_⟩
     walk_at "vd"
     have hlr:rules.length≤8:=by
      have:=congrArg List.length e3
      rw[List.length_map]at this
      rw[e1,List.length_append]at hz1
      omega
     refine⟨by omega,by simp;omega,pre++[z],suf,rules++[(z,p)],ms4,by simp[e1],rfl,by simp[e3],fun r hr=>?_,by simp⟩
     rcases List.mem_append.mp hr with h|h
     ·exact ok r h
     ·simp at h;subst h;exact⟨by rw[p1];exact u1,fun s hs=>u3 s (by rw[←p1];exact hs),p2,p3,p4,p5⟩
   ·rintro δ ⟨pre,suf,rules,ms2,e1,e2,e3,ok,rfl⟩
    cases suf with
    |cons z suf=>cases e2
    |nil =>
     rw[List.append_nil]at e1
     subst e1
     walk_at "vd"
     have hm0:(0:Int)<(m:Int):=by omega
     refine⟨⟨by decide,by decide⟩,hm0,fun x1 ms3=>⟨hm0,?_⟩⟩
     have y1:=z2k (a:=x / 7) hm0
     have y2:=z2l (a:=x / 7) hm0
     obtain⟨a,ea⟩:∃a:Nat,x / 7 % (m:Int)=(a:Int):=⟨_,(Int.toNat_of_nonneg y1).symm⟩
     rw[ea,z6o,z5l,←List.map_drop,←List.map_take,←List.map_append]
     have hlr:rules.length=zs.length:=by rw[←e3,List.length_map]
     obtain⟨d,hd,ed⟩:=z8y (xs:=zs.map D.str) (z2k (a:=x1) hm0) (by rw[List.length_map,hz1];exact z2l hm0)
     obtain⟨root,hr,rfl⟩:=List.mem_map.mp hd
     have pm:(rules.drop a++rules.take a).Perm rules:=by
      have:=List.perm_append_comm (l₁:=rules.drop a) (l₂:=rules.take a)
      rwa [List.take_append_drop]at this
     refine⟨_,ed,by simp;omega,by omega,q root _ ⟨by rw[pm.length_eq];omega,(fun s hs=>hz4 s (by rw[(pm.map _).mem_iff,e3]at hs;exact hs)),?_,?_,fun r hr=>?_⟩⟩
     ·rw[(pm.map _).nodup_iff,e3];exact hz2
     ·rw[(pm.map _).mem_iff,e3];exact hr
     ·have o:=ok r (pm.mem_iff.mp hr)
      refine⟨o.nd,fun s hs=>?_,o.sz,o.dp,o.ln,o.ok⟩
      rw[(pm.map _).mem_iff,e3]
      exact o.sg s hs
end
open PySem L2 VL
abbrev Cs:=List Nat
def csS (x:Str):Cs:=x.cps.toList
def isL (c:Nat):Bool:=decide (97≤c)&&decide (c≤122)
def isNm (s:Cs):Bool:=decide (s≠[])&&s.all isL
def mkC:Wk→Nat
 |.maybe=>63
 |.many=>42
 |.some=>43
inductive Kn2 where|row|any|other
def z6a:Pat→Bool
 |.row _=>true
 |.any _=>true
 |_=>false
def z7x:Pat→Bool
 |.any _=>true
 |_=>false
def z4a (sep:Cs):List Cs→Cs
 | []=>[]
 | [x]=>x
 |x::y::r=>x++sep++z4a sep (y::r)
def brk (b:Bool)(s:Cs):Cs:=if b=true then 40::(s++[41]) else s
mutual
def txt:Pat→Cs
 |.none=>[45]
 |.one s=>csS s
 |.row ps=>z4a [32] (txtA ps)
 |.any ps=>z4a [32,124,32] (txtB ps)
 |.wrap k p=>brk (z6a p) (txt p)++[mkC k]
def txtA:List Pat→List Cs
 | []=>[]
 |p::ps=>brk (z6a p) (txt p)::txtA ps
def txtB:List Pat→List Cs
 | []=>[]
 |p::ps=>brk (z7x p) (txt p)::txtB ps
end
def brkT (b:Bool)(s:List Cs):List Cs:=if b=true then[40]::(s++[[41]]) else s
mutual
def tks:Pat→List Cs
 |.none=>[[45]]
 |.one s=>[csS s]
 |.row ps=>tksA ps
 |.any ps=>tksB ps
 |.wrap k p=>brkT (z6a p) (tks p)++[[mkC k]]
def tksA:List Pat→List Cs
 | []=>[]
 |p::ps=>brkT (z6a p) (tks p)++tksA ps
def tksB:List Pat→List Cs
 | []=>[]
 | [p]=>brkT (z7x p) (tks p)
 |p::q::ps=>brkT (z7x p) (tks p)++[124]::tksB (q::ps)
end
mutual
def okT:Pat→Bool
 |.none=>true
 |.one s=>decide (csS s=[35])||isNm (csS s)
 |.row ps=>decide (2≤ps.length)&&okTs ps
 |.any ps=>decide (2≤ps.length)&&okTs ps
 |.wrap _ p=>okT p
def okTs:List Pat→Bool
 | []=>true
 |p::ps=>okT p&&okTs ps
end
def z4t:Nat→Cs→List Cs
 |0,_=>[]
 |_+1,[]=>[]
 |n+1,c::r=>if isL c=true then(c::r.takeWhile isL)::z4t n (r.dropWhile isL) else[c]::z4t n r
def tok (s:Cs):List Cs:=(z4t s.length s).filter fun t=>decide (t≠[32])
theorem z3y {n:Nat}{c:Nat}{r:Cs}:z4t (n+1) (c::r)=if isL c=true then(c::r.takeWhile isL)::z4t n (r.dropWhile isL) else[c]::z4t n r:=rfl
theorem z5v:∀(n m:Nat) (s:Cs),s.length≤n→s.length≤m→z4t n s=z4t m s
 |0,0,_,_,_=>rfl
 |0,m+1,[],_,_=>rfl
 |n+1,0,[],_,_=>rfl
 |0,m+1,c::r,h,_=>by simp at h
 |n+1,0,c::r,_,h=>by simp at h
 |n+1,m+1,[],_,_=>rfl
 |n+1,m+1,c::r,h1,h2=>by
  simp only[List.length_cons]at h1 h2
  have hd:(r.dropWhile isL).length≤r.length:=(List.dropWhile_sublist _).length_le
  unfold z4t
  rw[z5v n m (r.dropWhile isL) (by omega) (by omega),z5v n m r (by omega) (by omega)]
theorem z6x {c:Nat}{r:Cs}(h:isL c=false)(hs:c≠32):tok (c::r)=[c]::tok r:=by
 unfold tok
 rw[List.length_cons,z3y,if_neg (by simp[h]),List.filter_cons_of_pos (by simp[hs])]
theorem tok_sp {r:Cs}:tok (32::r)=tok r:=by
 unfold tok
 rw[List.length_cons,z3y,if_neg (by decide),List.filter_cons_of_neg (by simp)]
def Nl (r:Cs):Prop:=∀c,r.head? = some c→isL c=false
theorem Nl.cons {c:Nat}{r:Cs}(h:isL c=false):Nl (c::r):=fun d e=>by simp at e;subst e;exact h
theorem Nl.nil:Nl []:=fun d e=>by simp at e
theorem tok_nm {s r:Cs}(h:isNm s=true)(hr:Nl r):tok (s++r)=s::tok r:=by
 unfold isNm at h
 simp only[Bool.and_eq_true,decide_eq_true_eq,List.all_eq_true]at h
 obtain⟨h1,h2⟩:=h
 cases s with
 |nil=>exact absurd rfl h1
 |cons c s =>
  have hc:=h2 c List.mem_cons_self
  have hs:∀x∈s,isL x=true:=fun x hx=>h2 x (List.mem_cons_of_mem _ hx)
  have t1:(s++r).takeWhile isL=s:=by
   rw[List.takeWhile_append_of_pos hs]
   have:r.takeWhile isL=[]:=by
    cases r with
    |nil=>rfl
    |cons d r=>rw[List.takeWhile_cons,if_neg (by rw[hr d rfl];simp)]
   rw[this,List.append_nil]
  have t2:(s++r).dropWhile isL=r:=by
   rw[List.dropWhile_append_of_pos hs]
   cases r with
   |nil=>rfl
   |cons d r=>rw[List.dropWhile_cons,if_neg (by rw[hr d rfl];simp)]
  unfold tok
  have c32:c≠32:=fun z=>by subst z;exact absurd hc (by decide)
  rw[List.cons_append,List.length_cons,z3y,if_pos hc,t1,t2,List.filter_cons_of_pos (by simp[c32]),z5v (s++r).length r.length r (by simp) (Nat.le_refl _)]
theorem y1l {b:Bool}{s:Cs}{ts:List Cs}{r:Cs}(h:∀r,Nl r→tok (s++r)=ts++tok r)(hr:Nl r):tok (brk b s++r)=brkT b ts++tok r:=by
 unfold brk brkT
 cases b with
 |false=>rw[if_neg (by simp),if_neg (by simp)];exact h r hr
 |true =>
  rw[if_pos rfl,if_pos rfl,List.cons_append,z6x (by decide) (by decide),List.append_assoc,h ([41]++r) (Nl.cons (by decide)),List.singleton_append,z6x (by decide) (by decide)]
  simp
mutual
theorem z8w:∀(p:Pat),okT p=true→∀r,Nl r→tok (txt p++r)=tks p++tok r
 |.none,_,r,hr=>by rw[txt,tks,List.singleton_append,z6x (by decide) (by decide)];rfl
 |.one s,h,r,hr=>by
  rw[txt,tks]
  simp only[okT,Bool.or_eq_true,decide_eq_true_eq]at h
  rcases h with h|h
  ·rw[h,List.singleton_append,z6x (by decide) (by decide)];rfl
  ·exact tok_nm h hr
 |.row ps,h,r,hr=>by
  simp only[okT,Bool.and_eq_true]at h
  rw[txt,tks];exact y8c ps h.2 r hr
 |.any ps,h,r,hr=>by
  simp only[okT,Bool.and_eq_true]at h
  rw[txt,tks];exact y8o ps h.2 r hr
 |.wrap k p,h,r,hr=>by
  simp only[okT]at h
  have hm:isL (mkC k)=false∧mkC k≠32:=by cases k<;>decide
  rw[txt,tks,List.append_assoc,y1l (r:=[mkC k]++r) (z8w p h) (Nl.cons hm.1),List.singleton_append,z6x hm.1 hm.2]
  simp
theorem y8c:∀(ps:List Pat),okTs ps=true→∀r,Nl r→tok (z4a [32] (txtA ps)++r)=tksA ps++tok r
 | [],_,r,hr=>rfl
 | [p],h,r,hr=>by
  simp only[okTs,Bool.and_eq_true]at h
  simp only[txtA,tksA,z4a,List.append_nil]
  exact y1l (z8w p h.1) hr
 |p::q::ps,h,r,hr=>by
  rw[okTs,Bool.and_eq_true]at h
  have ih:=y8c (q::ps) h.2 r hr
  rw[tksA,List.append_assoc,←ih,txtA]
  show tok (z4a [32] (brk (z6a p) (txt p)::brk (z6a q) (txt q)::txtA ps)++r)=_
  rw[z4a,List.append_assoc,List.append_assoc,y1l (r:=[32]++(z4a [32] (brk (z6a q) (txt q)::txtA ps)++r)) (z8w p h.1) (Nl.cons (by decide)),List.singleton_append,tok_sp]
  rfl
theorem y8o:∀(ps:List Pat),okTs ps=true→∀r,Nl r→tok (z4a [32,124,32] (txtB ps)++r)=tksB ps++tok r
 | [],_,r,hr=>rfl
 | [p],h,r,hr=>by
  simp only[okTs,Bool.and_eq_true]at h
  simp only[txtB,tksB,z4a]
  exact y1l (z8w p h.1) hr
 |p::q::ps,h,r,hr=>by
  rw[okTs,Bool.and_eq_true]at h
  have ih:=y8o (q::ps) h.2 r hr
  rw[tksB,List.append_assoc,List.cons_append,←ih,txtB]
  show tok (z4a [32,124,32] (brk (z7x p) (txt p)::brk (z7x q) (txt q)::txtB ps)++r)=_
  rw[z4a,List.append_assoc,List.append_assoc,y1l (r:=[32,124,32]++(z4a [32,124,32] (brk (z7x q) (txt q)::txtB ps)++r)) (z8w p h.1) (Nl.cons (by decide))]
  rw[show([32,124,32]:Cs)++(z4a [32,124,32] (brk (z7x q) (txt q)::txtB ps)++r)=32::124::32::(z4a [32,124,32] (brk (z7x q) (txt q)::txtB ps)++r) from rfl,tok_sp,z6x (by decide) (by decide),tok_sp]
  rfl
end
open PySem L2 VL
abbrev Rws:=List (List Pat)
def gath (mk:List Pat→Pat):List Pat→Option Pat
 | []=>none
 | [p]=>some p
 |p::q::r=>some (mk (p::q::r))
def z8u:Rws→Option (List Pat)
 | []=>some []
 |r::rs=>(gath .row r).bind fun p=>(z8u rs).map fun ps=>p::ps
def z6l (rows:Rws):Option Pat:=(z8u rows).bind (gath .any)
def y5q (rows:Rws):List Pat:=rows.getLastD []
def addL (rows:Rws)(p:Pat):Rws:=rows.dropLast++[y5q rows++[p]]
def wkOf (t:Cs):Option Wk:=if t=[63] then some .maybe else if t=[42] then some .many else if t=[43] then some .some else none
def layR (st:List Rws×Rws)(t:Cs):Option (List Rws×Rws) :=
 if t=[40] then some (st.2::st.1,[[]])
 else if t=[41] then(z6l st.2).bind fun p=>match st.1 with
  | []=>none
  |r0::k=>some (k,addL r0 p)
 else if t=[124] then some (st.1,st.2++[[]])
 else match wkOf t,(y5q st.2).getLast? with
  |some w,some p=>some (st.1,st.2.dropLast++[(y5q st.2).dropLast++[.wrap w p]])
  |_,_=>if t=[45] then some (st.1,addL st.2 .none)
   else if t=[35]∨isNm t=true then some (st.1,addL st.2 (.one ⟨t.toArray⟩))
   else none
def runR:List Cs→List Rws×Rws→Option (List Rws×Rws)
 | [],st=>some st
 |t::ts,st=>(layR st t).bind (runR ts)
theorem z5w:∀(a b:List Cs) (st:List Rws×Rws),runR (a++b) st=(runR a st).bind (runR b)
 | [],b,st=>rfl
 |t::a,b,st=>by
  rw[List.cons_append,runR,runR]
  cases layR st t with
  |none=>rfl
  |some s=>exact z5w a b s
theorem y5i (rs:Rws)(r:List Pat):y5q (rs++[r])=r:=by simp[y5q]
theorem z6s (rs:Rws)(r:List Pat)(p:Pat):addL (rs++[r]) p=rs++[r++[p]]:=by simp[addL,y5q]
def els:Pat→List Pat
 |.row ps=>ps
 |p=>[p]
def z5j:Pat→Rws
 |.any ps=>ps.map els
 |.row ps=>[ps]
 |p=>[[p]]
def glue (r:List Pat):Rws→Rws
 | []=>[]
 |x::xs=>(r++x)::xs
theorem y8e {p:Pat}(h:okT p=true):gath .row (els p)=some p:=by
 cases p with
 |row ps =>
  simp only[okT,Bool.and_eq_true,decide_eq_true_eq]at h
  match ps,h.1 with
  |p::q::r,_=>rfl
 |_=>rfl
theorem y5s:∀{ps:List Pat},okTs ps=true→z8u (ps.map els)=some ps
 | [],_=>rfl
 |p::ps,h=>by
  rw[okTs,Bool.and_eq_true]at h
  rw[List.map_cons,z8u,y8e h.1,Option.bind_some,y5s h.2];rfl
theorem y5t {p:Pat}(h:okT p=true):z6l (z5j p)=some p:=by
 cases p with
 |any ps =>
  simp only[okT,Bool.and_eq_true,decide_eq_true_eq]at h
  rw[z6l,z5j,y5s h.2]
  match ps,h.1 with
  |p::q::r,_=>rfl
 |row ps =>
  have:=y8e h
  simp only[els]at this
  rw[z6l,z5j,z8u,this];rfl
 |_=>rfl
theorem run_brk {p:Pat}{k:List Rws}{rs:Rws}{r:List Pat}(ok:okT p=true)(h:∀(k:List Rws) (rs:Rws) (r:List Pat),runR (tks p) (k,rs++[r])=some (k,rs++glue r (z5j p))):runR (brkT true (tks p)) (k,rs++[r])=some (k,rs++[r++[p]]):=by
 have h0:=h ((rs++[r])::k) [] []
 have e:([]:Rws)++glue [] (z5j p)=z5j p:=by
  rw[List.nil_append]
  cases z5j p with
  |nil=>rfl
  |cons x xs=>rfl
 rw[e]at h0
 unfold brkT
 rw[if_pos rfl,runR]
 have l1:layR (k,rs++[r]) [40]=some ((rs++[r])::k,[[]]):=rfl
 rw[l1,Option.bind_some,z5w]
 rw[show(([]:Rws)++[[]])=[[]] from rfl]at h0
 rw[h0,Option.bind_some,runR]
 have l2:layR ((rs++[r])::k,z5j p) [41]=some (k,rs++[r++[p]]):=by
  unfold layR
  rw[if_neg (by decide),if_pos rfl]
  dsimp only
  rw[y5t ok,Option.bind_some,z6s]
 rw[l2];rfl
theorem glue_one {p:Pat}{r:List Pat}(h:z6a p=false):glue r (z5j p)=[r++[p]]:=by
 cases p with
 |row ps=>cases h
 |any ps=>cases h
 |_=>rfl
theorem y8m {p:Pat}{k:List Rws}{rs:Rws}{r:List Pat}(ok:okT p=true)(h:∀(k:List Rws) (rs:Rws) (r:List Pat),runR (tks p) (k,rs++[r])=some (k,rs++glue r (z5j p))):runR (brkT (z6a p) (tks p)) (k,rs++[r])=some (k,rs++[r++[p]]):=by
 cases e:z6a p with
 |true=>exact run_brk ok h
 |false =>
  show runR (tks p) _=_
  rw[h,glue_one e]
theorem y8d {p:Pat}{k:List Rws}{rs:Rws}{r:List Pat}(ok:okT p=true)(h:∀(k:List Rws) (rs:Rws) (r:List Pat),runR (tks p) (k,rs++[r])=some (k,rs++glue r (z5j p))):runR (brkT (z7x p) (tks p)) (k,rs++[r])=some (k,rs++[r++els p]):=by
 cases p with
 |any ps=>exact run_brk ok h
 |row ps =>
  show runR (tks (.row ps)) _=_
  rw[h];rfl
 |none=>show runR (tks .none) _=_;rw[h];rfl
 |one s=>show runR (tks (.one s)) _=_;rw[h];rfl
 |wrap w p=>show runR (tks (.wrap w p)) _=_;rw[h];rfl
mutual
theorem y0h:∀(p:Pat),okT p=true→∀(k:List Rws) (rs:Rws) (r:List Pat),runR (tks p) (k,rs++[r])=some (k,rs++glue r (z5j p))
 |.none,_,k,rs,r=>by
  rw[tks,runR]
  have l:layR (k,rs++[r]) [45]=some (k,rs++[r++[.none]]):=by
   unfold layR
   rw[if_neg (by decide),if_neg (by decide),if_neg (by decide)]
   have:wkOf [45]=none:=by decide
   rw[this]
   dsimp only
   rw[if_pos rfl,z6s]
  rw[l];rfl
 |.one s,h,k,rs,r=>by
  rw[tks,runR]
  simp only[okT,Bool.or_eq_true,decide_eq_true_eq]at h
  have ne:∀c:Nat,c≠35→isL c=false→csS s≠[c]:=fun c h1 h2 z=>by
   rw[z]at h
   rcases h with h|h
   ·exact h1 (List.cons.inj h).1
   ·simp[isNm,h2]at h
  have l:layR (k,rs++[r]) (csS s)=some (k,rs++[r++[.one s]]):=by
   unfold layR
   rw[if_neg (ne 40 (by decide) (by decide)),if_neg (ne 41 (by decide) (by decide)),if_neg (ne 124 (by decide) (by decide))]
   have:wkOf (csS s)=none:=by
    unfold wkOf
    rw[if_neg (ne 63 (by decide) (by decide)),if_neg (ne 42 (by decide) (by decide)),if_neg (ne 43 (by decide) (by decide))]
   rw[this]
   dsimp only
   rw[if_neg (ne 45 (by decide) (by decide)),if_pos h,z6s]
   have e:(⟨(csS s).toArray⟩:Str)=s:=by simp[csS]
   rw[e]
  rw[l];rfl
 |.row ps,h,k,rs,r=>by
  simp only[okT,Bool.and_eq_true]at h
  rw[tks,y8j ps h.2];rfl
 |.any ps,h,k,rs,r=>by
  simp only[okT,Bool.and_eq_true,decide_eq_true_eq]at h
  rw[tks,y7y ps (by intro z;rw[z]at h;exact absurd h.1 (by decide)) h.2];rfl
 |.wrap w p,h,k,rs,r=>by
  simp only[okT]at h
  rw[tks,z5w,y8m h (y0h p h),Option.bind_some,runR]
  have l:layR (k,rs++[r++[p]]) [mkC w]=some (k,rs++[r++[.wrap w p]]):=by
   unfold layR
   have e1:wkOf [mkC w]=some w:=by cases w<;>rfl
   rw[if_neg (by cases w<;>decide),if_neg (by cases w<;>decide),if_neg (by cases w<;>decide),e1]
   simp[y5q]
  rw[l];rfl
theorem y8j:∀(ps:List Pat),okTs ps=true→∀(k:List Rws) (rs:Rws) (r:List Pat),runR (tksA ps) (k,rs++[r])=some (k,rs++[r++ps])
 | [],_,k,rs,r=>by rw[tksA,runR,List.append_nil]
 |p::ps,h,k,rs,r=>by
  rw[okTs,Bool.and_eq_true]at h
  rw[tksA,z5w,y8m h.1 (y0h p h.1),Option.bind_some,y8j ps h.2]
  simp
theorem y7y:∀(ps:List Pat),ps≠[]→okTs ps=true→∀(k:List Rws) (rs:Rws) (r:List Pat),runR (tksB ps) (k,rs++[r])=some (k,rs++glue r (ps.map els))
 | [],h,_,k,rs,r=>absurd rfl h
 | [p],_,h,k,rs,r=>by
  simp only[okTs,Bool.and_eq_true]at h
  rw[tksB,y8d h.1 (y0h p h.1)];rfl
 |p::q::ps,_,h,k,rs,r=>by
  rw[okTs,Bool.and_eq_true]at h
  rw[tksB,z5w,y8d h.1 (y0h p h.1),Option.bind_some,runR]
  have l:layR (k,rs++[r++els p]) [124]=some (k,(rs++[r++els p])++[[]]):=rfl
  rw[l,Option.bind_some,y7y (q::ps) (by simp) h.2]
  simp[glue]
end
theorem read_txt {p:Pat}(h:okT p=true):∃rows,runR (tok (txt p)) ([],[[]])=some ([],rows)∧z6l rows=some p:=by
 have h1:=z8w p h [] Nl.nil
 rw[List.append_nil,show tok []=[] from rfl,List.append_nil]at h1
 refine⟨z5j p,?_,y5t h⟩
 rw[h1]
 have h2:=y0h p h [] [] []
 rw[show([]:Rws)++[[]]=[[]] from rfl]at h2
 rw[h2,List.nil_append]
 congr 2
 cases z5j p with
 |nil=>rfl
 |cons x xs=>rfl
open PySem L2 VL Pap
def strC (l:Cs):Str:=⟨l.toArray⟩
theorem z5d (a b:Cs):strC a++strC b=strC (a++b):=by
 show(⟨a.toArray++b.toArray⟩:Str)=_
 rw[List.append_toArray];rfl
theorem z1a (a:Cs):(strC a).length=a.length:=by simp[strC,Str.length]
theorem z6d (s:Str):strC (csS s)=s:=by simp[strC,csS]
theorem y2d (a:Cs):csS (strC a)=a:=by simp[strC,csS]
theorem z7a (s:Str):(csS s).length=s.length:=by simp[csS,Str.length]
theorem y9o (sep:Cs)(l:List Cs):Txt.join (strC sep) (l.map strC)=strC (z4a sep l):=by
 show Builtin.Str.glued _ _=_
 rw[StrLaws.glued_eq_join]
 induction l with
 |nil=>rfl
 |cons x l ih =>
  cases l with
  |nil=>rfl
  |cons y l =>
   rw[List.map_cons,List.map_cons,z4a]
   rw[List.map_cons]at ih
   show strC x++strC sep++Str.join (strC sep) (strC y::l.map strC)=_
   rw[ih,z5d,z5d]
def NlP (p:Pat):Prop:=∀s∈z0o p,s.length≤30
def NlPs (ps:List Pat):Prop:=∀s∈z0w ps,s.length≤30
theorem NlPs.cons {p:Pat}{ps:List Pat}(h:NlPs (p::ps)):NlP p∧NlPs ps:=by
 unfold NlPs at h
 simp only[z0w]at h
 exact⟨fun s hs=>h s (List.mem_append_left _ hs),fun s hs=>h s (List.mem_append_right _ hs)⟩
theorem NlPs.mem:∀{ps:List Pat},NlPs ps→∀p∈ps,NlP p
 |q::ps,h,p,hp=>by
  rcases List.mem_cons.mp hp with rfl|hp
  ·exact h.cons.1
  ·exact NlPs.mem h.cons.2 p hp
theorem z9v (b:Bool)(s:Cs):(brk b s).length≤s.length+2:=by
 unfold brk
 split<;>simp
theorem y1d (sep:Cs):∀l:List Cs,(z4a sep l).length≤(l.map fun x=>x.length+sep.length).sum
 | []=>by simp[z4a]
 | [x]=>by simp[z4a]
 |x::y::l=>by
  have:=y1d sep (y::l)
  rw[z4a,List.map_cons,List.sum_cons,List.length_append,List.length_append]
  omega
mutual
theorem z3z:∀p:Pat,NlP p→(txt p).length+5≤36 * szP p
 |.none,_=>by simp[txt,szP]
 |.one s,h=>by
  have:=h s (by simp[z0o])
  rw[txt,z7a,szP];omega
 |.row ps,h=>by
  have h1:=z9p ps h
  have h2:(z4a [32] (txtA ps)).length≤((txtA ps).map fun x=>x.length+1).sum:=y1d [32] (txtA ps)
  rw[txt,szP];omega
 |.any ps,h=>by
  have h1:=z9j ps h
  have h2:(z4a [32,124,32] (txtB ps)).length≤((txtB ps).map fun x=>x.length+3).sum:=y1d [32,124,32] (txtB ps)
  rw[txt,szP];omega
 |.wrap k p,h=>by
  have h1:=z3z p h
  have h2:=z9v (z6a p) (txt p)
  rw[txt,szP,List.length_append,List.length_singleton];omega
theorem z9p:∀ps:List Pat,NlPs ps→((txtA ps).map fun x=>x.length+1).sum≤36 * szPs ps
 | [],_=>by simp[txtA]
 |p::ps,h=>by
  have h1:=z3z p h.cons.1
  have h2:=z9p ps h.cons.2
  have h3:=z9v (z6a p) (txt p)
  rw[txtA,szPs,List.map_cons,List.sum_cons];omega
theorem z9j:∀ps:List Pat,NlPs ps→((txtB ps).map fun x=>x.length+3).sum≤36 * szPs ps
 | [],_=>by simp[txtB]
 |p::ps,h=>by
  have h1:=z3z p h.cons.1
  have h2:=z9j ps h.cons.2
  have h3:=z9v (z7x p) (txt p)
  rw[txtB,szPs,List.map_cons,List.sum_cons];omega
end
theorem y3i:∀ps:List Pat,txtA ps=ps.map fun p=>brk (z6a p) (txt p)
 | []=>rfl
 |p::ps=>by rw[txtA,y3i ps];rfl
theorem y3z:∀ps:List Pat,txtB ps=ps.map fun p=>brk (z7x p) (txt p)
 | []=>rfl
 |p::ps=>by rw[txtB,y3z ps];rfl
theorem z9n {sep:Cs}{l:List Cs}(hs:sep.length≤16)(h:(l.map fun x=>x.length+1).sum≤1048576):JoinOk (strC sep) (l.map strC)=true:=by
 refine PyProof.Rows.joinOk_of_weight ?_ (by rw[z1a];exact hs)
 have:((l.map strC).map (·.length)).sum+(l.map strC).length=(l.map fun x=>x.length+1).sum:=by
  clear h
  induction l with
  |nil=>rfl
  |cons x l ih=>simp only[List.map_cons,List.sum_cons,List.length_cons,z1a]at ih ⊢;omega
 omega
section
variable {P:Program}{w:World}{K:PySem.W.Frag}{mg:Str→Option Value}{base:Heap}{f:Addr}{fd:FuncData}
def kdS:Pat→Str
 |.none=>"none"
 |.one _=>"one"
 |.row _=>"row"
 |.any _=>"any"
 |.wrap k _=>k.str
def y5m (n:Nat):RD:=fun δ Q=>∃(p:Pat) (ks:List Str),δ=[.fz (patD p),.fz (.lst (ks.map .str))]∧dpP p<n∧szP p≤1000∧NlP p∧ks.length≤2∧Q false (.str (strC (brk (decide (kdS p∈ks)) (txt p)))) [.no,.no]
def z5u (n:Nat):RD:=fun δ Q=>∃p:Pat,δ=[.fz (patD p)]∧dpP p<n∧szP p≤1000∧NlP p∧Q false (.str (strC (txt p))) [.no]
theorem lit40:("(":Str)=strC [40]:=by decide
theorem lit41:(")":Str)=strC [41]:=by decide
theorem x0l {n:Nat}{f1:Addr}{fd1:FuncData}(u0h:Ent K mg "_law_between" u1i ["_law_pattern_here","_law_kinds"] f fd)(T:Zs K mg)(u0a:Ent K mg "_law_pattern_text" u0k ["_law_pattern_here"] f1 fd1)(u1f:FnOk P w K mg base CX0 (2 * n) f1 fd1 ["_law_pattern_here"] (spD (z5u n))):FnOk P w K mg base CX0 (2 * n+1) f fd ["_law_pattern_here","_law_kinds"] (spD (y5m n)):=by
 refine VL.Fun.dok u0h.F y0k (fun δ Qd h=>?_) (by decide) (fun cdv A outer s H E δ Qd hr h=>?_)
 ·obtain⟨_,_,rfl,_⟩:=h;rfl
 ·obtain⟨p,ks,rfl,hdp,hsz,nl,hk,q⟩:=h
  refine⟨_,(z0c (z1x (y0 os_inL y4t (z0t z1c z1g (pv 0) z0f (fun _ _=>rfl)) (pv 1) rfl) (z0h (z0r (z0m z2u z1n (z0m z2u z1n z0l (z0y u1f (hr.mono (by omega)) rfl u0a.g u0a.F.kp u0a.b z0z (z0a (dv 0) z0e))) z0l))) z0v)
   (z0h (z0r (z0y u1f (hr.mono (by omega)) rfl u0a.g u0a.F.kp u0a.b z0z (z0a (dv 0) z0e))))),?_⟩
  have sz:=z0x
  have tl:=z3z p nl
  have e:∃r,patD p=.tup (.str (kdS p)::r):=by
   cases p with
   |wrap k p=>exact⟨_,rfl⟩
   |_=>exact⟨_,rfl⟩
  obtain⟨r,e⟩:=e
  rw[e]
  walk_at "vd"
  have hd:([.fz (D.tup (D.str (kdS p)::r))]:List VL.Slot)=[.fz (patD p)]:=by rw[e]
  by_cases hm:kdS p∈ks
  ·rw[if_pos hm]
   rw[decide_eq_true hm]at q
   refine⟨p,hd,hdp,hsz,nl,?_⟩
   walk_at "vd"
   have l1:("(":Str).length=1:=by decide
   have l2:(")":Str).length=1:=by decide
   have l3:=z1a (txt p)
   refine⟨by omega,?_⟩
   rw[lit40,lit41] at *
   rw[z5d,z1a]
   refine⟨by rw[z1a];simp;omega,?_⟩
   rw[z5d]
   exact q
  ·rw[if_neg hm]
   rw[decide_eq_false hm]at q
   exact⟨p,hd,hdp,hsz,nl,q⟩
theorem y8h (p:Pat):decide (kdS p∈(["row","any"]:List Str))=z6a p:=by
 cases p with
 |wrap k p=>show decide (k.str∈(["row","any"]:List Str))=false;cases k<;>decide
 |none=>decide
 |one s=>show decide ((("one":Str))∈(["row","any"]:List Str))=false;decide
 |row ps=>show decide ((("row":Str))∈(["row","any"]:List Str))=true;decide
 |any ps=>show decide ((("any":Str))∈(["row","any"]:List Str))=true;decide
theorem kd_any (p:Pat):decide (kdS p∈(["any"]:List Str))=z7x p:=by
 cases p with
 |wrap k p=>show decide (k.str∈(["any"]:List Str))=false;cases k<;>decide
 |none=>decide
 |one s=>show decide ((("one":Str))∈(["any"]:List Str))=false;decide
 |row ps=>show decide ((("row":Str))∈(["any"]:List Str))=false;decide
 |any ps=>show decide ((("any":Str))∈(["any"]:List Str))=true;decide
def mkS:Wk→Str
 |.maybe=>"?"
 |.many=>"*"
 |.some=>"+"
theorem mkS_C (k:Wk):mkS k=strC [mkC k]:=by cases k<;>decide
theorem y8w {f1:Addr}{fd1:FuncData}(u0a:Ent K mg "_law_pattern_text" u0k ["_law_pattern_here"] f fd)(T:Zs K mg)(u0h:Ent K mg "_law_between" u1i ["_law_pattern_here","_law_kinds"] f1 fd1):∀n,FnOk P w K mg base CX0 (2 * n) f fd ["_law_pattern_here"] (spD (z5u n)):=by
 intro n
 induction n with
 |zero=>exact z8o fun δ Q h=>by obtain⟨_,_,h,_⟩:=h;exact Nat.not_lt_zero _ h
 |succ n ih =>
 have u4c:FnOk P w K mg base CX0 (2 * n+1) f1 fd1 _ (spD (y5m n)):=x0l u0h T u0a ih
 rw[show 2 * (n+1)=(2 * n+1)+1 by omega]
 refine VL.Fun.dok u0a.F u3w (fun δ Qd h=>?_) (by decide) (fun cdv A outer s H E δ Qd hr h=>?_)
 ·obtain⟨_,rfl,_⟩:=h;rfl
 ·obtain⟨p,rfl,hdp,hsz,nl,q⟩:=h
  refine⟨_,(z0c (z1x (z1f z4q z3c (z0t z1c z1g (pv 0) z0f (fun _ _=>rfl)) z0l (z0u _)) (z0h (z0r z0l)) z0v)
   (z0c (z1x (z1f z4q z3c (z0t z1c z1g (pv 0) z0f (fun _ _=>rfl)) z0l (z0u _)) (z0h (z0r (z0t z1c z1g (pv 0) z0f (fun _ _=>rfl)))) z0v)
   (z0c (z1x (z1f z4q z3c (z0t z1c z1g (pv 0) z0f (fun _ _=>rfl)) z0l (z0u _)) (z0h (z0r (y0y z0l (z4z ["_law_one"] ["_law_pattern_here","_law_mark"] rfl (show CScopeG (z0b u0k) ["_law_pattern_here","_law_mark"] ["_law_one"] _ _ from⟨rfl,by decide +kernel,by decide +kernel,by decide +kernel,by decide +kernel⟩) (z2h (z0t z1c z1g (pv 0) z0f (fun _ _=>rfl))) (fun _ _ _ _ _=>(z2b (i:=0) (by decide) (show List.Nodup (["_law_one","_law_pattern_here","_law_mark"]:List Str) from by decide +kernel) rfl (Or.inl rfl))) (fun _ _ _ _ _=>z5s) (fun _ _ _ _ _=>(z0y u4c (hr.mono (by omega)) rfl u0h.g u0h.F.kp u0h.b z0z (z0a (dv 0) (z0a (z1i (z0a z0l (z0a z0l z0e))) z0e)))))))) z0v)
   (z0c (z1x (z1f z4q z3c (z0t z1c z1g (pv 0) z0f (fun _ _=>rfl)) z0l (z0u _)) (z0h (z0r (y0y z0l (z4z ["_law_one"] ["_law_pattern_here","_law_mark"] rfl (show CScopeG (z0b u0k) ["_law_pattern_here","_law_mark"] ["_law_one"] _ _ from⟨rfl,by decide +kernel,by decide +kernel,by decide +kernel,by decide +kernel⟩) (z2h (z0t z1c z1g (pv 0) z0f (fun _ _=>rfl))) (fun _ _ _ _ _=>(z2b (i:=0) (by decide) (show List.Nodup (["_law_one","_law_pattern_here","_law_mark"]:List Str) from by decide +kernel) rfl (Or.inl rfl))) (fun _ _ _ _ _=>z5s) (fun _ _ _ _ _=>(z0y u4c (hr.mono (by omega)) rfl u0h.g u0h.F.kp u0h.b z0z (z0a (dv 0) (z0a (z1i (z0a z0l z0e)) z0e)))))))) z0v)
   (z0c (z1b (i:=1) u3w.nd rfl (Or.inl rfl) (x3m z4k z2c (z1i (z0a z0l (z0a z0l (z0a z0l z0e)))) (de_index (z1i (z0a z0l (z0a z0l (z0a z0l z0e)))) (z0t z1c z1g (pv 0) z0f (fun _ _=>rfl))) (fun _ _=>rfl)))
   (z0h (z0r (z0m z2u z1n (z0y u4c (hr.mono (by omega)) rfl u0h.g u0h.F.kp u0h.b z0z (z0a (z0t z1c z1g (pv 0) z0f (fun _ _=>rfl)) (z0a (z1i (z0a z0l (z0a z0l z0e))) z0e))) (dv 1))))))))),?_⟩
  have sz:=z0x
  have tl:=z3z p nl
  cases p with
  |none =>
   simp only[patD]
   walk_at "vd"
   exact q
  |one s =>
   simp only[patD]
   walk_at "vd"
   rw[txt,z6d]at q
   exact q
  |row ps =>
   simp only[patD]
   simp only[dpP,szP]at hdp hsz
   have hl:=z4v ps
   have h1:=z9p ps nl
   walk_at "vd"
   rw[z2j,if_neg (by decide),if_neg (by decide)]
   refine y1x patD (fun p=>.str (strC (brk (z6a p) (txt p)))) ps (by omega) (fun c hc P hP=>?_) ?_
   ·have d1:=z4b hc
    have z1:=z5e hc
    walk_at "vd"
    refine⟨by omega,c,["row","any"],rfl,by omega,by omega,NlPs.mem nl c hc,by decide,?_⟩
    rw[y8h];exact hP
   refine⟨(txtA ps).map strC,by rw[y3i];simp,z9n (sep:=[32]) (by decide) (by omega),?_⟩
   rw[show((Str.ofString " ":Str))=strC [32] by decide,y9o]
   exact q
  |any ps =>
   simp only[patD]
   simp only[dpP,szP]at hdp hsz
   have hl:=z4v ps
   have h1:=z9j ps nl
   have h2:((txtB ps).map fun x=>x.length+1).sum≤((txtB ps).map fun x=>x.length+3).sum:=by
    clear h1
    induction txtB ps with
    |nil=>simp
    |cons x l ih=>simp only[List.map_cons,List.sum_cons];omega
   walk_at "vd"
   rw[z2j,if_neg (by decide),if_neg (by decide),if_neg (by decide)]
   refine y1x patD (fun p=>.str (strC (brk (z7x p) (txt p)))) ps (by omega) (fun c hc P hP=>?_) ?_
   ·have d1:=z4b hc
    have z1:=z5e hc
    walk_at "vd"
    refine⟨by omega,c,["any"],rfl,by omega,by omega,NlPs.mem nl c hc,by decide,?_⟩
    rw[kd_any];exact hP
   refine⟨(txtB ps).map strC,by rw[y3z];simp,z9n (sep:=[32,124,32]) (by decide) (by omega),?_⟩
   rw[show((Str.ofString " | ":Str))=strC [32,124,32] by decide,y9o]
   exact q
  |wrap k p =>
   simp only[dpP,szP]at hdp hsz
   have nl':NlP p:=nl
   have tl':=z3z p nl'
   have bl:=z9v (z6a p) (txt p)
   have ks:∀s:Str,s = "none" ∨ s = "one" ∨ s = "row" ∨ s = "any"→k.str≠s:=fun s hs=>by rcases hs with rfl|rfl|rfl|rfl<;>cases k<;>decide
   have ix:∃j:Nat,([Str.ofString "maybe",Str.ofString "many",Str.ofString "some"]:List Str)[j]? = some k.str∧(∀m,m<j→([Str.ofString "maybe",Str.ofString "many",Str.ofString "some"]:List Str)[m]? ≠ some k.str)∧atI [D.str (Str.ofString "?"),D.str (Str.ofString "*"),D.str (Str.ofString "+")] (j:Int)=some (.str (mkS k)):=by
    cases k with
    |maybe=>exact⟨0,rfl,fun m h=>absurd h (Nat.not_lt_zero _),rfl⟩
    |many=>exact⟨1,rfl,fun m h=>by obtain rfl:m=0:=(by omega);decide,rfl⟩
    |some=>exact⟨2,rfl,fun m h=>by rcases(by omega:m=0∨m=1) with rfl|rfl<;>decide,rfl⟩
   obtain⟨j,j1,j2,j3⟩:=ix
   simp only[patD]
   walk_at "vd"
   rw[if_neg (ks _ (.inl rfl)),if_neg (ks _ (.inr (.inl rfl))),if_neg (ks _ (.inr (.inr (.inl rfl)))),if_neg (ks _ (.inr (.inr (.inr rfl))))]
   refine⟨by omega,by omega,_,rfl,_,j,rfl,j1,j2,_,j3,by omega,p,["row","any"],rfl,by omega,by omega,nl',by decide,?_⟩
   rw[y8h]
   walk_at "vd"
   rw[mkS_C,z1a,z1a,z5d]
   exact⟨by simp;omega,q⟩
end
open PySem L2 VL Pap
def marksG (x:Str):Option Str:=if x = "maybe" then some "?" else if x = "many" then some "*" else if x = "some" then some "+" else none
def y9 (x:Str):Option Str:=if x = "?" then some "maybe" else if x = "*" then some "many" else if x = "+" then some "some" else none
theorem marksG_w (k:Wk):marksG k.str=some (mkS k):=by cases k<;>decide
structure Gds (K:PySem.W.Frag)(mg:Str→Option Value)(w:World)(aM aK:Addr):Prop where
 g_NOTHING:∃t,mg "NOTHING" = some (.str "-" t)
 g_QUOTE:∃t,mg "QUOTE" = some (.str (⟨#[34]⟩:Str) t)
 g_MARKS:mg "MARKS" = some (.ref aM)
 g_KINDS:mg "KINDS" = some (.ref aK)
 d_MARKS:y9z K w aM marksG
 d_KINDS:y9z K w aK y9
section
variable {P:Program}{w:World}{K:PySem.W.Frag}{mg:Str→Option Value}{base:Heap}{f:Addr}{fd:FuncData}{aM aK:Addr}
def u8c (n:Nat):RD:=fun δ Q=>∃(p:Pat) (ks:List Str),δ=[.fz (patD p),.fz (.tup (ks.map .str))]∧dpP p<n∧szP p≤1000∧NlP p∧ks.length≤2∧Q false (.str (strC (brk (decide (kdS p∈ks)) (txt p)))) [.no,.no]
theorem u9i {n:Nat}{f1:Addr}{fd1:FuncData}(u3b:Ent K mg "held" u4q ["pattern","kinds"] f fd)(T:Zs K mg)(Gd:Gds K mg w aM aK)(u0d:Ent K mg "show_pattern" u0t ["pattern"] f1 fd1)(u2e:FnOk P w K mg base CX0 (2 * n) f1 fd1 ["pattern"] (spD (z5u n))):FnOk P w K mg base CX0 (2 * n+1) f fd ["pattern","kinds"] (spD (u8c n)):=by
 refine VL.Fun.dok u3b.F u6o (fun δ Qd h=>?_) (by decide) (fun cdv A outer s H E δ Qd hr h=>?_)
 ·obtain⟨_,_,rfl,_⟩:=h;rfl
 ·obtain⟨p,ks,rfl,hdp,hsz,nl,hk,q⟩:=h
  refine⟨_,(z0c (z1b (i:=2) u6o.nd rfl (Or.inl rfl) (z0y u2e (hr.mono (by omega)) rfl u0d.g u0d.F.kp u0d.b z0z (z0a (dv 0) z0e)))
   (z0h (z0r (de_if (z1f y2h z6u (z0t z1c z1g (pv 0) z0f (fun _ _=>rfl)) (dv 1) rfl) (z0m z2u z1n (z0m z2u z1n z0l (dv 2)) z0l) (dv 2))))),?_⟩
  have sz:=z0x
  have tl:=z3z p nl
  have e:∃r,patD p=.tup (.str (kdS p)::r):=by
   cases p with
   |wrap k p=>exact⟨_,rfl⟩
   |_=>exact⟨_,rfl⟩
  obtain⟨r,e⟩:=e
  rw[e]
  walk_at "vd"
  have hd:([.fz (D.tup (D.str (kdS p)::r))]:List VL.Slot)=[.fz (patD p)]:=by rw[e]
  refine⟨p,hd,hdp,hsz,nl,?_⟩
  walk_at "vd"
  refine⟨_,ks,rfl,rfl,?_⟩
  walk_at "vd"
  have l1:("(":Str).length=1:=by decide
  have l2:(")":Str).length=1:=by decide
  have l3:=z1a (txt p)
  by_cases hm:kdS p∈ks
  ·rw[if_pos hm]
   rw[decide_eq_true hm]at q
   rw[lit40,lit41] at *
   rw[z5d,z1a,z1a,z5d,z1a,z1a]
   refine⟨by simp;omega,by simp;omega,q⟩
  ·rw[if_neg hm]
   rw[decide_eq_false hm]at q
   exact q
theorem x2r {f1:Addr}{fd1:FuncData}(u0d:Ent K mg "show_pattern" u0t ["pattern"] f fd)(T:Zs K mg)(Gd:Gds K mg w aM aK)(u3b:Ent K mg "held" u4q ["pattern","kinds"] f1 fd1):∀n,FnOk P w K mg base CX0 (2 * n) f fd ["pattern"] (spD (z5u n)):=by
 intro n
 induction n with
 |zero=>exact z8o fun δ Q h=>by obtain⟨_,_,h,_⟩:=h;exact Nat.not_lt_zero _ h
 |succ n ih =>
 have u6r:FnOk P w K mg base CX0 (2 * n+1) f1 fd1 _ (spD (u8c n)):=u9i u3b T Gd u0d ih
 rw[show 2 * (n+1)=(2 * n+1)+1 by omega]
 refine VL.Fun.dok u0d.F u4j (fun δ Qd h=>?_) (by decide) (fun cdv A outer s H E δ Qd hr h=>?_)
 ·obtain⟨_,rfl,_⟩:=h;rfl
 ·obtain⟨p,rfl,hdp,hsz,nl,q⟩:=h
  refine⟨_,(z0c (z1b (i:=1) u4j.nd rfl (Or.inl rfl) (z0t z1c z1g (pv 0) z0f (fun _ _=>rfl)))
   (z0c (z1x (z1f z4q z3c (dv 1) z0l (z0u _)) (z0h (z0r (de_gS rfl Gd.g_NOTHING))) z0v)
   (z0c (z1x (z1f z4q z3c (dv 1) z0l (z0u _)) (z0h (z0r (z0t z1c z1g (pv 0) z0f (fun _ _=>rfl)))) z0v)
   (z0c (z1x (z1f z4q z3c (dv 1) z0l (z0u _)) (z0h (z0r (y0y z0l (z4z ["inner"] ["pattern","kind"] rfl (show CScopeG (z0b u0t) ["pattern","kind"] ["inner"] _ _ from⟨rfl,by decide +kernel,by decide +kernel,by decide +kernel,by decide +kernel⟩) (z2h (z0t z1c z1g (pv 0) z0f (fun _ _=>rfl))) (fun _ _ _ _ _=>(z2b (i:=0) (by decide) (show List.Nodup (["inner","pattern","kind"]:List Str) from by decide +kernel) rfl (Or.inl rfl))) (fun _ _ _ _ _=>z5s) (fun _ _ _ _ _=>(z0y u6r (hr.mono (by omega)) rfl u3b.g u3b.F.kp u3b.b z0z (z0a (dv 0) (z0a (z1o (z0a z0l (z0a z0l z0e))) z0e)))))))) z0v)
   (z0c (z1x (z1f z4q z3c (dv 1) z0l (z0u _)) (z0h (z0r (y0y z0l (z4z ["inner"] ["pattern","kind"] rfl (show CScopeG (z0b u0t) ["pattern","kind"] ["inner"] _ _ from⟨rfl,by decide +kernel,by decide +kernel,by decide +kernel,by decide +kernel⟩) (z2h (z0t z1c z1g (pv 0) z0f (fun _ _=>rfl))) (fun _ _ _ _ _=>(z2b (i:=0) (by decide) (show List.Nodup (["inner","pattern","kind"]:List Str) from by decide +kernel) rfl (Or.inl rfl))) (fun _ _ _ _ _=>z5s) (fun _ _ _ _ _=>(z0y u6r (hr.mono (by omega)) rfl u3b.g u3b.F.kp u3b.b z0z (z0a (dv 0) (z0a (z1o (z0a z0l z0e)) z0e)))))))) z0v)
   (z0h (z0r (z0m z2u z1n (z0y u6r (hr.mono (by omega)) rfl u3b.g u3b.F.kp u3b.b z0z (z0a (z0t z1c z1g (pv 0) z0f (fun _ _=>rfl)) (z0a (z1o (z0a z0l (z0a z0l z0e))) z0e))) (de_gget Gd.d_MARKS rfl Gd.g_MARKS (dv 1) (fun _ _=>rfl)))))))))),?_⟩
  have sz:=z0x
  have tl:=z3z p nl
  cases p with
  |none =>
   simp only[patD]
   walk_at "vd"
   exact q
  |one s =>
   simp only[patD]
   walk_at "vd"
   rw[txt,z6d]at q
   exact q
  |row ps =>
   simp only[patD]
   simp only[dpP,szP]at hdp hsz
   have hl:=z4v ps
   have h1:=z9p ps nl
   walk_at "vd"
   rw[z2j,if_neg (by decide),if_neg (by decide)]
   refine y1x patD (fun p=>.str (strC (brk (z6a p) (txt p)))) ps (by omega) (fun c hc P hP=>?_) ?_
   ·have d1:=z4b hc
    have z1:=z5e hc
    walk_at "vd"
    refine⟨by omega,c,["row","any"],rfl,by omega,by omega,NlPs.mem nl c hc,by decide,?_⟩
    rw[y8h];exact hP
   refine⟨(txtA ps).map strC,by rw[y3i];simp,z9n (sep:=[32]) (by decide) (by omega),?_⟩
   rw[show((Str.ofString " ":Str))=strC [32] by decide,y9o]
   exact q
  |any ps =>
   simp only[patD]
   simp only[dpP,szP]at hdp hsz
   have hl:=z4v ps
   have h1:=z9j ps nl
   have h2:((txtB ps).map fun x=>x.length+1).sum≤((txtB ps).map fun x=>x.length+3).sum:=by
    clear h1
    induction txtB ps with
    |nil=>simp
    |cons x l ih=>simp only[List.map_cons,List.sum_cons];omega
   walk_at "vd"
   rw[z2j,if_neg (by decide),if_neg (by decide),if_neg (by decide)]
   refine y1x patD (fun p=>.str (strC (brk (z7x p) (txt p)))) ps (by omega) (fun c hc P hP=>?_) ?_
   ·have d1:=z4b hc
    have z1:=z5e hc
    walk_at "vd"
    refine⟨by omega,c,["any"],rfl,by omega,by omega,NlPs.mem nl c hc,by decide,?_⟩
    rw[kd_any];exact hP
   refine⟨(txtB ps).map strC,by rw[y3z];simp,z9n (sep:=[32,124,32]) (by decide) (by omega),?_⟩
   rw[show((Str.ofString " | ":Str))=strC [32,124,32] by decide,y9o]
   exact q
  |wrap k p =>
   simp only[dpP,szP]at hdp hsz
   have nl':NlP p:=nl
   have tl':=z3z p nl'
   have bl:=z9v (z6a p) (txt p)
   have ks:∀s:Str,s = "none" ∨ s = "one" ∨ s = "row" ∨ s = "any"→k.str≠s:=fun s hs=>by rcases hs with rfl|rfl|rfl|rfl<;>cases k<;>decide
   simp only[patD]
   walk_at "vd"
   rw[if_neg (ks _ (.inl rfl)),if_neg (ks _ (.inr (.inl rfl))),if_neg (ks _ (.inr (.inr (.inl rfl)))),if_neg (ks _ (.inr (.inr (.inr rfl))))]
   refine⟨by omega,p,["row","any"],rfl,by omega,by omega,nl',by decide,?_⟩
   rw[y8h]
   walk_at "vd"
   refine⟨_,_,rfl,marksG_w k,?_⟩
   rw[mkS_C,z1a,z1a,z5d]
   exact⟨by simp;omega,q⟩
end
open PySem L2 VL Pap
theorem comp2x {α:Type}{xs:List α}{a b:α→D}{te:TEd}{Q:Bool→D→List VL.Slot→Prop}{δ:List VL.Slot}(f:α→D)(hl:xs.length≤sizeLine)
  (h:∀x∈xs,∀P:D→List VL.Slot→Prop,P (f x) (.fz (a x)::.fz (b x)::δ)→te (.fz (a x)::.fz (b x)::δ) fun _ y δ'=>P y δ')(q:Q true (.lst (xs.map f)) δ):x0j 2 (xs.map fun x=>.tup [a x,b x]) (x3d 2 (y4s (dgN 0) (y4s (dgN 1) x2n))) dYes te Q δ:=by
 refine⟨fun r acc δ1=>δ1=δ∧∃pre suf,xs=pre++suf∧r=suf.map (fun x=>.tup [a x,b x])∧acc=pre.map f,⟨rfl,[],xs,rfl,rfl,rfl⟩,?_,?_⟩
 ·rintro d r acc δ1 ⟨rfl,pre,suf,e,er,rfl⟩
  cases suf with
  |nil=>cases er
  |cons x suf =>
   cases er
   have hm:x∈xs:=by rw[e];simp
   have hlen:pre.length<sizeLine:=by rw[e]at hl;simp at hl;omega
   refine⟨_,rfl,rfl,_,_,rfl,trivial,_,_,rfl,trivial,rfl,?_⟩
   unfold dYes
   dsimp only
   rw[if_pos rfl]
   exact h x hm (fun y δ'=>(pre.map f).length<sizeLine∧δ'.drop 2=δ1∧∃pre' suf',xs=pre'++suf'∧suf.map (fun x=>D.tup [a x,b x])=suf'.map (fun x=>.tup [a x,b x])∧pre.map f++[y]=pre'.map f) ⟨by simpa using hlen,rfl,pre++[x],suf,by simp[e],rfl,by simp⟩
 ·rintro acc δ1 ⟨rfl,pre,suf,e,er,rfl⟩
  cases suf with
  |cons x suf=>cases er
  |nil =>
   rw[List.append_nil]at e
   subst e
   exact q
structure FormW (root:Str)(rules:List (Str×Pat)):Prop where
 len:rules.length≤20
 rl:root.length≤30
 nl:∀r∈rules,r.1.length≤30
 pat:∀r∈rules,szP r.2≤100∧dpP r.2≤30∧NlP r.2
def rowW (r:Str×Pat):Str:=r.1++" = "++strC (txt r.2)
def z3i (root:Str)(rules:List (Str×Pat)):List Str:=("form "++root)::rules.map rowW
section
variable {P:Program}{w:World}{K:PySem.W.Frag}{mg:Str→Option Value}{base:Heap}{f:Addr}{fd:FuncData}{aM aK:Addr}
def y4f:RD:=fun δ Q=>∃(root:Str) (rules:List (Str×Pat)),δ=[.fz (z3g root rules)]∧FormW root rules∧Q true (.lst ((z3i root rules).map .str)) [.no]
theorem p0o {f1 f2:Addr}{fd1 fd2:FuncData}(u3j:Ent K mg "show_form" u2s ["form"] f fd)(T:Zs K mg)(Gd:Gds K mg w aM aK)(u0d:Ent K mg "show_pattern" u0t ["pattern"] f1 fd1)(u3b:Ent K mg "held" u4q ["pattern","kinds"] f2 fd2):FnOk P w K mg base CX0 63 f fd ["form"] (spD y4f):=by
 have u2e:FnOk P w K mg base CX0 62 f1 fd1 _ (spD (z5u 31)):=x2r u0d T Gd u3b 31
 refine VL.Fun.dok u3j.F y6j (fun δ Qd h=>?_) (by decide) (fun cdv A outer s H E δ Qd hr h=>?_)
 ·obtain⟨_,_,rfl,_⟩:=h;rfl
 ·obtain⟨root,rules,rfl,ok,q⟩:=h
  refine⟨_,(z0h (z0r (z0m z4r z2y (z1i (z0a (z0m z2u z1n z0l (z0t z1c z1g (pv 0) z0f (fun _ _=>rfl))) z0e)) (z4z ["name","pattern"] ["form"] rfl (show CScopeG (z0b u2s) ["form"] ["name","pattern"] _ _ from⟨rfl,by decide +kernel,by decide +kernel,by decide +kernel,by decide +kernel⟩) (z2h (z0t z1c z1g (pv 0) z0f (fun _ _=>rfl))) (fun _ _ _ _ _=>(y6p (m:=2) rfl (z5m (z2b (i:=0) (by decide) (show List.Nodup (["name","pattern","form"]:List Str) from by decide +kernel) rfl (Or.inl rfl)) (z5m (z2b (i:=1) (by decide) (show List.Nodup (["name","pattern","form"]:List Str) from by decide +kernel) rfl (Or.inl rfl)) y4c)))) (fun _ _ _ _ _=>z5s) (fun _ _ _ _ _=>(z0m z2u z1n (z0m z2u z1n (dv 0) z0l) (z0y u2e (hr.mono (by decide)) rfl u0d.g u0d.F.kp u0d.b z0z (z0a (dv 1) z0e)))))))),?_⟩
  have sz:=z0x
  have hl:=ok.len
  have h1:=ok.rl
  have l1:("form ":Str).length=5:=by decide
  have l2:(" = ":Str).length=3:=by decide
  simp only[z3g]
  walk_at "vd"
  refine⟨by omega,by omega,?_⟩
  refine comp2x (fun r=>.str (rowW r)) (by omega) (fun r hr P hP=>?_) ?_
  ·have o:=ok.pat r hr
   have o1:=o.1
   have o2:=o.2.1
   have o3:=ok.nl r hr
   have o4:=z3z r.2 o.2.2
   walk_at "vd"
   refine⟨by omega,r.2,rfl,by omega,by omega,o.2.2,?_⟩
   walk_at "vd"
   refine⟨?_,hP⟩
   rw[Str.length_append,z1a];omega
  ·walk_at "vd"
   refine⟨by simp;omega,?_⟩
   simpa[z3i,Function.comp_def] using q
theorem u7n {f1 f2:Addr}{fd1 fd2:FuncData}(u3k:Ent K mg "_law_rows" u3f ["_law_form_here"] f fd)(T:Zs K mg)(u0a:Ent K mg "_law_pattern_text" u0k ["_law_pattern_here"] f1 fd1)(u0h:Ent K mg "_law_between" u1i ["_law_pattern_here","_law_kinds"] f2 fd2):FnOk P w K mg base CX0 63 f fd ["_law_form_here"] (spD y4f):=by
 have u1f:FnOk P w K mg base CX0 62 f1 fd1 _ (spD (z5u 31)):=y8w u0a T u0h 31
 refine VL.Fun.dok u3k.F u4a (fun δ Qd h=>?_) (by decide) (fun cdv A outer s H E δ Qd hr h=>?_)
 ·obtain⟨_,_,rfl,_⟩:=h;rfl
 ·obtain⟨root,rules,rfl,ok,q⟩:=h
  refine⟨_,(z0c (z1b (i:=1) u4a.nd rfl (Or.inl rfl) (z1i (z0a (z0m z2u z1n z0l (z0t z1c z1g (pv 0) z0f (fun _ _=>rfl))) z0e)))
   (z0c (z5h PassesOwn.never rfl (z2h (z0t z1c z1g (pv 0) z0f (fun _ _=>rfl))) (y2p (n:=2) rfl (z3f (z2f (i:=2) u4a.nd rfl (Or.inl rfl)) (z3f (z2f (i:=3) u4a.nd rfl (Or.inl rfl)) z8l))) (z0h (z5a (y3b z4i PySem.F.slot_list_append PySem.F.type_list_append z1p (pv 1) (z0a (z0m z2u z1n (z0m z2u z1n (dv 2) z0l) (z0y u1f (hr.mono (by decide)) rfl u0a.g u0a.F.kp u0a.b z0z (z0a (dv 3) z0e))) z0e)))))
   (z0h (z0r (dm 1))))),?_⟩
  have sz:=z0x
  have hl:=ok.len
  have h1:=ok.rl
  have l1:("form ":Str).length=5:=by decide
  have l2:(" = ":Str).length=3:=by decide
  simp only[z3g]
  walk_at "vd"
  refine⟨by omega,by omega,?_⟩
  refine z9z [2,3] (fun r δ=>∃pre suf,rules=pre++suf∧r=suf.map (fun r=>.tup [.str r.1,patD r.2])∧δ=[.fz (.tup [.str root,.lst (rules.map fun r=>.tup [.str r.1,patD r.2])]),.ob false (.lst ((z3i root pre).map .str)),.no,.no]) ⟨[],rules,rfl,rfl,rfl⟩ ?_ ?_
  ·rintro d r δ ⟨pre,suf,e1,e2,rfl⟩
   cases suf with
   |nil=>cases e2
   |cons a suf =>
    cases e2
    have ha:a∈rules:=by rw[e1];simp
    have o:=ok.pat a ha
    have o1:=o.1
    have o2:=o.2.1
    have o3:=ok.nl a ha
    have o4:=z3z a.2 o.2.2
    have e3:=congrArg List.length e1
    simp at e3
    walk_at "vd"
    refine⟨by omega,a.2,rfl,by omega,by omega,o.2.2,?_⟩
    walk_at "vd"
    refine⟨by rw[Str.length_append,z1a];omega,by simp[z3i];omega,pre++[a],suf,by simp[e1],rfl,?_⟩
    simp[z3i,rowW]
  ·rintro δ ⟨pre,suf,e1,e2,rfl⟩
   cases suf with
   |cons a suf=>cases e2
   |nil =>
    rw[List.append_nil]at e1
    subst e1
    walk_at "vd"
    exact q
end
open PySem L2 VL Pap
theorem lt_one (a b:Nat):(([a]:List Nat)<[b])↔a<b:=by
 rw[List.cons_lt_cons_iff]
 constructor
 ·rintro(h|⟨_,h⟩)
  ·exact h
  ·exact absurd h (by simp)
 ·exact .inl
theorem x3r (a b:Nat):leC ⟨#[a]⟩ ⟨#[b]⟩=decide (a≤b):=by
 show(!decide (([b]:List Nat)<[a]))=_
 by_cases h:a≤b
 ·rw[decide_eq_true h,decide_eq_false (fun z=>by have:=(lt_one b a).mp z;omega)];rfl
 ·rw[decide_eq_false h,decide_eq_true ((lt_one b a).mpr (by omega))];rfl
theorem le_a (c:Nat):leC ("a":Str) ⟨#[c]⟩=decide (97≤c):=by
 have e:("a":Str)=⟨#[97]⟩:=by decide
 rw[e,x3r]
theorem le_z (c:Nat):leC ⟨#[c]⟩ ("z":Str)=decide (c≤122):=by
 have e:("z":Str)=⟨#[122]⟩:=by decide
 rw[e,x3r]
section
variable {P:Program}{w:World}{K:PySem.W.Frag}{mg:Str→Option Value}{base:Heap}{f:Addr}{fd:FuncData}{aM aK:Addr}
def u9j:RD:=fun δ Q=>∃c:Nat,δ=[.fz (.str ⟨#[c]⟩)]∧Q false (.bl (isL c)) [.no]
theorem u8d (u0e:Ent K mg "is_letter" u0w ["sign"] f fd)(T:Zs K mg):FnOk P w K mg base CX0 1 f fd ["sign"] (spD u9j):=by
 refine VL.Fun.dok u0e.F y4q (fun δ Qd h=>?_) (by decide) (fun cdv A outer s H E δ Qd hr h=>?_)
 ·obtain⟨_,rfl,_⟩:=h;rfl
 ·obtain⟨c,rfl,q⟩:=h
  refine⟨_,(z0h (z0r (de_chainS z0l (dv 0) z0l))),?_⟩
  walk_at "vd"
  refine⟨_,_,rfl,rfl,?_⟩
  rw[le_a]
  unfold isL at q
  by_cases h:97≤c
  ·rw[decide_eq_true h]at q ⊢
   rw[if_pos rfl]
   refine⟨_,rfl,?_⟩
   rw[le_z]
   simpa using q
  ·rw[decide_eq_false h]at q ⊢
   rw[if_neg (by simp)]
   simpa using q
def u6s:RD:=fun δ Q=>∃s:Str,δ=[.fz (.str s)]∧s.length≤100000∧Q false (.bl (isNm (csS s))) [.no]
theorem y9a {f1:Addr}{fd1:FuncData}(u0i:Ent K mg "is_name" u2g ["text"] f fd)(T:Zs K mg)(u0e:Ent K mg "is_letter" u0w ["sign"] f1 fd1):FnOk P w K mg base CX0 2 f fd ["text"] (spD u6s):=by
 have u4g:FnOk P w K mg base CX0 1 f1 fd1 _ (spD u9j):=u8d u0e T
 refine VL.Fun.dok u0i.F x0i (fun δ Qd h=>?_) (by decide) (fun cdv A outer s H E δ Qd hr h=>?_)
 ·obtain⟨_,rfl,_⟩:=h;rfl
 ·obtain⟨s,rfl,hl,q⟩:=h
  refine⟨_,(z0h (z0r (y9f (y8v y9v y1j (dv 0) z0l (z0u _)) (x2j (z4x cs_all (y4j rfl) rfl T.z_all PyProof.Rows.boot_all (z0a (z4z ["sign"] ["text"] rfl (show CScopeG (z0b u2g) ["text"] ["sign"] _ _ from⟨rfl,by decide +kernel,by decide +kernel,by decide +kernel,by decide +kernel⟩) (di_str (dv 0)) (fun _ _ _ _ _=>(z2b (i:=0) (by decide) (show List.Nodup (["sign","text"]:List Str) from by decide +kernel) rfl (Or.inl rfl))) (fun _ _ _ _ _=>z5s) (fun _ _ _ _ _=>(z0y u4g (hr.mono (by decide)) rfl u0e.g u0e.F.kp u0e.b z0z (z0a (dv 0) z0e)))) z0e)))))),?_⟩
  have sz:=z0x
  walk_at "vd"
  have el:∀c∈csS s,c∈csS s:=fun _ h=>h
  by_cases h0:s = ""
  ·rw[decide_eq_true h0,if_neg (by simp)]
   have:isNm (csS s)=false:=by rw[h0];decide
   rw[this]at q
   exact q
  ·rw[decide_eq_false h0,if_pos rfl]
   have hn:csS s≠[]:=fun z=>h0 (by rw[←z6d s,z];decide)
   refine⟨s,rfl,?_⟩
   have hs:sgD s=(csS s).map fun c=>D.str ⟨#[c]⟩:=rfl
   rw[hs]
   refine y1x (fun c=>D.str ⟨#[c]⟩) (fun c=>.bl (isL c)) (csS s) (by rw[z7a];omega) (fun c hc P hP=>?_) ?_
   ·walk_at "vd"
    exact⟨c,rfl,hP⟩
   ·refine⟨(csS s).map isL,by simp,?_⟩
    have e:isNm (csS s)=((csS s).map isL).all id:=by
     unfold isNm
     rw[decide_eq_true hn,List.all_map];rfl
    rw[e]at q
    exact q
theorem tw_step {p:Nat→Bool}:∀{d:Cs}{k c:Nat},k≤(d.takeWhile p).length→d[k]? = some c→(p c=true→k+1≤(d.takeWhile p).length)∧(p c=false→k=(d.takeWhile p).length)
 | [],k,c,_,e=>by simp at e
 |a::d,0,c,h,e=>by
  simp at e;subst e
  rw[List.takeWhile_cons]
  refine⟨fun h=>?_,fun h=>?_⟩
  ·rw[if_pos h];simp
  ·rw[if_neg (by simp[h])];rfl
 |a::d,k+1,c,h,e=>by
  rw[List.takeWhile_cons]at h ⊢
  by_cases ha:p a=true
  ·rw[if_pos ha]at h ⊢
   have ih:=tw_step (d:=d) (k:=k) (c:=c) (by simpa using h) (by simpa using e)
   simp only[List.length_cons]
   exact⟨fun z=>by have:=ih.1 z;omega,fun z=>by have:=ih.2 z;omega⟩
  ·rw[if_neg ha]at h;simp at h
theorem z4p {α:Type}{xs:List α}{b:Nat}{c:α}(h:xs[b]? = some c):atI xs (b:Int)=some c:=by
 have hb:b<xs.length:=(List.getElem?_eq_some_iff.mp h).1
 unfold atI ixN
 rw[if_pos (by omega)]
 have e:xs[b]=c:=Option.some.inj ((List.getElem?_eq_getElem hb).symm.trans h)
 simp[hb,e]
def z9g (l:Cs)(b:Nat):Nat:=if (l[b]?.map isL).getD false=true then b+1+((l.drop (b+1)).takeWhile isL).length else b+1
def u8e:RD:=fun δ Q=>∃(l:Cs) (b:Nat),δ=[.fz (.str (strC l)),.fz (.int b)]∧b<l.length∧l.length≤100000∧(∀c∈l,c≠34)∧Q false (.int (z9g l b)) [.no,.no]
theorem u9k {f1:Addr}{fd1:FuncData}(u1s:Ent K mg "token_end" u2k ["line","begin"] f fd)(T:Zs K mg)(Gd:Gds K mg w aM aK)(u0e:Ent K mg "is_letter" u0w ["sign"] f1 fd1):FnOk P w K mg base CX0 2 f fd ["line","begin"] (spD u8e):=by
 have u4g:FnOk P w K mg base CX0 1 f1 fd1 _ (spD u9j):=u8d u0e T
 refine VL.Fun.dok u1s.F u4i (fun δ Qd h=>?_) (by decide) (fun cdv A outer s H E δ Qd hr h=>?_)
 ·obtain⟨_,_,rfl,_⟩:=h;rfl
 ·obtain⟨l,b,rfl,hb,hl,h34,q⟩:=h
  refine⟨_,(z0c (z1b (i:=2) u4i.nd rfl (Or.inl rfl) (z0m z2r z2q (dv 1) z0f))
   (z0c (z1x (z1f z4q z3c (z0t y6h y2n (pv 0) (dv 1) (fun _ _=>rfl)) (de_gS rfl Gd.g_QUOTE) (z0u _)) (z0c z7r
   (z0h z7r)) z0v)
   (z0c (y3l PassesOwn.never (dt_w (y2r (z8x (z0y u4g (hr.mono (by decide)) rfl u0e.g u0e.F.kp u0e.b z0z (z0a (z0t y6h y2n (pv 0) (dv 1) (fun _ _=>rfl)) z0e))) (y2r (z1f y5r y4a (dv 2) (z1q y6r z6m rfl T.z_len PySem.boot_len (pv 0)) (z0u _)) (y0v (z8x (z0y u4g (hr.mono (by decide)) rfl u0e.g u0e.F.kp u0e.b z0z (z0a (z0t y6h y2n (pv 0) (dv 2) (fun _ _=>rfl)) z0e))))))) (z0h (ds_aug (i:=2) u4i.nd rfl (Or.inl rfl))))
   (z0h (z0r (dm 2)))))),?_⟩
  have sz:=z0x
  walk_at "vd"
  obtain⟨c,hc⟩:∃c,l[b]? = some c:=⟨_,List.getElem?_eq_getElem hb⟩
  have hcl:(strC l).cps.toList=l:=y2d l
  have c34:(⟨#[c]⟩:Str)≠⟨#[34]⟩:=fun z=>h34 c (List.mem_of_getElem? hc) (by cases z;rfl)
  refine⟨by rw[z1a];omega,c,by rw[hcl];exact z4p hc,?_⟩
  rw[if_neg c34]
  have et:z9g l b=if isL c=true then b+1+((l.drop (b+1)).takeWhile isL).length else b+1:=by unfold z9g;rw[hc];rfl
  refine⟨[],fun δ=>∃k:Nat,k≤((l.drop (b+1)).takeWhile isL).length∧(isL c=false→k=0)∧δ=[.fz (.str (strC l)),.fz (.int b),.fz (.int ((b+1+k:Nat):Int)),.no],fun δ=>match δ with | [_,_,.fz (.int e),_]=>l.length - e.toNat|_=>0,⟨0,Nat.zero_le _,fun _=>rfl,?_⟩,?_⟩
  ·simp[fgt]
  rintro δ ⟨k,hk,hz,rfl⟩
  have tl:((l.drop (b+1)).takeWhile isL).length≤(l.drop (b+1)).length:=(List.takeWhile_sublist _).length_le
  rw[List.length_drop]at tl
  walk_at "vd"
  refine⟨by rw[z1a];omega,c,by rw[hcl];exact z4p hc,c,rfl,?_⟩
  walk_at "vd"
  have fin:z9g l b=b+1+k→Qd false (.int ((b+1+k:Nat):Int)) [.no,.no]:=fun e=>by rw[e]at q;exact q
  cases hL:isL c with
  |false =>
   rw[if_neg (by simp)]
   have:=hz hL
   rw[hL,if_neg (by simp)]at et
   exact fin (by omega)
  |true =>
   rw[hL,if_pos rfl]at et
   rw[if_pos rfl]
   refine⟨by rw[z1a];omega,ite2 (fun hlt=>?_) fun hge=>?_⟩
   ·rw[z1a]at hlt
    have hlt':b+1+k<l.length:=by exact_mod_cast hlt
    obtain⟨d,hd⟩:∃d,l[b+1+k]? = some d:=⟨_,List.getElem?_eq_getElem hlt'⟩
    have hd2:(l.drop (b+1))[k]? = some d:=by rw[List.getElem?_drop];exact hd
    have st:=tw_step hk hd2
    refine⟨by rw[z1a];omega,d,by rw[hcl];exact z4p hd,d,rfl,?_⟩
    walk_at "vd"
    cases hD:isL d with
    |false =>
     rw[if_neg (by simp)]
     exact fin (by have:=st.2 hD;omega)
    |true =>
     rw[if_pos rfl]
     refine⟨_,rfl,⟨k+1,st.1 hD,(fun z=>z.elim),?_⟩,?_⟩
     ·simp[fgt];omega
     ·simp[fgt];omega
   ·rw[z1a]at hge
    have hge':l.length≤b+1+k:=by
     have:¬(((b+1+k:Nat):Int)<(l.length:Int)):=hge
     omega
    exact fin (by omega)
end
open PySem L2 VL Pap
def rawT (s:Cs):List Cs:=z4t s.length s
theorem raw_cons (c:Nat)(r:Cs):rawT (c::r)=if isL c=true then(c::r.takeWhile isL)::rawT (r.dropWhile isL) else[c]::rawT r:=by
 unfold rawT
 rw[List.length_cons,z3y]
 have hd:(r.dropWhile isL).length≤r.length:=(List.dropWhile_sublist _).length_le
 rw[z5v r.length (r.dropWhile isL).length (r.dropWhile isL) hd (Nat.le_refl _)]
theorem raw_at {l:Cs}{b:Nat}(hb:b<l.length):b<z9g l b∧z9g l b≤l.length∧rawT (l.drop b)=((l.drop b).take (z9g l b - b))::rawT (l.drop (z9g l b)):=by
 have e1:l.drop b=l[b]::l.drop (b+1):=List.drop_eq_getElem_cons hb
 have e2:l[b]? = some l[b]:=List.getElem?_eq_getElem hb
 have et:z9g l b=if isL l[b]=true then b+1+((l.drop (b+1)).takeWhile isL).length else b+1:=by unfold z9g;rw[e2];rfl
 have tl:((l.drop (b+1)).takeWhile isL).length≤(l.drop (b+1)).length:=(List.takeWhile_sublist _).length_le
 rw[List.length_drop]at tl
 rw[e1,raw_cons,et]
 have ha:(l.drop (b+1)).takeWhile isL++(l.drop (b+1)).dropWhile isL=l.drop (b+1):=List.takeWhile_append_dropWhile
 split
 ·refine⟨by omega,by omega,?_⟩
  have k1:b+1+((l.drop (b+1)).takeWhile isL).length - b=((l.drop (b+1)).takeWhile isL).length+1:=by omega
  have k2:(l.drop (b+1)).take ((l.drop (b+1)).takeWhile isL).length=(l.drop (b+1)).takeWhile isL:=by
   have:=List.take_left' (l₁:=(l.drop (b+1)).takeWhile isL) (l₂:=(l.drop (b+1)).dropWhile isL) rfl
   rwa [ha]at this
  have k3:l.drop (b+1+((l.drop (b+1)).takeWhile isL).length)=(l.drop (b+1)).dropWhile isL:=by
   rw[←List.drop_drop]
   have:=List.drop_left' (l₁:=(l.drop (b+1)).takeWhile isL) (l₂:=(l.drop (b+1)).dropWhile isL) rfl
   rwa [ha]at this
  rw[k1,List.take_succ_cons,k2,k3]
 ·refine⟨by omega,by omega,?_⟩
  rw[show b+1 - b=1 by omega,List.take_succ_cons,List.take_zero]
theorem x2c {l:Cs}{b e:Nat}(h:b≤e)(he:e≤l.length):Txt.slice (strC l) (some (b:Int)) (some (e:Int))=strC ((l.drop b).take (e - b)):=by
 have hl:=z1a l
 have s1:=StrLaws.sliced_plain (strC l) h (by rw[hl];exact he)
 have s2:=StrLaws.strSliceIndices_plain (len:=(strC l).length) h (by rw[hl];exact he)
 unfold Txt.slice
 split
 ·rename_i hc
  rw[s2]at hc
  simp only[List.length_map,List.length_range,beq_self_eq_true,Bool.true_and,beq_iff_eq,hl]at hc
  have b0:b=0:=by omega
  subst b0
  rw[List.drop_zero,List.take_of_length_le (by omega)]
 ·rw[s1]
  show strC (((csS (strC l)).drop b).take (e - b))=_
  rw[y2d]
def isSp:D→Bool
 |.str s=>decide (s = " ")
 |_=>false
theorem strC_sp (t:Cs):decide (strC t=(" ":Str))=decide (t=[32]):=by
 have e:(" ":Str)=strC [32]:=by decide
 rw[e]
 by_cases h:t=[32]
 ·rw[decide_eq_true h,decide_eq_true (by rw[h])]
 ·rw[decide_eq_false h,decide_eq_false (fun z=>h (by have:=congrArg csS z;rwa [y2d,y2d]at this))]
section
variable {P:Program}{w:World}{K:PySem.W.Frag}{mg:Str→Option Value}{base:Heap}{f:Addr}{fd:FuncData}{aM aK:Addr}
def u8f:RD:=fun δ Q=>∃l:Cs,δ=[.fz (.str (strC l))]∧l.length≤100000∧(∀c∈l,c≠34)∧Q true (.lst ((tok l).map fun t=>.str (strC t))) [.no]
theorem u9l {f1 f2:Addr}{fd1 fd2:FuncData}(u2o:Ent K mg "tokens_of" u2l ["line"] f fd)(T:Zs K mg)(Gd:Gds K mg w aM aK)(u1s:Ent K mg "token_end" u2k ["line","begin"] f1 fd1)(u0e:Ent K mg "is_letter" u0w ["sign"] f2 fd2):FnOk P w K mg base CX0 3 f fd ["line"] (spD u8f):=by
 have u5t:FnOk P w K mg base CX0 2 f1 fd1 _ (spD u8e):=u9k u1s T Gd u0e
 refine VL.Fun.dok u2o.F u3u (fun δ Qd h=>?_) (by decide) (fun cdv A outer s H E δ Qd hr h=>?_)
 ·obtain⟨_,rfl,_⟩:=h;rfl
 ·obtain⟨l,rfl,hl,h34,q⟩:=h
  refine⟨_,(z0c (z1b (i:=1) u3u.nd rfl (Or.inl rfl) (z1i z0e))
   (z0c (z1b (i:=2) u3u.nd rfl (Or.inl rfl) z0f)
   (z0c (y3l PassesOwn.never (z1f y5r y4a (dv 2) (z1q y6r z6m rfl T.z_len PySem.boot_len (pv 0)) (z0u _)) (z0c (z1b (i:=3) u3u.nd rfl (Or.inl rfl) (z0y u5t (hr.mono (by decide)) rfl u1s.g u1s.F.kp u1s.b z0z (z0a (dv 0) (z0a (dv 2) z0e))))
   (z0c (z5a (y3b z4i PySem.F.slot_list_append PySem.F.type_list_append z1p (pv 1) (z0a (z5q (dv 0) (z1u (dv 2)) (z1u (dv 3))) z0e)))
   (z0h (z1b (i:=2) u3u.nd rfl (Or.inl rfl) (dv 3))))))
   (z0h (z0r (z4z ["token"] ["line","found","begin","end"] rfl (show CScopeG (z0b u2l) ["line","found","begin","end"] ["token"] _ _ from⟨rfl,by decide +kernel,by decide +kernel,by decide +kernel,by decide +kernel⟩) (z2h (dv 1)) (fun _ _ _ _ _=>(z2b (i:=0) (by decide) (show List.Nodup (["token","line","found","begin","end"]:List Str) from by decide +kernel) rfl (Or.inl rfl))) (fun _ _ _ _ _=>(df_one (z1f y9v y1j (dv 0) z0l (z0u _)))) (fun _ _ _ _ _=>(dv 0)))))))),?_⟩
  have sz:=z0x
  have hcl:(strC l).cps.toList=l:=y2d l
  walk_at "vd"
  refine⟨by omega,[3],fun δ=>∃(b:Nat) (ts:List Cs),b≤l.length∧ts.length≤b∧rawT l=ts++rawT (l.drop b)∧δ=[.fz (.str (strC l)),.ob false (.lst (ts.map fun t=>.str (strC t))),.fz (.int b),.no],fun δ=>match δ with | [_,_,.fz (.int e),_]=>l.length - e.toNat|_=>0,⟨0,[],Nat.zero_le _,Nat.le_refl _,rfl,?_⟩,?_⟩
  ·simp[fgt]
  rintro δ ⟨b,ts,hb,htl,hr',rfl⟩
  walk_at "vd"
  refine⟨by rw[z1a];omega,ite2 (fun hlt=>?_) fun hge=>?_⟩
  ·rw[z1a]at hlt
   have hlt':b<l.length:=by exact_mod_cast hlt
   obtain⟨r1,r2,r3⟩:=raw_at hlt'
   refine⟨l,b,rfl,hlt',hl,h34,?_⟩
   walk_at "vd"
   rw[x2c (by omega) r2]
   refine⟨by rw[z1a];omega,by simp;omega,⟨z9g l b,ts++[(l.drop b).take (z9g l b - b)],r2,by simp;omega,by rw[hr',r3];simp,by simp⟩,by omega⟩
  ·rw[z1a]at hge
   have hbe:b=l.length:=by
    have:¬((b:Int)<(l.length:Int)):=hge
    omega
   subst hbe
   rw[List.drop_length,show rawT []=[] from rfl,List.append_nil]at hr'
   refine comp1f (fun d=>!isSp d) id (by simp;omega) (fun d hd P hP=>?_) (fun d hd hn P hP=>?_) ?_
   ·obtain⟨t,ht,rfl⟩:=List.mem_map.mp hd
    walk_at "vd"
    exact hP
   ·walk_at "vd"
    exact hP
   ·have e:((ts.map fun t=>D.str (strC t)).filter fun d=>!isSp d).map id=(tok l).map fun t=>.str (strC t):=by
     have e1:tok l=ts.filter fun t=>decide (t≠[32]):=by rw[←hr'];rfl
     rw[e1,List.map_id,List.filter_map]
     refine congrArg _ (List.filter_congr fun t _=>?_)
     show(!decide (strC t=(" ":Str)))=_
     rw[strC_sp]
     by_cases h:t=[32]<;>simp[h]
    rw[e]
    exact q
end
open PySem L2 VL Pap
def optP:Option Pat→D
 |none=>.non
 |some p=>patD p
theorem optP_nt (o:Option Pat):optP o=.non ∨ ∃xs,optP o=.tup xs:=by
 cases o with
 |none=>exact .inl rfl
 |some p=>cases p<;>exact .inr ⟨_,rfl⟩
def mkK:Bool→List Pat→Pat
 |true=>.row
 |false=>.any
def mkN:Bool→Str
 |true=>"row"
 |false=>"any"
theorem y2t:∀rows:Rws,(rows.map fun r=>gath .row r).any Option.isNone=(z8u rows).isNone
 | []=>rfl
 |r::rows=>by
  rw[List.map_cons,List.any_cons,y2t rows,z8u]
  cases gath .row r with
  |none=>rfl
  |some p=>cases z8u rows<;>rfl
theorem y2q:∀{rows:Rws}{ps:List Pat},z8u rows=some ps→rows.map (fun r=>gath .row r)=ps.map some
 | [],ps,h=>by cases h;rfl
 |r::rows,ps,h=>by
  rw[z8u]at h
  cases h1:gath .row r with
  |none=>rw[h1]at h;cases h
  |some p =>
   rw[h1]at h
   cases h2:z8u rows with
   |none=>rw[h2]at h;cases h
   |some qs =>
    rw[h2]at h
    cases h
    rw[List.map_cons,h1,y2q h2];rfl
section
variable {P:Program}{w:World}{K:PySem.W.Frag}{mg:Str→Option Value}{base:Heap}{f:Addr}{fd:FuncData}{aM aK:Addr}
def u8g:RD:=fun δ Q=>∃(b:Bool) (ps:List Pat),δ=[.fz (.str (mkN b)),.fz (.lst (ps.map patD))]∧ps.length≤100000∧Q false (optP (gath (mkK b) ps)) [.no,.no]
theorem u9m (u0u:Ent K mg "gathered" u2h ["kind","patterns"] f fd)(T:Zs K mg):FnOk P w K mg base CX0 1 f fd ["kind","patterns"] (spD u8g):=by
 refine VL.Fun.dok u0u.F y7v (fun δ Qd h=>?_) (by decide) (fun cdv A outer s H E δ Qd hr h=>?_)
 ·obtain⟨_,_,rfl,_⟩:=h;rfl
 ·obtain⟨b,ps,rfl,hl,q⟩:=h
  have hu:=z5b hr
  refine⟨_,(z0c (z1x (z1f y5r y4a (z1q z3x z1d rfl T.z_len PySem.boot_len (pv 1)) z0f (z0u _)) (z0h (z0r (de_if (x2w (pv 1)) (z0t z4k z2c (pv 1) z0f (fun _ _=>rfl)) de_non))) z0v)
   (z0h (z0r (z1o (z0a (dv 0) (z0a (dv 1) z0e)))))),?_⟩
  have sz:=z0x
  walk_at "vd"
  match ps,hl,q with
  | [],hl,q =>
   walk_at "vd"
   exact q
  | [p],hl,q =>
   walk_at "vd"
   rw[if_pos (by decide)]
   exact⟨_,atI0,q⟩
  |p::p' :: r,hl,q =>
   rw[if_neg (by simp;omega)]
   refine⟨by omega,?_⟩
   have e:patD (mkK b (p::p' :: r))=.tup [.str (mkN b),.lst ((p::p' :: r).map patD)]:=by
    cases b<;>simp only[mkK,mkN,patD,z2j]
   rw[gath,optP,e]at q
   exact q
def u6t:RD:=fun δ Q=>∃rows:Rws,δ=[.fz (.lst (rows.map fun r=>.lst (r.map patD)))]∧rows.length≤100000∧(∀r∈rows,r.length≤100000)∧Q false (optP (z6l rows)) [.no]
theorem x0s {f1:Addr}{fd1:FuncData}(u2a:Ent K mg "folded" u3n ["rows"] f fd)(T:Zs K mg)(u0u:Ent K mg "gathered" u2h ["kind","patterns"] f1 fd1):FnOk P w K mg base CX0 2 f fd ["rows"] (spD u6t):=by
 have u5f:FnOk P w K mg base CX0 1 f1 fd1 _ (spD u8g):=u9m u0u T
 refine VL.Fun.dok u2a.F u5n (fun δ Qd h=>?_) (by decide) (fun cdv A outer s H E δ Qd hr h=>?_)
 ·obtain⟨_,rfl,_⟩:=h;rfl
 ·obtain⟨rows,rfl,hl,hr2,q⟩:=h
  have hu:=z5b hr
  refine⟨_,(z0c (z1b (i:=1) u5n.nd rfl (Or.inl rfl) (z4z ["patterns"] ["rows",""] rfl (show CScopeG (z0b u3n) ["rows","patterns"] ["patterns"] _ _ from⟨rfl,by decide +kernel,by decide +kernel,by decide +kernel,by decide +kernel⟩) (z2h (dv 0)) (fun _ _ _ _ _=>(z2b (i:=0) (by decide) (show List.Nodup (["patterns","rows",""]:List Str) from by decide +kernel) rfl (Or.inl rfl))) (fun _ _ _ _ _=>z5s) (fun _ _ _ _ _=>(z0y u5f (hr.mono (by decide)) rfl u0u.g u0u.F.kp u0u.b z0z (z0a z0l (z0a (dv 0) z0e))))))
   (z0h (z0r (de_if (y0 os_inN (x3p hu) de_non (pv 1) rfl) de_non (z0y u5f (hr.mono (by decide)) rfl u0u.g u0u.F.kp u0u.b z0z (z0a z0l (z0a (dv 1) z0e))))))),?_⟩
  have sz:=z0x
  walk_at "vd"
  refine y1x (fun r:List Pat=>D.lst (r.map patD)) (fun r=>optP (gath .row r)) rows (by omega) (fun r hr3 P hP=>?_) ?_
  ·walk_at "vd"
   exact⟨true,r,rfl,hr2 r hr3,hP⟩
  walk_at "vd"
  refine⟨_,rfl,rfl,fun d hd=>?_,?_⟩
  ·obtain⟨r,_,rfl⟩:=List.mem_map.mp hd
   exact optP_nt _
  have an:((rows.map fun r=>optP (gath .row r)).any isND)=(z8u rows).isNone:=by
   rw[←y2t,List.any_map,List.any_map]
   refine congrArg (rows.any ·) (funext fun r=>?_)
   show isND (optP (gath .row r))=(gath .row r).isNone
   cases gath .row r with
   |none=>rfl
   |some p=>cases p<;>rfl
  walk_at "vd"
  rw[an]
  cases e:z8u rows with
  |none =>
   rw[if_pos (by simp)]
   rw[z6l,e]at q
   exact q
  |some ps =>
   rw[if_neg (by simp)]
   have e2:=y2q e
   have e3:(rows.map fun r=>optP (gath .row r))=ps.map patD:=by
    have:=congrArg (List.map optP) e2
    rw[List.map_map,List.map_map]at this
    exact this
   rw[z6l,e,Option.bind_some]at q
   have e4:=congrArg List.length e2
   simp at e4
   refine⟨false,ps,by rw[e3];rfl,by omega,q⟩
end
open PySem L2 VL Pap
def RowAt (F H:Hp)(a:Addr)(r:List Pat):Prop:=∃vs,H a=some (.lst vs)∧Reps F (r.map patD) vs
structure Grp (F H:Hp)(q:Addr×List Addr)(rows:Rws):Prop where
 lst:H q.1=some (.lst (q.2.map .ref))
 rows:Paired (RowAt F H) q.2 rows
def adrG (q:Addr×List Addr):List Addr:=q.1::q.2
def NWs (F F' H0:Hp):Prop:=∀a o,F' a=some o→F a=none→H0 a=none
theorem NWs.trans {F F' F'' H0:Hp}(h1:NWs F F' H0)(h2:NWs F' F'' H0):NWs F F'' H0:=fun a o e n=>by
 cases e':F' a with
 |none=>exact h2 a o e e'
 |some o'=>exact h1 a o' e' n
theorem NWs.refl (F H0:Hp):NWs F F H0:=fun a o e n=>by rw[n]at e;cases e
structure GS (H0 F H:Hp)(ga:Addr)(gs:List (Addr×List Addr))(G:List Rws):Prop where
 top:H ga=some (.lst (gs.map fun q=>.ref q.1))
 grp:Paired (Grp F H) gs G
 nd:(ga::gs.flatMap adrG).Nodup
 fr:∀a∈ga::gs.flatMap adrG,F a=none∧H0 a=none
 sub:Same F H
theorem RowAt.mono {F F' H H':Hp}{a:Addr}{r:List Pat}(h:RowAt F H a r)(s:Same F F')(e:∀o,H a=some o→H' a=some o):RowAt F' H' a r:=by
 obtain⟨vs,h1,h2⟩:=h
 exact⟨vs,e _ h1,Reps.mono s _ _ h2⟩
theorem z3l {α β:Type}{R S:α→β→Prop}:∀{xs:List α}{ys:List β},Paired R xs ys→(∀x∈xs,∀y,R x y→S x y)→Paired S xs ys
 |_,_,.nil,_=>.nil
 |_,_,.cons r t,f=>.cons (f _ List.mem_cons_self _ r) (z3l t fun x hx=>f x (List.mem_cons_of_mem _ hx))
theorem Grp.mono {F F' H H':Hp}{q:Addr×List Addr}{rows:Rws}(h:Grp F H q rows)(s:Same F F')(e:∀a∈adrG q,∀o,H a=some o→H' a=some o):Grp F' H' q rows :=
 ⟨e _ List.mem_cons_self _ h.lst,z3l h.rows fun a ha r hr=>hr.mono s (e a (List.mem_cons_of_mem _ ha))⟩
theorem GS.mono {H0 F F' H H':Hp}{ga:Addr}{gs:List (Addr×List Addr)}{G:List Rws}(h:GS H0 F H ga gs G)(s:Same F F')(s':Same F' H')(n:∀a∈ga::gs.flatMap adrG,F' a=none)(e:∀a∈ga::gs.flatMap adrG,∀o,H a=some o→H' a=some o):GS H0 F' H' ga gs G :=
 ⟨e _ List.mem_cons_self _ h.top,z3l h.grp fun q hq rows hr=>hr.mono s fun a ha=>e a (List.mem_cons_of_mem _ (List.mem_flatMap.mpr ⟨q,hq,ha⟩)),h.nd,fun a ha=>⟨n a ha,(h.fr a ha).2⟩,s'⟩
theorem z4y {α β:Type}{R:α→β→Prop}:∀{xs:List α}{ys:List β}{x:α}{y:β},Paired R xs ys→R x y→Paired R (xs++[x]) (ys++[y])
 |_,_,_,_,.nil,h=>.cons h .nil
 |_,_,_,_,.cons r t,h=>.cons r (z4y t h)
theorem z2m {α β:Type}{R:α→β→Prop}:∀{xs:List α}{ys:List β}{y:β},Paired R xs (ys++[y])→∃xs' x,xs=xs'++[x]∧Paired R xs' ys∧R x y
 |_,[],y,.cons r .nil=>⟨[],_,rfl,.nil,r⟩
 |x::xs,z::ys,y,.cons r t=>by
  obtain⟨xs',x',rfl,h1,h2⟩:=z2m t
  exact⟨x::xs',x',rfl,.cons r h1,h2⟩
theorem GS.setRow {H0 F H:Hp}{ga:Addr}{gs:List (Addr×List Addr)}{g ra:Addr}{ras:List Addr}{G:List Rws}{rows:Rws}{r r':List Pat}{vs:List V}(h:GS H0 F H ga (gs++[(g,ras++[ra])]) (G++[rows++[r]]))(rp:Reps F (r'.map patD) vs) :
  GS H0 F (upd H ra (.lst vs)) ga (gs++[(g,ras++[ra])]) (G++[rows++[r']]):=by
 have nd:=h.nd
 have hra:ra∈ga::(gs++[(g,ras++[ra])]).flatMap adrG:=by simp[adrG]
 have fra:=(h.fr ra hra).1
 have ne:∀a,a∈ga::gs.flatMap adrG++g::ras→a≠ra:=by
  intro a ha z
  subst z
  have nd2:((ga::gs.flatMap adrG++g::ras)++[a]).Nodup:=by simpa[adrG,List.flatMap_append] using nd
  rw[List.nodup_append]at nd2
  exact nd2.2.2 a ha a (by simp) rfl
 have kp:∀a,a≠ra→∀o,H a=some o→upd H ra (.lst vs) a=some o:=fun a n o e=>by rw[z0i n];exact e
 obtain⟨gs',q,e1,p1,p2⟩:=z2m h.grp
 obtain⟨rfl,e3⟩:=List.append_inj' e1 rfl
 cases e3
 obtain⟨ras',a',e4,p3,p4⟩:=z2m p2.rows
 obtain⟨rfl,e5⟩:=List.append_inj' e4 rfl
 cases e5
 refine⟨kp _ (ne _ (by simp)) _ h.top,z4y (z3l p1 fun q hq rows hr=>hr.mono (Same.refl _) fun a ha=>kp a (ne a ?_)) ⟨kp _ (ne _ (by simp)) _ p2.lst,z4y (z3l p3 fun a ha r hr=>hr.mono (Same.refl _) (kp a (ne a (by simp[ha])))) ⟨vs,z0g,rp⟩⟩,nd,h.fr,h.sub.upd fra⟩
 exact List.mem_append_left _ (List.mem_cons_of_mem _ (List.mem_flatMap.mpr ⟨q,hq,ha⟩))
theorem GS.at {H0 F H:Hp}{ga:Addr}{gs:List (Addr×List Addr)}{G:List Rws}(h:GS H0 F H ga gs G):∀a∈ga::gs.flatMap adrG,∃o,H a=some o:=by
 intro a ha
 rcases List.mem_cons.mp ha with rfl|ha
 ·exact⟨_,h.top⟩
 ·obtain⟨q,hq,haq⟩:=List.mem_flatMap.mp ha
  have key:∀{gs:List (Addr×List Addr)}{G:List Rws},Paired (Grp F H) gs G→q∈gs→∃rows,Grp F H q rows:=by
   intro gs G hp hq
   induction hp with
   |nil=>cases hq
   |cons r t ih =>
    rcases List.mem_cons.mp hq with rfl|hq
    ·exact⟨_,r⟩
    ·exact ih hq
  obtain⟨rows,hg⟩:=key h.grp hq
  rcases List.mem_cons.mp haq with rfl|har
  ·exact⟨_,hg.lst⟩
  ·have key2:∀{as:List Addr}{rows:Rws},Paired (RowAt F H) as rows→a∈as→∃o,H a=some o:=by
    intro as rows hp ha
    induction hp with
    |nil=>cases ha
    |cons r t ih =>
     rcases List.mem_cons.mp ha with rfl|ha
     ·obtain⟨vs,h1,_⟩:=r;exact⟨_,h1⟩
     ·exact ih ha
   exact key2 hg.rows har
theorem GS.pushRow {H0 F H:Hp}{ga:Addr}{gs:List (Addr×List Addr)}{g p:Addr}{ras:List Addr}{G:List Rws}{rows:Rws}(h:GS H0 F H ga (gs++[(g,ras)]) (G++[rows]))(hp:H p=none)(h0:H0 p=none) :
  GS H0 F (upd (upd H p (.lst [])) g (.lst (ras.map .ref++[.ref p]))) ga (gs++[(g,ras++[p])]) (G++[rows++[[]]]):=by
 have nd:=h.nd
 have np:∀a∈ga::(gs++[(g,ras)]).flatMap adrG,a≠p:=fun a ha z=>by
  obtain⟨o,e⟩:=h.at a ha
  rw[z,hp]at e;cases e
 have eq1:ga::(gs++[(g,ras)]).flatMap adrG=(ga::gs.flatMap adrG)++g::ras:=by simp[adrG,List.flatMap_append]
 have eq2:ga::(gs++[(g,ras++[p])]).flatMap adrG=((ga::gs.flatMap adrG)++g::ras)++[p]:=by simp[adrG,List.flatMap_append]
 rw[eq1]at nd np
 have ng:∀a,a∈(ga::gs.flatMap adrG)++ras→a≠g:=by
  intro a ha z
  subst z
  rw[List.nodup_append]at nd
  rcases List.mem_append.mp ha with ha|ha
  ·exact nd.2.2 a ha a List.mem_cons_self rfl
  ·exact(List.nodup_cons.mp nd.2.1).1 ha
 have kp:∀a,a≠g→a≠p→∀o,H a=some o→upd (upd H p (.lst [])) g (.lst (ras.map .ref++[.ref p])) a=some o:=fun a n1 n2 o e=>by rw[z0i n1,z0i n2];exact e
 have gp:p≠g:=fun z=>np g (by simp) z.symm
 obtain⟨gs',q,e1,p1,p2⟩:=z2m h.grp
 obtain⟨rfl,e3⟩:=List.append_inj' e1 rfl
 cases e3
 have fp:F p=none:=by
  cases e:F p with
  |none=>rfl
  |some o=>have:=h.sub _ _ e;rw[hp]at this;cases this
 have fg:F g=none:=(h.fr g (by rw[eq1];simp)).1
 refine⟨?_,z4y (z3l p1 fun q hq rows hr=>hr.mono (Same.refl _) fun a ha=>?_) ⟨?_,z4y (z3l p2.rows fun a ha r hr=>hr.mono (Same.refl _) (kp a (ng a (List.mem_append_right _ ha)) (np a (by simp[ha])))) ⟨[],?_,rfl⟩⟩,?_,?_,(h.sub.upd fp).upd fg⟩
 ·have:=kp ga (ng ga (by simp)) (np ga (by simp)) _ h.top
  rw[this];simp
 ·have hm:a∈gs.flatMap adrG:=List.mem_flatMap.mpr ⟨q,hq,ha⟩
  exact kp a (ng a (by simp[hm])) (np a (by simp[hm]))
 ·rw[z0g];simp
 ·rw[z0i gp];exact z0g
 ·rw[eq2,List.nodup_append]
  exact⟨nd,by simp,fun a ha b hb=>by rw[List.mem_singleton.mp hb];exact np a ha⟩
 ·intro a ha
  rw[eq2]at ha
  rcases List.mem_append.mp ha with ha|ha
  ·exact h.fr a (by rw[eq1];exact ha)
  ·rw[List.mem_singleton.mp ha];exact⟨fp,h0⟩
theorem GS.pushG {H0 F H:Hp}{ga:Addr}{gs:List (Addr×List Addr)}{p1 p2:Addr}{G:List Rws}(h:GS H0 F H ga gs G)(h1:H p1=none)(h2:upd H p1 (.lst []) p2=none)(z1:H0 p1=none)(z2:H0 p2=none) :
  GS H0 F (upd (upd (upd H p1 (.lst [])) p2 (.lst [.ref p1])) ga (.lst ((gs.map fun q=>V.ref q.1)++[.ref p2]))) ga (gs++[(p2,[p1])]) (G++[[[]]]):=by
 have n21:p2≠p1:=fun z=>by rw[z,z0g]at h2;cases h2
 have h2':H p2=none:=by rw[z0i n21]at h2;exact h2
 have nn:∀p,H p=none→∀a∈ga::gs.flatMap adrG,a≠p:=fun p hp a ha z=>by
  obtain⟨o,e⟩:=h.at a ha
  rw[z,hp]at e;cases e
 have np1:=nn p1 h1
 have np2:=nn p2 h2'
 have nf:∀p,H p=none→F p=none:=fun p hp=>by
  cases e:F p with
  |none=>rfl
  |some o=>have:=h.sub _ _ e;rw[hp]at this;cases this
 have nga:∀a∈gs.flatMap adrG,a≠ga:=fun a ha z=>(List.nodup_cons.mp h.nd).1 (z ▸ ha)
 have eq2:ga::(gs++[(p2,[p1])]).flatMap adrG=(ga::gs.flatMap adrG)++[p2,p1]:=by simp[adrG,List.flatMap_append]
 have g1:ga≠p1:=np1 ga List.mem_cons_self
 have g2:ga≠p2:=np2 ga List.mem_cons_self
 refine⟨by rw[z0g];simp,z4y (z3l h.grp fun q hq rows hr=>hr.mono (Same.refl _) fun a ha o e=>?_) ⟨?_,.cons ⟨[],?_,rfl⟩ .nil⟩,?_,?_,((h.sub.upd (nf _ h1)).upd (nf _ h2')).upd (h.fr ga List.mem_cons_self).1⟩
 ·have hm:a∈gs.flatMap adrG:=List.mem_flatMap.mpr ⟨q,hq,ha⟩
  rw[z0i (nga a hm),z0i (np2 a (List.mem_cons_of_mem _ hm)),z0i (np1 a (List.mem_cons_of_mem _ hm))]
  exact e
 ·show upd _ ga _ p2=_
  rw[z0i g2.symm,z0g];rfl
 ·rw[z0i g1.symm,z0i n21.symm,z0g]
 ·rw[eq2,List.nodup_append]
  refine⟨h.nd,by simp[n21],fun a ha b hb=>?_⟩
  simp only[List.mem_cons,List.not_mem_nil,or_false]at hb
  rcases hb with rfl|rfl
  ·exact np2 a ha
  ·exact np1 a ha
 ·intro a ha
  rw[eq2]at ha
  rcases List.mem_append.mp ha with ha|ha
  ·exact h.fr a ha
  ·simp only[List.mem_cons,List.not_mem_nil,or_false]at ha
   rcases ha with rfl|rfl
   ·exact⟨nf _ h2',z2⟩
   ·exact⟨nf _ h1,z1⟩
theorem GS.popG {H0 F H:Hp}{ga:Addr}{gs:List (Addr×List Addr)}{g:Addr}{ras:List Addr}{G:List Rws}{rows:Rws}(h:GS H0 F H ga (gs++[(g,ras)]) (G++[rows])) :
  ∃F',Same F F'∧GS H0 F' (upd H ga (.lst (gs.map fun q=>V.ref q.1))) ga gs G∧Rep F' (.lst (rows.map fun r=>.lst (r.map patD))) (.ref g)∧NWs F F' H0:=by
 have nd:=h.nd
 have eq1:ga::(gs++[(g,ras)]).flatMap adrG=(ga::gs.flatMap adrG)++g::ras:=by simp[adrG,List.flatMap_append]
 rw[eq1]at nd
 have nd':=List.nodup_append.mp nd
 have fr:∀a∈g::ras,F a=none:=fun a ha=>(h.fr a (by rw[eq1];exact List.mem_append_right _ ha)).1
 have ap:∀a∈ga::gs.flatMap adrG,a∉g::ras:=fun a ha hb=>nd'.2.2 a ha a hb rfl
 let F':Hp:=fun a=>if a∈g::ras then H a else F a
 have fin:∀a,a∈g::ras→F' a=H a:=fun a ha=>if_pos ha
 have fout:∀a,a∉g::ras→F' a=F a:=fun a ha=>if_neg ha
 have s1:Same F F':=fun a o e=>by
  have:a∉g::ras:=fun z=>by rw[fr a z]at e;cases e
  rw[fout a this];exact e
 have s2:Same F' H:=fun a o e=>by
  by_cases z:a∈g::ras
  ·rw[fin a z]at e;exact e
  ·rw[fout a z]at e;exact h.sub _ _ e
 obtain⟨gs',q,e1,p1,p2⟩:=z2m h.grp
 obtain⟨rfl,e3⟩:=List.append_inj' e1 rfl
 cases e3
 have fga:F' ga=none:=by rw[fout ga (ap ga List.mem_cons_self)];exact(h.fr ga List.mem_cons_self).1
 have nga:∀a∈gs.flatMap adrG,a≠ga:=fun a ha z=>(List.nodup_cons.mp nd'.1).1 (z ▸ ha)
 refine⟨F',s1,⟨z0g,z3l p1 fun q hq rows hr=>hr.mono s1 fun a ha o e=>?_,nd'.1,fun a ha=>⟨?_,(h.fr a (by rw[eq1];exact List.mem_append_left _ ha)).2⟩,s2.upd fga⟩,⟨g,ras.map .ref,rfl,?_,?_⟩,fun a o e n=>?_⟩
 ·rw[z0i (nga a (List.mem_flatMap.mpr ⟨q,hq,ha⟩))];exact e
 ·rw[fout a (ap a ha)];exact(h.fr a (by rw[eq1];exact List.mem_append_left _ ha)).1
 ·rw[fin g List.mem_cons_self];exact p2.lst
 ·have key:∀{as:List Addr}{rows:Rws},Paired (RowAt F H) as rows→(∀a∈as,a∈g::ras)→Reps F' (rows.map fun r=>D.lst (r.map patD)) (as.map V.ref):=by
   intro as rows hp
   induction hp with
   |nil=>intro _;rfl
   | @cons a r as rows hr t ih =>
    intro hm
    obtain⟨vs,h1,h2⟩:=hr
    exact⟨.ref a,as.map V.ref,rfl,⟨a,vs,rfl,by rw[fin a (hm a List.mem_cons_self)];exact h1,Reps.mono s1 _ _ h2⟩,ih fun b hb=>hm b (List.mem_cons_of_mem _ hb)⟩
  exact key p2.rows fun a ha=>List.mem_cons_of_mem _ ha
 ·by_cases z:a∈g::ras
  ·exact(h.fr a (by rw[eq1];exact List.mem_append_right _ z)).2
  ·rw[fout a z,n]at e;cases e
open PySem L2 VL Pap
local macro_rules|`(tactic| walk_at "rd")=>do
 let v←("L2.start x0w x1s rIsX tTry z9x y0r tSeq tNext tAsg y2e tVar tC tOp tUn rI0 rU tTest tIfS tRet tDrop x0x tCB x0p tNil tBM tNot tAnd tOr tB tTup tLst tSl y0b tPart tIf rEq rNe scal z8p rPop rCat gTup gCons gNil tLM tLM0 tDIn z8q sDPut x3e z4w z0g and_imp ne_eq atI2 HO.lst.injEq HO.tup.injEq cxOf_K cxOf_A Int.toNat_natCast x2z tFor_l List.map_cons List.map_nil List.length_cons List.length_nil Nat.reduceAdd Nat.reduceSub List.replicate_succ List.replicate_zero List.cons_append List.nil_append List.append_nil List.getElem?_cons_zero List.getElem?_cons_succ List.set_cons_zero List.set_cons_succ Option.some.injEq V.int.injEq V.str.injEq V.ref.injEq V.bl.injEq V.ty.injEq List.cons.injEq exists_eq_left' exists_eq_left exists_eq' and_true true_and and_assoc exists_and_left reduceCtorEq false_and exists_false false_or or_false decide_eq_true_eq if_true if_false Bool.true_eq_false Bool.false_eq_true Bool.not_true Bool.not_false Bool.not_eq_eq_eq_not tGget x3o rPart tFor_k".splitOn " ").mapM fun n=>`(Lean.Parser.Tactic.simpLemma| $(Lean.mkIdent n.toName):term)
 `(tactic| simp only[$(v.toArray),*])
local macro_rules|`(tactic| walk_at "rs")=>do
 let v←("L2.start x0w x1s rIsX tTry z9x y0r tSeq tNext tAsg y2e tVar tC tOp tUn rI0 rU tTest tRet tDrop x0x tCB x0p tNil tBM tNot tAnd tOr tB tTup tLst tSl y0b tPart tIf rEq rNe scal z8p rPop rCat gTup gCons gNil tLM tLM0 tDIn z8q sDPut x3e z4w z0g and_imp ne_eq atI2 HO.lst.injEq HO.tup.injEq cxOf_K cxOf_A Int.toNat_natCast x2z tFor_l List.map_cons List.map_nil List.length_cons List.length_nil Nat.reduceAdd Nat.reduceSub List.replicate_succ List.replicate_zero List.cons_append List.nil_append List.append_nil List.getElem?_cons_zero List.getElem?_cons_succ List.set_cons_zero List.set_cons_succ Option.some.injEq V.int.injEq V.str.injEq V.ref.injEq V.bl.injEq V.ty.injEq List.cons.injEq exists_eq_left' exists_eq_left exists_eq' and_true true_and and_assoc exists_and_left reduceCtorEq false_and exists_false false_or or_false decide_eq_true_eq if_true if_false Bool.true_eq_false Bool.false_eq_true Bool.not_true Bool.not_false Bool.not_eq_eq_eq_not tGget x3o rPart tFor_k".splitOn " ").mapM fun n=>`(Lean.Parser.Tactic.simpLemma| $(Lean.mkIdent n.toName):term)
 `(tactic| simp only[$(v.toArray),*])
theorem z2a {R:RD}{vs:List V}{ds:List D}{H:Hp}{Q:VK}{E:XK}{Qd:Bool→D→List Slot→Prop}(r:Reps H ds vs)(h:R (ds.map .fz) Qd)(k:∀b d δ' v H',Same H H'→Qd b d δ'→Rep H' d v→Q v H'):spD R vs H Q E:=by
 refine⟨_,[],H,_,Qd,fun p a e=>by simp at e,y2j (Same.refl _) r,h,fun b d v δ' F' H' I q=>?_⟩
 obtain⟨F2,s,I2,rv⟩:=I.fr
 exact k b d δ' v H' I.base q (Rep.mono I2.sub _ _ rv)
theorem spD_F {R:RD}{vs:List V}{ds:List D}{F H:Hp}{Q:VK}{E:XK}{Qd:Bool→D→List Slot→Prop}(s:Same F H)(r:Reps F ds vs)(h:R (ds.map .fz) Qd)(k:∀b d δ' v F' H',Same H H'→Same F F'→Same F' H'→(∀a o,F' a=some o→F a=none→H a=none)→Qd b d δ'→Rep F' d v→Q v H'):spD R vs H Q E:=by
 refine⟨_,[],F,_,Qd,fun p a e=>by simp at e,y2j s r,h,fun b d v δ' F' H' I q=>?_⟩
 obtain⟨F2,s2,I2,rv⟩:=I.fr
 exact k b d δ' v F2 H' I.base I2.ext I2.sub I2.new q rv
theorem hu1 {n:Nat}(h:n+100<cLine):n+1<cLine:=by omega
def OutG (adr:List Addr)(H H':Hp):Prop:=∀a o,H a=some o→a∉adr→H' a=some o
section
variable {P:Program}{w:World}{K:PySem.W.Frag}{mg:Str→Option Value}{base:Heap}{f:Addr}{fd:FuncData}{aM aK:Addr}
def y8b:Sp:=fun vs H Q _=>∃(H0 F:Hp) (ga:Addr) (gs:List (Addr×List Addr)) (k:List Rws) (rows:Rws),vs=[.ref ga]∧GS H0 F H ga gs (k.reverse++[rows])∧Same H0 H∧rows.length≤100000∧(∀r∈rows,r.length≤100000)∧(∀r∈k,r≠[]∧∀x∈r,x.length≤100000) ∧
 ∀(b:Bool) (H':Hp),OutG (ga::gs.flatMap adrG) H H'→(match z6l rows,k with
  |some p,r0::k'=>b=true∧∃F' gs',Same F F'∧NWs F F' H0∧GS H0 F' H' ga gs' (k'.reverse++[addL r0 p])
  |_,_=>b=false)→Q (.bl b) H'
theorem u7o {f1 f2:Addr}{fd1 fd2:FuncData}(u0s:Ent K mg "close_bracket" u1c ["groups"] f fd)(T:Zs K mg)(u2a:Ent K mg "folded" u3n ["rows"] f1 fd1)(u0u:Ent K mg "gathered" u2h ["kind","patterns"] f2 fd2):FnOk P w K mg base CX0 3 f fd ["groups"] y8b:=by
 have u5i:FnOk P w K mg base CX0 2 f1 fd1 _ (spD u6t):=x0s u2a T u0u
 refine u0s.F.ok u4h (fun vs H Q E h=>?_) (fun cdv A outer s H vs Q E hr h=>?_)
 ·obtain⟨_,_,_,_,_,_,rfl,_⟩:=h;rfl
 ·obtain⟨H0,F,ga,gs,k,rows,rfl,h,s0,hl,hrl,hne,q⟩:=h
  have hu:=z5b hr
  refine⟨_,(z0k (z2g (i:=1) u4h.nd rfl (Or.inl rfl) (z1e u5i (hr.mono (by decide)) rfl u2a.g u2a.F.kp u2a.b .nil z0z (z0d (x2l PySem.F.slot_list_pop PySem.F.type_list_pop mt_pop (pv 0)) z0j)))
   (z0k (z3u (PW.pt (y6n (z1y op_isN (pv 1) z6h (z0u _)) (y1u (z8a (z6w (pv 0) (fun _=>rfl)))))) (z0q (z3t y1w)) z1w)
   (z0k (z2t (z9h PySem.F.slot_list_append PySem.F.type_list_append z1p (z2w z2c (z2w z2c (pv 0) (x0b y2g z1h) (fun _ _=>rfl)) (x0b y2g z1h) (fun _ _=>rfl)) (z0d (pv 1) z0j)))
   (z0q (z3t y1w))))),?_⟩
  have sz:=z0x
  walk_at "rs"
  obtain⟨gs,⟨g,ras⟩,rfl,p1,p2⟩:=z2m h.grp
  have ht:=h.top
  refine⟨⟨_,ht⟩,_,ht,.ref g,by simp,?_⟩
  obtain⟨F',s1,G1,rp,nw1⟩:=h.popG
  have ed:((gs++[(g,ras)]).map fun q=>V.ref q.1).dropLast=gs.map fun q=>V.ref q.1:=by simp
  rw[ed]
  have out1:OutG (ga::(gs++[(g,ras)]).flatMap adrG) H (upd H ga (.lst (gs.map fun q=>V.ref q.1))):=fun a o e n=>by
   have na:a≠ga:=fun z=>n (by rw[z];exact List.mem_cons_self)
   rw[z0i na];exact e
  refine spD_F (ds:=[.lst (rows.map fun r=>.lst (r.map patD))]) (Qd:=fun _ d _=>d=optP (z6l rows)) G1.sub ⟨.ref g,[],rfl,rp,rfl⟩ ⟨rows,rfl,hl,hrl,rfl⟩ fun b d δ' v F2 H2 s2 sF s3 new ed rv=>?_
  subst ed
  have nw2:NWs F' F2 H0:=fun a o e n=>by
   have:=new a o e n
   by_cases z:a=ga
   ·rw[z,z0g]at this;cases this
   ·rw[z0i z]at this;exact s0.free this
  have out2:OutG (ga::(gs++[(g,ras)]).flatMap adrG) H H2:=fun a o e n=>s2 _ _ (out1 a o e n)
  cases e:z6l rows with
  |none =>
   rw[e]at rv
   have hv:v=.non:=rv
   subst hv
   unfold tIfS
   walk_at "rd"
   exact q false H2 out2 (by simp[e])
  |some p =>
   rw[e]at rv
   obtain⟨va,rfl⟩:∃va,v=.ref va:=by
    have rv':Rep F2 (patD p) v:=rv
    cases p<;>(obtain⟨a,_,e1,_⟩:=rv';exact⟨a,e1⟩)
   have G2:GS H0 F2 H2 ga gs k.reverse:=G1.mono sF s3 (fun a ha=>by
    cases ea:F2 a with
    |none=>rfl
    |some o =>
     obtain⟨o',eo⟩:=G1.at a ha
     have:=new a o ea (G1.fr a ha).1
     rw[eo]at this;cases this) fun a ha o e=>s2 _ _ e
   have htop:=G2.top
   unfold tIfS
   walk_at "rd"
   cases k with
   |nil =>
    have hg:gs=[]:=by
     have:=G2.grp
     cases gs with
     |nil=>rfl
     |cons a b=>cases this
    subst hg
    refine⟨false,.inl ⟨_,SqL.of htop,rfl⟩,?_⟩
    rw[if_pos rfl]
    exact q false H2 out2 (by simp[e])
   |cons r0 k' =>
    obtain⟨hn0,hb0⟩:=hne r0 List.mem_cons_self
    have e0:r0=r0.dropLast++[r0.getLast hn0]:=(List.dropLast_concat_getLast hn0).symm
    generalize r0.dropLast=rs at e0
    generalize r0.getLast hn0=r at e0
    subst e0
    rw[List.reverse_cons]at G2
    obtain⟨gs2,⟨g2,ras2⟩,rfl,q1,q2⟩:=z2m G2.grp
    obtain⟨ras3,ra,e5,q3,q4⟩:=z2m q2.rows
    have e5':ras2=ras3++[ra]:=e5
    subst e5'
    obtain⟨vs,hra,rvs⟩:=q4
    have hl3:=rvs.len
    have hb1:=hb0 r (by simp)
    rw[List.length_map]at hl3
    have at1:∀(xs:List V) (x:V),atI (xs++[x]) (-1)=some x:=fun xs x=>by
     unfold atI ixN
     rw[if_neg (by decide),if_pos (by simp;omega)]
     have:(-1+((xs++[x]).length:Int)).toNat=xs.length:=by simp;omega
     rw[Option.bind_some,this]
     simp
    refine⟨true,.inl ⟨_,SqL.of htop,by simp⟩,?_⟩
    rw[if_neg (by simp)]
    refine⟨_,htop,.ref g2,by rw[List.map_append];exact at1 _ _,g2,rfl,_,q2.lst,.ref ra,by rw[List.map_append];exact at1 _ _,ra,rfl,⟨_,hra⟩,vs,hra,by omega,?_⟩
    have G3:=G2.setRow (r':=r++[p]) (vs:=vs++[.ref va]) (by rw[List.map_append];exact rvs.app (Reps.one rv))
    refine q true _ (fun a o ea na=>?_) ?_
    ·have nr:a≠ra:=fun z=>na (by rw[z];simp[adrG])
     rw[z0i nr];exact out2 a o ea na
    ·rw[e]
     exact⟨rfl,F2,_,s1.trans sF,nw1.trans nw2,by rw[z6s];exact G3⟩
end
open PySem L2 VL Pap
def z1s (r:Str×Pat):D:=.tup [.str r.1,patD r.2]
theorem z3n (root:Str)(rules:List (Str×Pat)):z3g root rules=.tup [.str root,.lst (rules.map z1s)]:=rfl
theorem metS_nd:∀(l acc:List Str),(acc++l).Nodup→l.foldl z6b acc=acc++l
 | [],acc,_=>by simp
 |x::l,acc,nd=>by
  have hx:x∉acc:=fun h=>by
   rw[List.nodup_append]at nd
   exact nd.2.2 x h x List.mem_cons_self rfl
  rw[List.foldl_cons]
  have e:z6b acc x=acc++[x]:=by unfold z6b;rw[if_neg hx]
  rw[e,metS_nd l (acc++[x]) (by simpa using nd)]
  simp
theorem y2f (ks:List Str):(List.range ks.length).map (fun i=>ks.getD i "")=ks:=by
 apply List.ext_getElem
 ·simp
 ·intro i h1 h2
  simp
  rw[List.getElem?_eq_getElem h2]
  rfl
theorem y9n {ks:List Str}(nd:ks.Nodup):(metS (fun i=>ks.getD i "") ks.length).length=ks.length:=by
 unfold metS
 rw[y2f,metS_nd ks [] (by simpa using nd)]
 simp
theorem putS_len (kds:List (Key×D))(k:Str)(v:D):(putS kds k v).length≤kds.length+1:=by
 unfold putS
 split<;>simp
theorem y4i (kds:List (Key×D))(k j:Str)(d:D):getS (putS kds k d) j=if j=k then some d else getS kds j:=by
 unfold putS
 split
 ·rename_i h
  induction kds with
  |nil=>simp at h
  |cons a r ih =>
   by_cases ha:a.1=.inr k
   ·by_cases hj:j=k
    ·subst hj;simp[getS,List.find?_cons,ha]
    ·have:¬(Sum.inr k:Key)=.inr j:=fun z=>hj (Sum.inr.inj z).symm
     rw[if_neg hj]
     simp only[getS,List.map_cons,ha,if_true,List.find?_cons,this,decide_false]
     clear ih h
     induction r with
     |nil=>rfl
     |cons b r ih =>
      simp only[List.map_cons,List.find?_cons]
      by_cases hb:b.1=.inr k
      ·simp only[hb,if_true,this,decide_false];exact ih
      ·simp only[hb,if_false]
       cases decide (b.1=Sum.inr j) with
       |true=>rfl
       |false=>exact ih
   ·have h':(r.any fun kv=>decide (kv.1=.inr k))=true:=by simpa[ha] using h
    have:=ih h'
    simp only[getS,List.map_cons,ha,if_false,List.find?_cons]at this ⊢
    by_cases hj:j=k
    ·subst hj;simpa[ha] using this
    ·cases decide (a.1=Sum.inr j) with
     |true=>simp[hj]
     |false=>exact this
 ·rename_i h
  unfold getS
  rw[List.find?_append]
  by_cases hj:j=k
  ·subst hj
   have:kds.find? (fun kv=>decide (kv.1=.inr j))=none:=by
    rw[List.find?_eq_none]
    intro x hx hd
    exact h (List.any_eq_true.mpr ⟨x,hx,hd⟩)
   simp[this]
  ·rw[if_neg hj]
   have:¬(Sum.inr k:Key)=.inr j:=fun z=>hj (Sum.inr.inj z).symm
   simp[List.find?_cons,this]
theorem boot_VE:bootBuiltins "ValueError" = some (.type "ValueError"):=by decide +kernel
inductive Kd where
 |tw|nn|st
def Kd.str:Kd→Str
 |.tw=>"twice"
 |.nn=>"none"
 |.st=>"stars"
def Kd.cls (CT CN CS:Addr):Kd→Addr
 |.tw=>CT
 |.nn=>CN
 |.st=>CS
def isK:Option Kd→Kd→Bool
 |some .tw,.tw=>true
 |some .nn,.nn=>true
 |some .st,.st=>true
 |_,_=>false
def tyK (CT CN CS:Addr):Option Kd→Value
 |none=>.type "NoneType"
 |some c=>.ref (c.cls CT CN CS)
structure XR (K:PySem.W.Frag)(mg:Str→Option Value)(CF CT CN CS Ct Cp Ck:Addr):Prop where
 z_ValueError:mg "ValueError" = none
 g_FerryError:mg "FerryError" = some (.ref CF)
 q_FerryError:fxIn K CF=true
 g_Twice:mg "Twice" = some (.ref CT)
 g_NoName:mg "NoName" = some (.ref CN)
 g_Stars:mg "Stars" = some (.ref CS)
 g_NoText:mg "NoText" = some (.ref Ct)
 g_NoPort:mg "NoPort" = some (.ref Cp)
 g_Taken:mg "Taken" = some (.ref Ck)
 i_Twice:∃fI fd od osl,xcIn K CT (.ref CF::mroV) fI=true∧Fun K "__init__" "Twice.__init__" i_Twice fI fd∧Binds K fd ["self","name"] []∧K.lookup fI=some ⟨.type "function",od,.func fd,osl⟩
 i_NoName:∃fI fd od osl,xcIn K CN (.ref CF::mroV) fI=true∧Fun K "__init__" "NoName.__init__" i_NoName fI fd∧Binds K fd ["self","name"] []∧K.lookup fI=some ⟨.type "function",od,.func fd,osl⟩
 i_Stars:∃fI fd od osl,xcIn K CS (.ref CF::mroV) fI=true∧Fun K "__init__" "Stars.__init__" i_Stars fI fd∧Binds K fd ["self","name"] []∧K.lookup fI=some ⟨.type "function",od,.func fd,osl⟩
 k_Twice:PySem.W.keepIn K (.ref CT)=true
 k_NoName:PySem.W.keepIn K (.ref CN)=true
 k_Stars:PySem.W.keepIn K (.ref CS)=true
 n_Twice:∀t:Option Kd,PySem.W.kitOne K (tyK CT CN CS t) (.ref CT)=some (isK t .tw)
 n_NoName:∀t:Option Kd,PySem.W.kitOne K (tyK CT CN CS t) (.ref CN)=some (isK t .nn)
 n_Stars:∀t:Option Kd,PySem.W.kitOne K (tyK CT CN CS t) (.ref CS)=some (isK t .st)
 n_NoText:∀t:Option Kd,PySem.W.kitOne K (tyK CT CN CS t) (.ref Ct)=some (false)
 n_NoPort:∀t:Option Kd,PySem.W.kitOne K (tyK CT CN CS t) (.ref Cp)=some (false)
 n_Taken:∀t:Option Kd,PySem.W.kitOne K (tyK CT CN CS t) (.ref Ck)=some (false)
 n_ValueError:∀t:Option Kd,PySem.W.kitOne K (tyK CT CN CS t) (.type "ValueError")=some (t.isSome)
section
variable {P:Program}{w:World}{K:PySem.W.Frag}{mg:Str→Option Value}{base:Heap}{f:Addr}{fd:FuncData}{CF CT CN CS Ct Cp Ck:Addr}
theorem XR.x_Twice (Y:XR K mg CF CT CN CS Ct Cp Ck):XK1 P w K mg base "Twice" "name" CT:=by
 obtain⟨fI,fd,od,osl,q,F,b,lk⟩:=Y.i_Twice
 exact⟨⟨_,fI,fd,q,x3j F si_Twice rfl q (by simp),b,_,lk,rfl⟩,Y.g_Twice,Y.k_Twice⟩
theorem XR.x_NoName (Y:XR K mg CF CT CN CS Ct Cp Ck):XK1 P w K mg base "NoName" "name" CN:=by
 obtain⟨fI,fd,od,osl,q,F,b,lk⟩:=Y.i_NoName
 exact⟨⟨_,fI,fd,q,x3j F x1p rfl q (by simp),b,_,lk,rfl⟩,Y.g_NoName,Y.k_NoName⟩
theorem _root_.L2.Fun.okX {x qual:Str}{st:Stmt}{f:Addr}{fd:FuncData}{N ps:List Str}{k:Nat}{sp:Sp}(F:Fun K x qual st f fd)(S:FnScope N ps (z0b st))(len:∀vs H Q E,sp vs H Q E→vs.length=ps.length)
  (hbody:∀(cdv:Value) (A:Around) (outer:List Env) (s:Shared) (H:Hp) (vs:List V) (Q:VK) (E:XK),Room k (A.deeper (PyProof.Rows.envOfC qual (z0b st) s.heap.objs.size f cdv))→sp vs H Q E →
   ∃t,PSs (cxOf (CX1 P w) P w K mg base N qual (z0b st) f cdv A outer s H E) (z0p st) t∧t { nx:=fun _ H'=>Q .non H',rt:=Q } (start N vs) H):FnOk P w K mg base (CX1 P w) (k+1) f fd ps sp:=by
 obtain⟨oc,od,kV,doc,pm,an,cdv,ct,osl,rfl,lk,hcd⟩:=F.ex
 exact fn_of lk hcd S len fun A outer s H vs Q E hr hsp=>hbody cdv A outer s H vs Q E hr hsp
def XWish (C:Addr)(nm:Str)(H:Hp)(E:XK):Prop:=∀x dx H',Same H H'→H' x=some (XO C dx x)→H' dx=some (.xd [("name",.str nm)])→E (.ref x) (some dx) H'
theorem y9m {H H1:Hp}{x dx:Addr}{o1 o2:HO}(s:Same H H1)(n1:H1 x=none)(n2:H1 dx=none):Same H (upd (upd H1 dx o1) x o2):=fun b o e=>by
 have e1:=s b o e
 rw[z0i (z0n e1 n1),z0i (z0n e1 n2)];exact e1
theorem XWish.mono {C:Addr}{nm:Str}{H H1:Hp}{E:XK}(s:Same H H1)(h:XWish C nm H E):XWish C nm H1 E:=fun x dx H' s'=>h x dx H' (s.trans s')
end
theorem met_le:∀(l acc:List Str),(l.foldl z6b acc).length≤acc.length+l.length
 | [],acc=>Nat.le_refl _
 |x::l,acc=>by
  have h:=met_le l (z6b acc x)
  have h2:(z6b acc x).length≤acc.length+1:=by unfold z6b;split<;>simp
  rw[List.foldl_cons,List.length_cons];omega
theorem met_lt:∀(l acc:List Str),acc.Nodup→¬(acc++l).Nodup→(l.foldl z6b acc).length<acc.length+l.length
 | [],acc,h,n=>absurd (by simpa using h) n
 |x::l,acc,h,n=>by
  rw[List.foldl_cons,List.length_cons]
  by_cases hx:x∈acc
  ·rw[show z6b acc x=acc by unfold z6b;rw[if_pos hx]]
   have:=met_le l acc
   omega
  ·rw[show z6b acc x=acc++[x] by unfold z6b;rw[if_neg hx]]
   have nd:(acc++[x]).Nodup:=List.nodup_append.mpr ⟨h,by simp,fun a ha b hb e=>hx (by simp at hb;rw[←hb,←e];exact ha)⟩
   have:=met_lt l (acc++[x]) nd (by simpa using n)
   rw[List.length_append,List.length_singleton]at this
   omega
theorem z9l (ks:List Str):((metS (fun i=>ks.getD i "") ks.length).length<ks.length)↔¬ks.Nodup:=by
 constructor
 ·intro h nd
  rw[y9n nd]at h
  omega
 ·intro h
  unfold metS
  rw[y2f]
  have:=met_lt ks [] List.nodup_nil (by simpa using h)
  simpa using this
def twGo:List Str→List (Str×Pat)→Option Str
 |_,[]=>none
 |met,r::rs=>if r.1∈met ∨ ¬(z0o r.2).Nodup then some r.1 else twGo (met++[r.1]) rs
def badS (names:List Str)(s:Str):Bool:=decide (s ≠ "#")&&decide (s∉names)
def nmGo (names:List Str)(rules:List (Str×Pat)):Option Str:=(rules.flatMap fun r=>z0o r.2).find? (badS names)
def z2i (root:Str)(rules:List (Str×Pat)):Option (Kd×Str):=match twGo [] rules with
 |some n=>some (.tw,n)
 |none=>if root∈rules.map (·.1) then(nmGo (rules.map (·.1)) rules).map fun s=>(.nn,s) else some (.nn,root)
structure FormX (rules:List (Str×Pat)):Prop where
 len:rules.length≤20
 pat:∀r∈rules,szP r.2≤100∧dpP r.2≤30
def y6y (ns:List Str):List (Key×V):=ns.map fun n=>(Sum.inr n,.bl true)
theorem seenN_get (ns:List Str)(nm:Str):(valV (y6y ns) (Sum.inr nm)).isSome=decide (nm∈ns):=by
 unfold valV y6y
 rw[Option.isSome_map]
 by_cases h:nm∈ns
 ·rw[decide_eq_true h,List.find?_isSome]
  exact⟨_,List.mem_map.mpr ⟨nm,h,rfl⟩,by simp⟩
 ·rw[decide_eq_false h,Bool.eq_false_iff]
  intro z
  rw[List.find?_isSome]at z
  obtain⟨x,hx,hd⟩:=z
  obtain⟨n,hn,rfl⟩:=List.mem_map.mp hx
  have e:n=nm:=by simpa using hd
  rw[←e]at h
  exact h hn
theorem seenN_put {ns:List Str}{nm:Str}(h:nm∉ns):putK (y6y ns) (Sum.inr nm) (.bl true)=y6y (ns++[nm]):=by
 unfold putK
 rw[if_neg]
 ·simp[y6y]
 ·intro z
  obtain⟨x,hx,hd⟩:=List.any_eq_true.mp z
  obtain⟨n,hn,rfl⟩:=List.mem_map.mp hx
  have e:n=nm:=by simpa using hd
  rw[←e]at h
  exact h hn
section
variable {P:Program}{w:World}{K:PySem.W.Frag}{mg:Str→Option Value}{base:Heap}{f:Addr}{fd:FuncData}{CF CT CN CS Ct Cp Ck:Addr}
def u8h (CT:Addr):Sp:=fun vs H _ E=>∃(rules:List (Str×Pat)) (v:V) (nm:Str),vs=[v]∧Rep H (.lst (rules.map z1s)) v∧FormX rules∧twGo [] rules=some nm∧XWish CT nm H E
theorem p0p {f1 f2:Addr}{fd1 fd2:FuncData}(Y:XR K mg CF CT CN CS Ct Cp Ck)(u0j:Ent K mg "look_twice" u1p ["rules"] f fd)(T:Zs K mg)(u0r:Ent K mg "signs" u3q ["pattern"] f1 fd1)(u0b:Ent K mg "patterns_within" u0g ["pattern"] f2 fd2):FnOk P w K mg base (CX1 P w) 34 f fd ["rules"] (u8h CT):=by
 have u4f:FnOk P w K mg base CX0 33 f1 fd1 _ (spD (y0x 31)):=z9i u0r T u0b 31
 refine u0j.F.okX u1j (fun vs H Q E h=>?_) (fun cdv A outer s H vs Q E hr h=>?_)
 ·obtain⟨_,_,_,rfl,_⟩:=h;rfl
 ·obtain⟨rules,v,nm0,rfl,rep,fx,hdue,wish⟩:=h
  have hu:=z5b hr
  refine⟨_,(z0k (z2g (i:=1) u1j.nd rfl (Or.inl rfl) y9b)
   (z0q (z9c PassesOwn.leaving rfl (z8k (pv 0)) (y5v rfl (z5i (z4o (i:=2) u1j.nd rfl (Or.inl rfl)) (z5i (z4o (i:=3) u1j.nd rfl (Or.inl rfl)) y1p))) (z0k (z2g (i:=4) u1j.nd rfl (Or.inl rfl) (z1e u4f (hr.mono (by omega)) rfl u0r.g u0r.F.kp u0r.b .nil z0z (z0d (pv 3) z0j)))
   (z0k (z3u (PW.pt (y6n (y5x (pc_din (hu1 hu) (pv 2) (pv 1)) rfl) (y1u (z1y y4a (y4z rfl rfl T.z_len rfl T.z_set (pv 4)) (z3e z1d rfl T.z_len PySem.boot_len (z0d (pv 4) z0j)) (z0u _))))) (z0q (y3o Y.x_Twice (hr.mono (by omega)) rfl (z0d (pv 2) z0j))) z1w)
   (z0q (x2k (hu1 hu) (pv 1) (pv 2) y1w rfl))))))),?_⟩
  have sz:=z0x
  have hl:=fx.len
  obtain⟨a,us,rfl,ha,rs⟩:=rep
  walk_at "rs"
  have hlen:us.length=rules.length:=by have:=rs.len;simpa using this.symm
  refine fun p hp=>⟨⟨us,SqL.of (by rw[z0i (z0n ha hp)];exact ha)⟩,x1d (xs:=us) (fun i σ H'=>∃pre suf x2 x3 x4,rules=pre++suf∧pre.length=i∧twGo (pre.map (·.1)) suf=some nm0∧σ=[some (.ref a),some (.ref p),x2,x3,x4]∧Same H H'∧H' p=some (.dK (y6y (pre.map (·.1))))) ⟨[],rules,none,none,none,rfl,rfl,hdue,rfl,fun b ob e=>by rw[z0i (z0n e hp)];exact e,z0g⟩ (fun i σ H' _ h=>?_) (fun i x σ H' hx h=>?_) fun σ H' h=>?_⟩
  ·obtain⟨_,_,_,_,_,_,_,_,_,sm,_⟩:=h
   exact SqL.of (sm _ _ ha)
  ·obtain⟨pre,suf,x2,x3,x4,e1,e2,e3,rfl,sm,hd⟩:=h
   have hi:=(List.getElem?_eq_some_iff.mp hx).1
   cases suf with
   |nil=>rw[List.append_nil]at e1;rw[e1,e2]at hlen;omega
   |cons r0 suf =>
    obtain⟨nm,pt⟩:=r0
    obtain⟨o1,o2⟩:=fx.pat (nm,pt) (by rw[e1];simp)
    have o1:szP pt≤100:=o1
    have o2:dpP pt≤30:=o2
    obtain⟨v,hv,rv⟩:=rs.get (i:=i) (d:=z1s (nm,pt)) (by rw[e1];simp[←e2])
    rw[hx]at hv
    cases hv
    obtain⟨t,vs2,rfl,ht,v1,r1,rfl,rv1,v2,r2,rfl,rv2,r3⟩:=rv
    cases(show r2=[] from r3)
    cases(show v1=.str nm from rv1)
    have ht2:=sm _ _ ht
    walk_at "rs"
    refine⟨_,.inl (.inl ht2),rfl,_,_,rfl,_,_,rfl,rfl,?_⟩
    rw[show twGo (pre.map (·.1)) ((nm,pt)::suf)=(if nm∈pre.map (·.1) ∨ ¬(z0o pt).Nodup then some nm else twGo (pre.map (·.1)++[nm]) suf) from rfl]at e3
    refine z2a (ds:=[patD pt]) (Reps.one (Rep.mono sm _ _ rv2)) (Qd:=fun _ d _=>d=.lst ((z0o pt).map .str)) ⟨pt,rfl,by omega,by omega,rfl⟩ fun b d δ' v H2 s2 qd r2=>?_
    cases qd
    obtain⟨l,lv,rfl,hlv,rl⟩:=r2
    have elv:=rl.strs
    subst elv
    walk_at "rd"
    have sl:=z3h pt
    have wx:nm0=nm→∀(x dx:Addr),H2 x=none→H2 dx=none→¬dx=x→E (Value.ref x) (some dx) (upd (upd H2 dx (HO.xd [("name",V.str nm)])) x (XO CT dx x)):=fun en x dx n1 n2 n3=>by
     subst en
     exact wish x dx _ (y9m (sm.trans s2) n1 n2) z0g (by rw[z0i n3,z0g])
    refine⟨_,DGet.o (s2 _ _ hd),?_⟩
    rw[seenN_get]
    simp only[decide_eq_true_eq]
    refine ite2 (fun hn=>wx ?_) fun hn=>⟨z0o pt,hlv,by omega,_,hlv,ite2 (fun h=>wx ?_) fun h=>?_⟩
    ·rw[if_pos (.inl hn)]at e3
     exact(Option.some.inj e3).symm
    ·rw[if_pos (.inr ((z9l _).mp (by rw[List.length_map]at h;omega)))]at e3
     exact(Option.some.inj e3).symm
    ·have nd:(z0o pt).Nodup:=by
      by_cases z:(z0o pt).Nodup
      ·exact z
      ·exact absurd (by have:=(z9l _).mpr z;rw[List.length_map];omega) h
     rw[if_neg (by rintro(z|z);exact hn z;exact z nd)]at e3
     have hpl:pre.length≤rules.length:=by rw[e1];simp
     refine⟨_,DPut.s (s2 _ _ hd) (by simp[y6y];omega),pre++[(nm,pt)],suf,by simp[e1],by simp[e2],by rw[List.map_append];exact e3,fun b o e=>?_,by rw[z0g,seenN_put hn];simp⟩
     have e4:=(sm.trans s2) b o e
     rw[z0i]
     ·exact e4
     ·intro z;subst z
      rw[hp]at e;cases e
  ·obtain⟨pre,suf,x2,x3,x4,e1,e2,e3,rfl,sm,hd⟩:=h
   rw[hlen]at e2
   have:suf=[]:=by
    have:=congrArg List.length e1
    rw[List.length_append]at this
    exact List.eq_nil_of_length_eq_zero (by omega)
   subst this
   cases e3
end
open PySem L2 VL Pap
def tabF (rules:List (Str×Pat)):List (Key×D):=rules.foldl (fun acc r=>putS acc r.1 (patD r.2)) []
def z6n:List (Str×Pat)→Str→Option Pat
 | [],_=>none
 |r::rs,s=>if r.1=s then some r.2 else z6n rs s
theorem y6k (r:Str×Pat)(rs:List (Str×Pat))(s:Str):z6n (r::rs) s=if r.1=s then some r.2 else z6n rs s:=rfl
theorem z7b {s:Str}:∀{rules:List (Str×Pat)},s∉rules.map (·.1)→z6n rules s=none
 | [],_=>rfl
 |r::rs,h=>by
  simp at h
  unfold z6n
  rw[if_neg (fun e=>h.1 e.symm)]
  exact z7b (by simpa using h.2)
theorem z7c {s:Str}:∀{rules:List (Str×Pat)},s∈rules.map (·.1)→∃p,z6n rules s=some p
 |r::rs,h=>by
  unfold z6n
  by_cases e:r.1=s
  ·exact⟨_,if_pos e⟩
  ·rw[if_neg e]
   exact z7c (by
    rcases List.mem_cons.mp (show s∈r.1::rs.map (·.1) from h) with z|z
    ·exact absurd z.symm e
    ·exact z)
theorem y4n (s:Str)(g:Pat→D):∀(rules:List (Str×Pat)) (acc:List (Key×D)),(rules.map (·.1)).Nodup→getS (rules.foldl (fun acc r=>putS acc r.1 (g r.2)) acc) s=match z6n rules s with|some p=>some (g p)|none=>getS acc s
 | [],acc,_=>rfl
 |r::rs,acc,nd=>by
  rw[List.map_cons,List.nodup_cons]at nd
  rw[List.foldl_cons,y4n s g rs _ nd.2,y6k]
  by_cases e:r.1=s
  ·subst e
   rw[if_pos rfl,z7b nd.1,y4i,if_pos rfl]
  ·rw[if_neg e]
   cases z6n rs s with
   |some p=>rfl
   |none=>simp only;rw[y4i,if_neg (fun z=>e z.symm)]
theorem y8g {rules:List (Str×Pat)}(nd:(rules.map (·.1)).Nodup)(s:Str):getS (tabF rules) s=(z6n rules s).map patD:=by
 unfold tabF
 rw[y4n s patD rules [] nd]
 cases z6n rules s<;>rfl
theorem getS_in {rules:List (Str×Pat)}(nd:(rules.map (·.1)).Nodup)(s:Str):(getS (tabF rules) s).isSome=decide (s∈rules.map (·.1)):=by
 rw[y8g nd,Option.isSome_map]
 by_cases h:s∈rules.map (·.1)
 ·obtain⟨p,hp⟩:=z7c h
  rw[hp,decide_eq_true h];rfl
 ·rw[z7b h,decide_eq_false h];rfl
section
variable {P:Program}{w:World}{K:PySem.W.Frag}{mg:Str→Option Value}{base:Heap}{f:Addr}{fd:FuncData}{CF CT CN CS Ct Cp Ck:Addr}
def u8i (CN:Addr):Sp:=fun vs H _ E=>∃(root:Str) (rules:List (Str×Pat)) (v:V) (nm:Str),vs=[.str root,v]∧Rep H (.lst (rules.map z1s)) v∧FormX rules∧(rules.map (·.1)).Nodup∧(if root∈rules.map (·.1) then nmGo (rules.map (·.1)) rules else some root)=some nm∧XWish CN nm H E
theorem p0q {f1 f2:Addr}{fd1 fd2:FuncData}(Y:XR K mg CF CT CN CS Ct Cp Ck)(u0n:Ent K mg "look_names" u1q ["root","rules"] f fd)(T:Zs K mg)(u0r:Ent K mg "signs" u3q ["pattern"] f1 fd1)(u0b:Ent K mg "patterns_within" u0g ["pattern"] f2 fd2):FnOk P w K mg base (CX1 P w) 34 f fd ["root","rules"] (u8i CN):=by
 have u4f:FnOk P w K mg base CX0 33 f1 fd1 _ (spD (y0x 31)):=z9i u0r T u0b 31
 obtain⟨tk,h_TEXT_SIGN⟩:=T.g_TEXT_SIGN
 refine u0n.F.okX u1y (fun vs H Q E h=>?_) (fun cdv A outer s H vs Q E hr h=>?_)
 ·obtain⟨_,_,_,_,rfl,_⟩:=h;rfl
 ·obtain⟨root,rules,v,nm,rfl,rep,fx,nd,hdue,wish⟩:=h
  have hu:=z5b hr
  refine⟨_,(z0k (z2g (i:=2) u1y.nd rfl (Or.inl rfl) (y4k (z6c rfl) rfl T.z_dict PyProof.Rows.boot_dict (z0d (pv 1) z0j)))
   (z0k (z3u (y5x (y0g (hu1 hu) (pv 0) (pv 2)) rfl) (z0q (y3o Y.x_NoName (hr.mono (by omega)) rfl (z0d (pv 0) z0j))) z1w)
   (z0q (z9c PassesOwn.leaving rfl (z8k (pv 1)) (z4o (i:=3) u1y.nd rfl (Or.inl rfl)) (z0q (z9c PassesOwn.leaving rfl (z8k (z1e u4f (hr.mono (by omega)) rfl u0r.g u0r.F.kp u0r.b .nil z0z (z0d (z2w z1g (pv 3) z1h (fun _ _=>rfl)) z0j))) (z4o (i:=4) u1y.nd rfl (Or.inl rfl)) (z0q (z3u (PW.pt (y2o (z1y y1j (pv 4) (z8s (v:=.str "#") rfl h_TEXT_SIGN ⟨_,rfl⟩) (z0u _)) (z8t (y5x (y0g (hu1 hu) (pv 4) (pv 2)) rfl)))) (z0q (y3o Y.x_NoName (hr.mono (by omega)) rfl (z0d (pv 4) z0j))) z1w)))))))),?_⟩
  have sz:=z0x
  have hl:=fx.len
  obtain⟨a,us,rfl,ha,rs⟩:=rep
  have hlen:us.length=rules.length:=by have:=rs.len;simpa using this.symm
  have rs':Reps H ((rules.map fun r=>(r.1,patD r.2)).map fun p=>D.tup [.str p.1,p.2]) us:=by
   rw[List.map_map];exact rs
  obtain⟨qs,q1,q2,q3⟩:=y3t rs'
  have q4:=q3 [] [] rfl
  rw[List.foldl_map,show rules.foldl (fun acc r=>putS acc r.1 (patD r.2)) []=tabF rules from rfl]at q4
  walk_at "rs"
  refine⟨us,ha,qs,q1,q2,fun l hl'=>?_⟩
  have sm0:Same H (upd H l (.dK (z6 [] qs))):=Same.of_new hl'
  have hd0:upd H l (.dK (z6 [] qs)) l=some (.dK (z6 [] qs)):=z0g
  generalize upd H l (.dK (z6 [] qs))=H0 at sm0 hd0 ⊢
  have wx:∀(H2:Hp) (s:Str),Same H H2→nm=s→∀(x dx:Addr),H2 x=none→H2 dx=none→¬dx=x→E (Value.ref x) (some dx) (upd (upd H2 dx (HO.xd [("name",V.str s)])) x (XO CN dx x)):=fun H2 s s2 en x dx n1 n2 n3=>by
   subst en
   exact wish x dx _ (y9m s2 n1 n2) z0g (by rw[z0i n3,z0g])
  walk_at "rd"
  have hval:∀s:Str,(valV (z6 [] qs) (Sum.inr s)).isSome=decide (s∈rules.map (·.1)):=fun s=>by
   rw[←getS_in nd s]
   have z:=RepK.val s q4
   cases e:getS (tabF rules) s with
   |none=>rw[z.2 e];rfl
   |some d=>obtain⟨v,hv,_⟩:=z.1 d e;rw[hv];rfl
  refine⟨_,DGet.o hd0,?_⟩
  rw[hval]
  by_cases hroot:root∈rules.map (·.1)
  ·rw[if_pos hroot]at hdue
   refine⟨false,by simp[hroot],iteF ⟨⟨us,SqL.of (sm0 _ _ ha)⟩,x1d (xs:=us) (fun i σ H'=>∃pre suf x3 x4,rules=pre++suf∧pre.length=i∧nmGo (rules.map (·.1)) suf=some nm∧σ=[some (.str root),some (.ref a),some (.ref l),x3,x4]∧Same H0 H') ⟨[],rules,none,none,rfl,rfl,hdue,rfl,Same.refl _⟩ (fun i σ H' _ h=>?_) (fun i x σ H' hx h=>?_) fun σ H' h=>?_⟩⟩
   ·obtain⟨_,_,_,_,_,_,_,_,sm⟩:=h
    exact SqL.of (sm _ _ (sm0 _ _ ha))
   ·obtain⟨pre,suf,x3,x4,e1,e2,e3,rfl,sm⟩:=h
    have hi:=(List.getElem?_eq_some_iff.mp hx).1
    cases suf with
    |nil=>rw[List.append_nil]at e1;rw[e1,e2]at hlen;omega
    |cons r0 suf =>
     obtain⟨n1,pt⟩:=r0
     obtain⟨o1,o2⟩:=fx.pat (n1,pt) (by rw[e1];simp)
     have o1:szP pt≤100:=o1
     have o2:dpP pt≤30:=o2
     obtain⟨v,hv,rv⟩:=rs.get (i:=i) (d:=z1s (n1,pt)) (by rw[e1];simp[←e2])
     rw[hx]at hv
     cases hv
     obtain⟨t,vs2,rfl,ht,v1,r1,rfl,rv1,v2,r2,rfl,rv2,r3⟩:=rv
     cases(show r2=[] from r3)
     have smA:=sm0.trans sm
     walk_at "rs"
     refine⟨_,smA _ _ ht,_,atI1,?_⟩
     refine z2a (ds:=[patD pt]) (Reps.one (Rep.mono smA _ _ rv2)) (Qd:=fun _ d _=>d=.lst ((z0o pt).map .str)) ⟨pt,rfl,by omega,by omega,rfl⟩ fun b d δ' v H2 s2 qd r2=>?_
     cases qd
     obtain⟨l2,lv,rfl,hlv,rl⟩:=r2
     have elv:=rl.strs
     subst elv
     have e3':((z0o pt)++suf.flatMap fun r=>z0o r.2).find? (badS (rules.map (·.1)))=some nm:=e3
     refine⟨l2,rfl,⟨_,SqL.of hlv⟩,x1d (xs:=(z0o pt).map V.str) (fun j σ H'=>∃pr sf x4,z0o pt=pr++sf∧pr.length=j∧(sf++suf.flatMap fun r=>z0o r.2).find? (badS (rules.map (·.1)))=some nm∧σ=[some (.str root),some (.ref a),some (.ref l),some (.ref t),x4]∧Same H2 H') ⟨[],z0o pt,x4,rfl,rfl,e3',rfl,Same.refl _⟩ (fun j σ H' _ h=>?_) (fun j y σ H' hy h=>?_) fun σ H' h=>?_⟩
     ·obtain⟨_,_,_,_,_,_,_,s3⟩:=h
      exact SqL.of (s3 _ _ hlv)
     ·obtain⟨pr,sf,x4',f1,f2,f3,rfl,s3⟩:=h
      cases sf with
      |nil =>
       rw[List.append_nil]at f1
       have:=(List.getElem?_eq_some_iff.mp hy).1
       rw[List.length_map,f1,f2]at this
       omega
      |cons sg sf =>
       have ey:y=.str sg:=by
        rw[List.getElem?_map,f1,←f2]at hy
        simpa using hy.symm
       subst ey
       have smB:=(smA.trans s2).trans s3
       have hdl:=s3 _ _ (s2 _ _ (sm _ _ hd0))
       rw[List.cons_append,List.find?_cons]at f3
       walk_at "rd"
       have go:badS (rules.map (·.1)) sg=false→∃pr sf,z0o pt=pr++sf∧pr.length=j+1∧List.find? (badS (List.map (fun x=>x.fst) rules)) (sf++List.flatMap (fun r=>z0o r.snd) suf)=some nm∧Same H2 H':=fun hb=>by
        rw[hb]at f3
        exact⟨pr++[sg],sf,by simp[f1],by simp[f2],f3,s3⟩
       by_cases h1:sg = "#"
       ·exact⟨false,by simp[h1],iteF (go (by simp[badS,h1]))⟩
       ·refine⟨true,by simp[h1],iteT ⟨_,DGet.o hdl,?_⟩⟩
        rw[hval]
        by_cases h2:sg∈rules.map (·.1)
        ·exact⟨false,by simp[h2],iteF (go (by simp only[badS,h2,not_true,decide_false,Bool.and_false]))⟩
        ·have hb:badS (rules.map (·.1)) sg=true:=by simp only[badS,ne_eq,h1,h2,not_false_eq_true,decide_true,Bool.and_true]
         rw[hb]at f3
         exact⟨true,by simp[h2],iteT (wx H' sg smB (Option.some.inj f3).symm)⟩
     ·obtain⟨pr,sf,x4',f1,f2,f3,rfl,s3⟩:=h
      have:sf=[]:=by
       have:=congrArg List.length f1
       rw[List.length_append]at this
       rw[List.length_map]at f2
       exact List.eq_nil_of_length_eq_zero (by omega)
      subst this
      exact⟨pre++[(n1,pt)],suf,by simp[e1],by simp[e2],f3,_,_,rfl,(sm.trans s2).trans s3⟩
   ·obtain⟨pre,suf,x3,x4,e1,e2,e3,rfl,sm⟩:=h
    rw[hlen]at e2
    have:suf=[]:=by
     have:=congrArg List.length e1
     rw[List.length_append]at this
     exact List.eq_nil_of_length_eq_zero (by omega)
    subst this
    cases e3
  ·rw[if_neg hroot]at hdue
   exact⟨true,by simp[hroot],iteT (wx H0 root sm0 (Option.some.inj hdue).symm)⟩
end
open PySem L2 VL Pap
structure PatT (p:Pat):Prop where
 nd:(z0o p).Nodup
 sz:szP p≤100
 dp:dpP p≤30
structure FormT (rules:List (Str×Pat)):Prop where
 len:rules.length≤20
 nd:(rules.map (·.1)).Nodup
 pat:∀r∈rules,PatT r.2
structure PatG (zs:List Str)(p:Pat):Prop where
 nd:(z0o p).Nodup
 sg:∀s∈z0o p,s = "#" ∨ s∈zs
 sz:szP p≤100
 dp:dpP p≤30
structure FormG (root:Str)(rules:List (Str×Pat)):Prop where
 len:rules.length≤20
 nd:(rules.map (·.1)).Nodup
 root:root∈rules.map (·.1)
 pat:∀r∈rules,PatG (rules.map (·.1)) r.2
theorem FormG.t {root:Str}{rules:List (Str×Pat)}(h:FormG root rules):FormT rules:=⟨h.len,h.nd,fun r hr=>⟨(h.pat r hr).nd,(h.pat r hr).sz,(h.pat r hr).dp⟩⟩
theorem tw_none:∀{rules:List (Str×Pat)}{met:List Str},twGo met rules=none→(rules.map (·.1)).Nodup∧∀r∈rules,r.1∉met∧(z0o r.2).Nodup
 | [],_,_=>⟨List.nodup_nil,fun r h=>by cases h⟩
 |a::rs,met,h=>by
  rw[show twGo met (a::rs)=(if a.1∈met ∨ ¬(z0o a.2).Nodup then some a.1 else twGo (met++[a.1]) rs) from rfl]at h
  split at h
  ·cases h
  ·rename_i h1
   obtain⟨k1,k2⟩:=tw_none h
   have nm:a.1∉met:=fun z=>h1 (.inl z)
   have nd:(z0o a.2).Nodup:=by
    by_cases z:(z0o a.2).Nodup
    ·exact z
    ·exact absurd (.inr z) h1
   refine⟨?_,fun r hr=>?_⟩
   ·rw[List.map_cons,List.nodup_cons]
    refine⟨fun hm=>?_,k1⟩
    obtain⟨r,hr,e⟩:=List.mem_map.mp hm
    exact(k2 r hr).1 (by rw[e];simp)
   ·rcases List.mem_cons.mp hr with rfl|hr
    ·exact⟨nm,nd⟩
    ·exact⟨fun z=>(k2 r hr).1 (List.mem_append_left _ z),(k2 r hr).2⟩
theorem FormX.t {rules:List (Str×Pat)}(h:FormX rules)(e:twGo [] rules=none):FormT rules:=by
 obtain⟨k1,k2⟩:=tw_none e
 exact⟨h.len,k1,fun r hr=>⟨(k2 r hr).2,(h.pat r hr).1,(h.pat r hr).2⟩⟩
theorem FormX.g {root:Str}{rules:List (Str×Pat)}(h:FormX rules)(e:z2i root rules=none):FormG root rules:=by
 unfold z2i at e
 cases ht:twGo [] rules with
 |some n=>rw[ht]at e;cases e
 |none =>
  rw[ht]at e
  have t:=h.t ht
  by_cases hr:root∈rules.map (·.1)
  ·simp only[hr,if_true,Option.map_eq_none_iff]at e
   refine⟨h.len,t.nd,hr,fun r hr'=>⟨(t.pat r hr').nd,fun s hs=>?_,(t.pat r hr').sz,(t.pat r hr').dp⟩⟩
   have:=List.find?_eq_none.mp e s (List.mem_flatMap.mpr ⟨r,hr',hs⟩)
   by_cases h1:s = "#"
   ·exact .inl h1
   ·by_cases h2:s∈rules.map (·.1)
    ·exact .inr h2
    ·exact absurd (by simp only[badS,ne_eq,h1,h2,not_false_eq_true,decide_true,Bool.and_true]) this
  ·simp only[hr,if_false]at e
   cases e
section
variable {P:Program}{w:World}{K:PySem.W.Frag}{mg:Str→Option Value}{base:Heap}{f:Addr}{fd:FuncData}{CF CT CN CS Ct Cp Ck:Addr}
def y3v:RD:=fun δ Q=>∃(root:Str) (rules:List (Str×Pat)),δ=[.fz (.lst (rules.map z1s))]∧FormT rules∧Q false .non [.no]
theorem y5e {f1 f2:Addr}{fd1 fd2:FuncData}(u0j:Ent K mg "look_twice" u1p ["rules"] f fd)(T:Zs K mg)(u0r:Ent K mg "signs" u3q ["pattern"] f1 fd1)(u0b:Ent K mg "patterns_within" u0g ["pattern"] f2 fd2):FnOk P w K mg base CX0 34 f fd ["rules"] (spD y3v):=by
 have u4f:FnOk P w K mg base CX0 33 f1 fd1 _ (spD (y0x 31)):=z9i u0r T u0b 31
 refine VL.Fun.dok u0j.F u1j (fun δ Qd h=>?_) (by decide) (fun cdv A outer s H E δ Qd hr h=>?_)
 ·obtain⟨_,_,rfl,_⟩:=h;rfl
 ·obtain⟨root,rules,rfl,ok,q⟩:=h
  have hu:=z5b hr
  refine⟨_,(z0c (z1b (i:=1) u1j.nd rfl (Or.inl rfl) de_dict0)
   (z0h (z5h PassesOwn.never rfl (z2h (dv 0)) (y2p (n:=2) rfl (z3f (z2f (i:=2) u1j.nd rfl (Or.inl rfl)) (z3f (z2f (i:=3) u1j.nd rfl (Or.inl rfl)) z8l))) (z0c (z1b (i:=4) u1j.nd rfl (Or.inl rfl) (z0y u4f (hr.mono (by decide)) rfl u0r.g u0r.F.kp u0r.b z0z (z0a (dv 3) z0e)))
   (z0c (z1x (dt_w (dw_or (dt_dinV hu (dv 2) (pv 1)) (dw_or1 (z1f y5r y4a (y4v rfl rfl T.z_len rfl T.z_set (dv 4)) (z1q z3x z1d rfl T.z_len PySem.boot_len (pv 4)) (z0u _))))) (z0h z7r) z0v)
   (z0h (ds_dput hu (pv 1) (dv 2) y9x))))))),?_⟩
  have sz:=z0x
  have hl:=ok.len
  walk_at "vd"
  refine z9z [2,3,4] (fun r δ=>∃(pre suf:List (Str×Pat)) (tb:List (Key×D)),rules=pre++suf∧r=suf.map z1s∧tb.length≤pre.length∧(∀s,(getS tb s).isSome=true→s∈pre.map (·.1))∧δ=[.fz (.lst (rules.map z1s)),.ob false (.dct tb),.no,.no,.no]) ⟨[],rules,[],rfl,rfl,Nat.le_refl _,(fun s h=>by cases h),rfl⟩ ?_ ?_
  ·rintro d r δ ⟨pre,suf,tb,e1,e2,ht,hk,rfl⟩
   cases suf with
   |nil=>cases e2
   |cons z suf =>
    cases e2
    have hz:z∈rules:=by rw[e1];simp
    have o:=ok.pat z hz
    have o1:=o.dp
    have o2:=o.sz
    simp only[z1s]
    walk_at "vd"
    refine⟨z.2,rfl,by omega,by omega,?_⟩
    walk_at "vd"
    have hn:z.1∉pre.map (·.1):=fun h=>by
     have nd:=ok.nd
     rw[e1,List.map_append,List.nodup_append]at nd
     exact nd.2.2 _ h z.1 (by simp) rfl
    have sl:=z3h z.2
    have e1':=congrArg List.length e1
    simp at e1'
    rw[if_neg (fun h=>hn (hk _ h))]
    refine⟨z0o z.2,rfl,by omega,?_⟩
    rw[y9n o.nd,if_neg (by simp)]
    have pl:=putS_len tb z.1 (D.bl true)
    refine⟨by omega,pre++[z],suf,_,by simp[e1],rfl,by rw[List.length_append];simp;omega,fun s h=>?_,rfl⟩
    rw[y4i]at h
    rw[List.map_append]
    split at h
    ·rename_i e;subst e;simp
    ·exact List.mem_append_left _ (hk s h)
  ·rintro δ ⟨pre,suf,tb,e1,e2,ht,hk,rfl⟩
   cases suf with
   |cons z suf=>cases e2
   |nil =>
    walk_at "vd"
    exact q
def y8f:RD:=fun δ Q=>∃(root:Str) (rules:List (Str×Pat)),δ=[.fz (.str root),.fz (.lst (rules.map z1s))]∧FormG root rules∧Q false .non [.no,.no]
theorem u6u {f1 f2:Addr}{fd1 fd2:FuncData}(u0n:Ent K mg "look_names" u1q ["root","rules"] f fd)(T:Zs K mg)(u0r:Ent K mg "signs" u3q ["pattern"] f1 fd1)(u0b:Ent K mg "patterns_within" u0g ["pattern"] f2 fd2):FnOk P w K mg base CX0 34 f fd ["root","rules"] (spD y8f):=by
 have u4f:FnOk P w K mg base CX0 33 f1 fd1 _ (spD (y0x 31)):=z9i u0r T u0b 31
 refine VL.Fun.dok u0n.F u1y (fun δ Qd h=>?_) (by decide) (fun cdv A outer s H E δ Qd hr h=>?_)
 ·obtain⟨_,_,rfl,_⟩:=h;rfl
 ·obtain⟨root,rules,rfl,ok,q⟩:=h
  have hu:=z5b hr
  refine⟨_,(z0c (z1b (i:=2) u1y.nd rfl (Or.inl rfl) (z8f cs_dict (z6c rfl) rfl T.z_dict PyProof.Rows.boot_dict (z0a (dv 1) z0e)))
   (z0c (z1x (y2u hu (dv 0) (pv 2)) (z0h z7r) z0v)
   (z0h (z5h PassesOwn.never rfl (z2h (dv 1)) (z2f (i:=3) u1y.nd rfl (Or.inl rfl)) (z0h (z5h PassesOwn.never rfl (z2h (z0y u4f (hr.mono (by decide)) rfl u0r.g u0r.F.kp u0r.b z0z (z0a (z0t z1c z1g (pv 3) z0f (fun _ _=>rfl)) z0e))) (z2f (i:=4) u1y.nd rfl (Or.inl rfl)) (z0h (z1x (dt_w (y2r (z1f y9v y1j (dv 4) (de_gS rfl T.g_TEXT_SIGN) (z0u _)) (y0v (y2u hu (dv 4) (pv 2))))) (z0h z7r) z0v)))))))),?_⟩
  have sz:=z0x
  have hl:=ok.len
  walk_at "vd"
  refine⟨rules.map fun r=>(r.1,patD r.2),by rw[List.map_map];rfl,?_⟩
  rw[List.foldl_map,show rules.foldl (fun acc r=>putS acc r.1 (patD r.2)) []=tabF rules from rfl]
  have kn:∀s,s∈rules.map (·.1)→(getS (tabF rules) s).isSome=true:=fun s hs=>by
   obtain⟨p,hp⟩:=z7c hs
   rw[y8g ok.nd,hp];rfl
  walk_at "vd"
  rw[if_neg (by rw[kn _ ok.root];simp)]
  refine z9z [3,4] (fun r δ=>∃(pre suf:List (Str×Pat)),rules=pre++suf∧r=suf.map z1s∧δ=[.fz (.str root),.fz (.lst (rules.map z1s)),.ob false (.dct (tabF rules)),.no,.no]) ⟨[],rules,rfl,rfl,rfl⟩ ?_ ?_
  ·rintro d r δ ⟨pre,suf,e1,e2,rfl⟩
   cases suf with
   |nil=>cases e2
   |cons z suf =>
    cases e2
    have hz:z∈rules:=by rw[e1];simp
    have o:=ok.pat z hz
    have o1:=o.dp
    have o2:=o.sz
    simp only[z1s]
    walk_at "vd"
    refine⟨z.2,rfl,by omega,by omega,?_⟩
    walk_at "vd"
    refine z9z [4] (fun r δ=>∃(ss:List Str),r=ss.map .str∧(∀s∈ss,s = "#" ∨ s∈rules.map (·.1))∧δ=[.fz (.str root),.fz (.lst (rules.map z1s)),.ob false (.dct (tabF rules)),.fz (.tup [.str z.1,patD z.2]),.no]) ⟨z0o z.2,rfl,o.sg,rfl⟩ ?_ ?_
    ·rintro d r δ ⟨ss,e3,hs,rfl⟩
     cases ss with
     |nil=>cases e3
     |cons y ss =>
      cases e3
      walk_at "vd"
      have go:∃(ss':List Str),ss.map D.str=ss'.map D.str∧(∀s∈ss',s = "#" ∨ s∈rules.map (·.1))∧[Slot.fz (.str root),.fz (.lst (rules.map z1s)),.ob false (.dct (tabF rules)),.fz (.tup [.str z.1,patD z.2]),.no]=[Slot.fz (.str root),.fz (.lst (rules.map z1s)),.ob false (.dct (tabF rules)),.fz (.tup [.str z.1,patD z.2]),.no]:=⟨ss,rfl,fun s h=>hs s (List.mem_cons_of_mem _ h),rfl⟩
      rcases hs y List.mem_cons_self with h|h
      ·rw[if_neg (by simpa using h)]
       simpa using go
      ·refine ite2 (fun _=>?_) fun _=>by simpa using go
       rw[if_neg (by rw[kn _ h];simp)]
       simpa using go
    ·rintro δ ⟨ss,e3,hs,rfl⟩
     cases ss with
     |cons y ss=>cases e3
     |nil =>
      walk_at "vd"
      exact⟨pre++[z],suf,by simp[e1],rfl⟩
  ·rintro δ ⟨pre,suf,e1,e2,rfl⟩
   cases suf with
   |cons z suf=>cases e2
   |nil =>
    walk_at "vd"
    exact q
def y9g:RD:=fun δ Q=>∃(root:Str) (rules:List (Str×Pat)),δ=[.fz (z3g root rules)]∧FormG root rules∧Q false .non [.no]
theorem u9n {f1 f2 f3 f4:Addr}{fd1 fd2 fd3 fd4:FuncData}(u3m:Ent K mg "look" u4p ["form"] f fd)(T:Zs K mg)(u0j:Ent K mg "look_twice" u1p ["rules"] f1 fd1)(u0n:Ent K mg "look_names" u1q ["root","rules"] f2 fd2)(u0r:Ent K mg "signs" u3q ["pattern"] f3 fd3)(u0b:Ent K mg "patterns_within" u0g ["pattern"] f4 fd4):FnOk P w K mg base CX0 35 f fd ["form"] (spD y9g):=by
 have u4n:FnOk P w K mg base CX0 34 f1 fd1 _ (spD y3v):=y5e u0j T u0r u0b
 have u5p:FnOk P w K mg base CX0 34 f2 fd2 _ (spD y8f):=u6u u0n T u0r u0b
 refine VL.Fun.dok u3m.F x1e (fun δ Qd h=>?_) (by decide) (fun cdv A outer s H E δ Qd hr h=>?_)
 ·obtain⟨_,_,rfl,_⟩:=h;rfl
 ·obtain⟨root,rules,rfl,ok,q⟩:=h
  refine⟨_,(z0c (z5a (z0y u4n (hr.mono (by decide)) rfl u0j.g u0j.F.kp u0j.b z0z (z0a (z0t z1c z1g (pv 0) z0f (fun _ _=>rfl)) z0e)))
   (z0h (z5a (z0y u5p (hr.mono (by decide)) rfl u0n.g u0n.F.kp u0n.b z0z (z0a (z0t z1c z1g (pv 0) z0f (fun _ _=>rfl)) (z0a (z0t z1c z1g (pv 0) z0f (fun _ _=>rfl)) z0e)))))),?_⟩
  rw[z3n]
  walk_at "vd"
  refine⟨root,rules,rfl,ok.t,?_⟩
  walk_at "vd"
  exact⟨root,rules,rfl,ok,q⟩
end
open PySem L2 VL Pap
section
variable {P:Program}{w:World}{K:PySem.W.Frag}{mg:Str→Option Value}{base:Heap}{f:Addr}{fd:FuncData}{CF CT CN CS Ct Cp Ck:Addr}
def R_so (n:Nat):RD:=fun δ Q=>∃p:Pat,δ=[.fz (patD p)]∧dpP p<n∧szP p≤1000000∧∀b,Q b (.lst ((z0o p).map .str)) [.no]
theorem p0r (u0c:Ent K mg "_law_signs_of" u1d ["_law_pattern_here"] f fd)(T:Zs K mg):∀n,FnOk P w K mg base CX0 (n+1) f fd ["_law_pattern_here"] (spD (R_so n)):=by
 intro n
 induction n with
 |zero=>exact z8o fun δ Q h=>by obtain⟨_,_,h,_⟩:=h;exact Nat.not_lt_zero _ h
 |succ n u1t =>
 refine VL.Fun.dok u0c.F u3c (fun δ Qd h=>?_) (by decide) (fun cdv A outer s H E δ Qd hr h=>?_)
 ·obtain⟨_,rfl,_⟩:=h;rfl
 ·obtain⟨p,rfl,hdp,hsz,q⟩:=h
  refine⟨_,(z0c (z1x (z1f z4q z3c (z0t z1c z1g (pv 0) z0f (fun _ _=>rfl)) z0l (z0u _)) (z0h (z0r (z1i (z0a (z0t z1c z1g (pv 0) z0f (fun _ _=>rfl)) z0e)))) z0v)
   (z0c (z1x (z1f y2h z6u (z0t z1c z1g (pv 0) z0f (fun _ _=>rfl)) (z1o (z0a z0l (z0a z0l (z0a z0l z0e)))) rfl) (z0h (z0r (z0y u1t (hr.mono (by omega)) rfl u0c.g u0c.F.kp u0c.b z0z (z0a (z0t z1c z1g (pv 0) z0f (fun _ _=>rfl)) z0e)))) z0v)
   (z0c (z1b (i:=1) u3c.nd rfl (Or.inl rfl) (z1i z0e))
   (z0c (z1x (z1f y9v y1j (z0t z1c z1g (pv 0) z0f (fun _ _=>rfl)) z0l (z0u _)) (z0h (z5h PassesOwn.never rfl (z2h (z0t z1c z1g (pv 0) z0f (fun _ _=>rfl))) (z2f (i:=2) u3c.nd rfl (Or.inl rfl)) (z0h (z1b (i:=1) u3c.nd rfl (Or.inl rfl) (z0m z4r z2y (dv 1) (z0y u1t (hr.mono (by omega)) rfl u0c.g u0c.F.kp u0c.b z0z (z0a (dv 2) z0e))))))) z0v)
   (z0h (z0r (dm 1))))))),?_⟩
  have sz:=z0x
  cases p with
  |none =>
   simp only[patD]
   walk_at "vd"
   rw[if_neg (by decide)]
   refine⟨by omega,?_⟩
   rw[if_neg (by decide)]
   exact⟨by omega,q true⟩
  |one s =>
   simp only[patD]
   walk_at "vd"
   exact⟨by omega,q true⟩
  |row ps =>
   simp only[patD]
   simp only[dpP,szP]at hdp hsz
   walk_at "vd"
   rw[if_neg (by decide)]
   refine⟨by omega,?_⟩
   rw[if_neg (by decide)]
   refine⟨by omega,?_⟩
   rw[if_pos (by decide)]
   refine z9z [2] (fun r δ=>∃pre suf b,ps=pre++suf∧r=z1z suf∧δ=[.fz (.tup [.str "row",.lst (z1z ps)]),rsl b (.lst ((z0w pre).map .str)),.no]) ⟨[],ps,true,rfl,rfl,rfl⟩ ?_ ?_
   ·rintro d r δ ⟨pre,suf,b,e1,e2,rfl⟩
    cases suf with
    |nil=>cases e2
    |cons c suf =>
     cases e2
     have hc:c∈ps:=by rw[e1];simp
     have e5:=z5e hc
     have e6:=z4b hc
     have e7:=z3h c
     have e8:=z3w pre
     have e9:=congrArg szPs e1
     rw[z5f,szPs]at e9
     refine(fun hh=>by cases b<;>walk_at "vd"<;>exact hh) ?_
     refine⟨c,rfl,by omega,by omega,fun b2=>?_⟩
     walk_at "vd"
     refine⟨by simp;omega,pre++[c],suf,true,by simp[e1],rfl,?_⟩
     simp[z2v,z0w,rsl]
   ·rintro δ ⟨pre,suf,b,e1,e2,rfl⟩
    cases suf with
    |cons c suf=>cases e2
    |nil =>
     rw[List.append_nil]at e1
     subst e1
     cases b<;>walk_at "vd"<;>exact q _
  |any ps =>
   simp only[patD]
   simp only[dpP,szP]at hdp hsz
   walk_at "vd"
   rw[if_neg (by decide)]
   refine⟨by omega,?_⟩
   rw[if_neg (by decide)]
   refine⟨by omega,?_⟩
   rw[if_pos (by decide)]
   refine z9z [2] (fun r δ=>∃pre suf b,ps=pre++suf∧r=z1z suf∧δ=[.fz (.tup [.str "any",.lst (z1z ps)]),rsl b (.lst ((z0w pre).map .str)),.no]) ⟨[],ps,true,rfl,rfl,rfl⟩ ?_ ?_
   ·rintro d r δ ⟨pre,suf,b,e1,e2,rfl⟩
    cases suf with
    |nil=>cases e2
    |cons c suf =>
     cases e2
     have hc:c∈ps:=by rw[e1];simp
     have e5:=z5e hc
     have e6:=z4b hc
     have e7:=z3h c
     have e8:=z3w pre
     have e9:=congrArg szPs e1
     rw[z5f,szPs]at e9
     refine(fun hh=>by cases b<;>walk_at "vd"<;>exact hh) ?_
     refine⟨c,rfl,by omega,by omega,fun b2=>?_⟩
     walk_at "vd"
     refine⟨by simp;omega,pre++[c],suf,true,by simp[e1],rfl,?_⟩
     simp[z2v,z0w,rsl]
   ·rintro δ ⟨pre,suf,b,e1,e2,rfl⟩
    cases suf with
    |cons c suf=>cases e2
    |nil =>
     rw[List.append_nil]at e1
     subst e1
     cases b<;>walk_at "vd"<;>exact q _
  |wrap k p =>
   simp only[dpP,szP]at hdp hsz
   cases k<;>simp only[patD,Wk.str]<;>walk_at "vd"<;>rw[if_neg (by decide)]<;>refine⟨by omega,?_⟩<;>rw[if_pos (by decide)]<;>exact⟨p,rfl,by omega,by omega,q⟩
def dueS:Option (Kd×Str)→List Str
 |none=>[]
 |some (c,n)=>[c.str,n]
def p0s:RD:=fun δ Q=>∃(root:Str) (rules:List (Str×Pat)),δ=[.fz (z3g root rules)]∧FormX rules∧Q true (.lst ((dueS (z2i root rules)).map .str)) [.no]
theorem p0t {f1:Addr}{fd1:FuncData}(u3s:Ent K mg "_law_due" u3r ["_law_form_here"] f fd)(T:Zs K mg)(u0c:Ent K mg "_law_signs_of" u1d ["_law_pattern_here"] f1 fd1):FnOk P w K mg base CX0 33 f fd ["_law_form_here"] (spD p0s):=by
 have u1t:FnOk P w K mg base CX0 32 f1 fd1 _ (spD (R_so 31)):=p0r u0c T 31
 refine VL.Fun.dok u3s.F u2y (fun δ Qd h=>?_) (by decide) (fun cdv A outer s H E δ Qd hr h=>?_)
 ·obtain⟨_,_,rfl,_⟩:=h;rfl
 ·obtain⟨root,rules,rfl,fx,q⟩:=h
  have hu:=z5b hr
  refine⟨_,(z0c (z1b (i:=1) u2y.nd rfl (Or.inl rfl) (z1i z0e))
   (z0c (z5h PassesOwn.never rfl (z2h (z0t z1c z1g (pv 0) z0f (fun _ _=>rfl))) (y2p (n:=2) rfl (z3f (z2f (i:=2) u2y.nd rfl (Or.inl rfl)) (z3f (z2f (i:=3) u2y.nd rfl (Or.inl rfl)) z8l))) (z0c (z1b (i:=4) u2y.nd rfl (Or.inl rfl) (z0y u1t (hr.mono (by decide)) rfl u0c.g u0c.F.kp u0c.b z0z (z0a (dv 3) z0e)))
   (z0c (z1x (dt_w (dw_or (y0 os_inL y4t (dv 2) (pv 1) rfl) (dw_or1 (z1f y5r y4a (y4v rfl rfl T.z_len rfl T.z_set (dv 4)) (z1q z3x z1d rfl T.z_len PySem.boot_len (pv 4)) (z0u _))))) (z0h (z0r (z1i (z0a z0l (z0a (dv 2) z0e))))) z0v)
   (z0h (z5a (y3b z4i PySem.F.slot_list_append PySem.F.type_list_append z1p (pv 1) (z0a (dv 2) z0e)))))))
   (z0c (z1x (y0 y5j z9b (z0t z1c z1g (pv 0) z0f (fun _ _=>rfl)) (pv 1) rfl) (z0h (z0r (z1i (z0a z0l (z0a (z0t z1c z1g (pv 0) z0f (fun _ _=>rfl)) z0e))))) z0v)
   (z0c (z5h PassesOwn.never rfl (z2h (z0t z1c z1g (pv 0) z0f (fun _ _=>rfl))) (y2p (n:=2) rfl (z3f (z2f (i:=2) u2y.nd rfl (Or.inl rfl)) (z3f (z2f (i:=3) u2y.nd rfl (Or.inl rfl)) z8l))) (z0h (z5h PassesOwn.never rfl (z2h (z0y u1t (hr.mono (by decide)) rfl u0c.g u0c.F.kp u0c.b z0z (z0a (dv 3) z0e))) (z2f (i:=5) u2y.nd rfl (Or.inl rfl)) (z0h (z1x (dt_w (y2r (z1f y9v y1j (dv 5) z0l (z0u _)) (y0v (y0 y5j z9b (dv 5) (pv 1) rfl)))) (z0h (z0r (z1i (z0a z0l (z0a (dv 5) z0e))))) z0v)))))
   (z0h (z0r (z1i z0e))))))),?_⟩
  have sz:=z0x
  have hl:=fx.len
  rw[z3n]
  walk_at "vd"
  refine⟨by omega,z9z [2,3,4] (fun r δ=>∃pre suf,rules=pre++suf∧r=suf.map z1s∧twGo (pre.map (·.1)) suf=twGo [] rules∧δ=[.fz (z3g root rules),.ob false (.lst ((pre.map (·.1)).map .str)),.no,.no,.no,.no]) ⟨[],rules,rfl,rfl,rfl,rfl⟩ ?_ ?_⟩
  ·rintro d r δ ⟨pre,suf,e1,e2,e3,rfl⟩
   cases suf with
   |nil=>cases e2
   |cons r0 suf =>
    obtain⟨nm,pt⟩:=r0
    cases e2
    obtain⟨o1,o2⟩:=fx.pat (nm,pt) (by rw[e1];simp)
    have o1:szP pt≤100:=o1
    have o2:dpP pt≤30:=o2
    have sl:=z3h pt
    have e1':=congrArg List.length e1
    simp at e1'
    simp only[z1s,z3n]
    walk_at "vd"
    refine⟨pt,rfl,by omega,by omega,fun b=>?_⟩
    rw[show twGo (pre.map (·.1)) ((nm,pt)::suf)=(if nm∈pre.map (·.1) ∨ ¬(z0o pt).Nodup then some nm else twGo (pre.map (·.1)++[nm]) suf) from rfl]at e3
    have fin:(nm∈pre.map (·.1) ∨ ¬(z0o pt).Nodup)→Qd true (D.lst [D.str "twice",D.str nm]) [.no]:=fun hb=>by
     rw[if_pos hb]at e3
     have:z2i root rules=some (.tw,nm):=by unfold z2i;rw[←e3]
     rw[this]at q
     exact q
    refine(fun hh=>by cases b<;>walk_at "vd"<;>exact hh) ?_
    refine ite2 (fun hn=>⟨by omega,fin (.inl hn)⟩) fun hn=>⟨z0o pt,rfl,by omega,ite2 (fun h=>⟨by omega,fin (.inr ((z9l _).mp (by rw[List.length_map]at h;omega)))⟩) fun h=>⟨by simp;omega,pre++[(nm,pt)],suf,by simp[e1],rfl,?_,by simp⟩⟩
    have nd:(z0o pt).Nodup:=by
     by_cases z:(z0o pt).Nodup
     ·exact z
     ·exact absurd (by have:=(z9l _).mpr z;rw[List.length_map];omega) h
    rw[if_neg (by rintro(z|z);exact hn z;exact z nd)]at e3
    rw[List.map_append]
    exact e3
  ·rintro δ ⟨pre,suf,e1,e2,e3,rfl⟩
   cases suf with
   |cons p suf=>cases e2
   |nil =>
    rw[List.append_nil]at e1
    subst e1
    have e3:twGo [] rules=none:=e3.symm
    simp only[z3n]
    walk_at "vd"
    refine ite2 (fun hr=>⟨by omega,?_⟩) fun hr=>?_
    ·have hr:root∉rules.map (·.1):=by simpa using hr
     have:z2i root rules=some (.nn,root):=by unfold z2i;rw[e3];exact if_neg hr
     rw[this]at q
     exact q
    ·have hr:root∈rules.map (·.1):=by simpa using hr
     have hdF:z2i root rules=(nmGo (rules.map (·.1)) rules).map fun s=>(.nn,s):=by unfold z2i;rw[e3];exact if_pos hr
     rw[hdF]at q
     refine z9z [2,3,5] (fun r δ=>∃pre suf,rules=pre++suf∧r=suf.map z1s∧nmGo (rules.map (·.1)) suf=nmGo (rules.map (·.1)) rules∧δ=[.fz (.tup [.str root,.lst (rules.map z1s)]),.ob false (.lst ((rules.map (·.1)).map .str)),.no,.no,.no,.no]) ⟨[],rules,rfl,rfl,rfl,rfl⟩ ?_ ?_
     ·rintro d r δ ⟨pre,suf,e1,e2,e4,rfl⟩
      cases suf with
      |nil=>cases e2
      |cons r0 suf =>
       obtain⟨nm,pt⟩:=r0
       cases e2
       obtain⟨o1,o2⟩:=fx.pat (nm,pt) (by rw[e1];simp)
       have o1:szP pt≤100:=o1
       have o2:dpP pt≤30:=o2
       have e4:((z0o pt)++suf.flatMap fun r=>z0o r.2).find? (badS (rules.map (·.1)))=nmGo (rules.map (·.1)) rules:=e4
       simp only[z1s]
       walk_at "vd"
       refine⟨pt,rfl,by omega,by omega,fun b=>?_⟩
       refine(fun hh=>by cases b<;>walk_at "vd"<;>exact hh) ?_
       refine z9z [5] (fun r δ=>∃pr sf,z0o pt=pr++sf∧r=sf.map .str∧(sf++suf.flatMap fun r=>z0o r.2).find? (badS (rules.map (·.1)))=nmGo (rules.map (·.1)) rules∧δ=[.fz (.tup [.str root,.lst (rules.map z1s)]),.ob false (.lst ((rules.map (·.1)).map .str)),.fz (.str nm),.fz (patD pt),.no,.no]) ⟨[],z0o pt,rfl,rfl,e4,rfl⟩ ?_ ?_
       ·rintro d r δ ⟨pr,sf,f1,f2,f3,rfl⟩
        cases sf with
        |nil=>cases f2
        |cons sg sf =>
         cases f2
         rw[List.cons_append,List.find?_cons]at f3
         walk_at "vd"
         have go:badS (rules.map (·.1)) sg=false→∃pr sf_1,z0o pt=pr++sf_1∧List.map D.str sf=List.map D.str sf_1∧List.find? (badS (List.map (fun x=>x.fst) rules)) (sf_1++List.flatMap (fun r=>z0o r.snd) suf)=nmGo (List.map (fun x=>x.fst) rules) rules:=fun hb=>by
          rw[hb]at f3
          exact⟨pr++[sg],sf,by simp[f1],rfl,f3⟩
         refine ite2 (fun h1=>ite2 (fun h2=>⟨by omega,?_⟩) fun h2=>go ?_) fun h1=>go ?_
         ·have h1:¬sg = "#":=by simpa using h1
          have h2:sg∉rules.map (·.1):=of_decide_eq_false h2
          have hb:badS (rules.map (·.1)) sg=true:=by simp only[badS,ne_eq,h1,h2,not_false_eq_true,decide_true,Bool.and_true]
          rw[hb]at f3
          rw[←f3]at q
          exact q
         ·have h2:sg∈rules.map (·.1):=by
           by_cases z:sg∈rules.map (·.1)
           ·exact z
           ·exact absurd (decide_eq_false z) h2
          simp only[badS,h2,not_true,decide_false,Bool.and_false]
         ·have h1:sg = "#":=by
           by_cases z:sg = "#"
           ·exact z
           ·exact absurd (decide_eq_false z) h1
          simp[badS,h1]
       ·rintro δ ⟨pr,sf,f1,f2,f3,rfl⟩
        cases sf with
        |cons p sf=>cases f2
        |nil =>
         walk_at "vd"
         exact⟨pre++[(nm,pt)],suf,by simp[e1],rfl,f3⟩
     ·rintro δ ⟨pre,suf,e1,e2,e4,rfl⟩
      cases suf with
      |cons p suf=>cases e2
      |nil =>
       have e4:nmGo (rules.map (·.1)) rules=none:=e4.symm
       rw[e4]at q
       walk_at "vd"
       exact⟨by omega,q⟩
end
open PySem L2 VL Pap
section
variable {P:Program}{w:World}{K:PySem.W.Frag}{mg:Str→Option Value}{base:Heap}{f:Addr}{fd:FuncData}{CF CT CN CS Ct Cp Ck:Addr}
def x2x (CT CN CS:Addr):Sp:=fun vs H _ E=>∃(root:Str) (rules:List (Str×Pat)) (v:V) (c:Kd) (nm:Str),vs=[v]∧Rep H (z3g root rules) v∧FormX rules∧z2i root rules=some (c,nm)∧XWish (c.cls CT CN CS) nm H E
theorem p0u {f1 f2 f3 f4:Addr}{fd1 fd2 fd3 fd4:FuncData}(Y:XR K mg CF CT CN CS Ct Cp Ck)(u3m:Ent K mg "look" u4p ["form"] f fd)(T:Zs K mg)(u0j:Ent K mg "look_twice" u1p ["rules"] f1 fd1)(u0n:Ent K mg "look_names" u1q ["root","rules"] f2 fd2)(u0r:Ent K mg "signs" u3q ["pattern"] f3 fd3)(u0b:Ent K mg "patterns_within" u0g ["pattern"] f4 fd4):FnOk P w K mg base (CX1 P w) 35 f fd ["form"] (x2x CT CN CS):=by
 have u4n:FnOk P w K mg base CX0 34 f1 fd1 _ (spD y3v):=y5e u0j T u0r u0b
 have u5j:FnOk P w K mg base (CX1 P w) 34 f1 fd1 _ (u8h CT):=p0p Y u0j T u0r u0b
 have u5k:FnOk P w K mg base (CX1 P w) 34 f2 fd2 _ (u8i CN):=p0q Y u0n T u0r u0b
 refine u3m.F.okX x1e (fun vs H Q E h=>?_) (fun cdv A outer s H vs Q E hr h=>?_)
 ·obtain⟨_,_,_,_,_,rfl,_⟩:=h;rfl
 ·obtain⟨root,rules,v,c,nm,rfl,rv,fx,hdue,wish⟩:=h
  rw[z3n]at rv
  obtain⟨a,us,rfl,ha,y1,r1,rfl,e1,y2,r2,rfl,e2,e3⟩:=rv
  cases(show r2=[] from e3)
  cases(show y1=.str root from e1)
  unfold z2i at hdue
  cases ht:twGo [] rules with
  |some n =>
   rw[ht]at hdue
   cases hdue
   refine⟨_,(z0k (z2t (z1e u5j (hr.mono (by omega)) rfl u0j.g u0j.F.kp u0j.b .nil pass1 (z0d (z2w z1g (pv 0) z1h (fun _ _=>rfl)) z0j)))
   y4o),?_⟩
   walk_at "rs"
   exact⟨_,ha,_,atI1,rules,_,nm,rfl,e2,fx,ht,wish⟩
  |none =>
   rw[ht]at hdue
   have fT:=fx.t ht
   obtain⟨rfl,hd⟩:c=.nn∧(if root∈rules.map (·.1) then nmGo (rules.map (·.1)) rules else some root)=some nm:=by
    by_cases hr:root∈rules.map (·.1)
    ·simp only[hr,if_true]at hdue ⊢
     obtain⟨s,hs,e⟩:=Option.map_eq_some_iff.mp hdue
     cases e
     exact⟨rfl,hs⟩
    ·simp only[hr,if_false]at hdue ⊢
     cases hdue
     exact⟨rfl,rfl⟩
   refine⟨_,(z0k (z2t (z1e u4n (hr.mono (by omega)) rfl u0j.g u0j.F.kp u0j.b .nil z0z (z0d (z2w z1g (pv 0) z1h (fun _ _=>rfl)) z0j)))
   (z0q (z2t (z1e u5k (hr.mono (by omega)) rfl u0n.g u0n.F.kp u0n.b .nil pass1 (z0d (z2w z1g (pv 0) z1h (fun _ _=>rfl)) (z0d (z2w z1g (pv 0) z1h (fun _ _=>rfl)) z0j)))))),?_⟩
   walk_at "rs"
   refine⟨_,ha,_,atI1,?_⟩
   refine z2a (ds:=[.lst (rules.map z1s)]) (Qd:=fun b d _=>True) ⟨_,_,rfl,e2,rfl⟩ ⟨root,rules,rfl,fT,trivial⟩ fun b d δ' v H1 s1 _ _=>?_
   exact⟨_,s1 _ _ ha,_,atI0,_,s1 _ _ ha,_,atI1,root,rules,_,nm,rfl,Rep.mono s1 _ _ e2,fx,fT.nd,hd,wish.mono s1⟩
end
open PySem L2 VL Pap
theorem sC {t:Cs}{c:Nat}{x:Str}(h:x=strC [c]):(strC t=x)↔t=[c]:=by
 subst h
 exact⟨fun z=>by have:=congrArg csS z;rwa [y2d,y2d]at this,fun z=>by rw[z]⟩
theorem y9d (t:Cs):y9 (strC t)=(wkOf t).map Wk.str:=by
 have e1:(strC t=("?":Str))↔t=[63]:=sC (by decide)
 have e2:(strC t=("*":Str))↔t=[42]:=sC (by decide)
 have e3:(strC t=("+":Str))↔t=[43]:=sC (by decide)
 unfold y9 wkOf
 by_cases h1:t=[63]
 ·rw[if_pos (e1.mpr h1),if_pos h1];rfl
 ·rw[if_neg (fun z=>h1 (e1.mp z)),if_neg h1]
  by_cases h2:t=[42]
  ·rw[if_pos (e2.mpr h2),if_pos h2];rfl
  ·rw[if_neg (fun z=>h2 (e2.mp z)),if_neg h2]
   by_cases h3:t=[43]
   ·rw[if_pos (e3.mpr h3),if_pos h3];rfl
   ·rw[if_neg (fun z=>h3 (e3.mp z)),if_neg h3];rfl
theorem ne_app {α:Type}{rows:List α}(h:rows≠[]):∃rs r,rows=rs++[r]:=⟨_,_,(List.dropLast_concat_getLast h).symm⟩
def BdR (N:Nat)(rows:Rws):Prop:=rows≠[]∧rows.length≤N∧∀r∈rows,r.length≤N
theorem BdR.mono {N:Nat}{rows:Rws}(h:BdR N rows):BdR (N+1) rows:=⟨h.1,Nat.le_succ_of_le h.2.1,fun r hr=>Nat.le_succ_of_le (h.2.2 r hr)⟩
theorem BdR.add {N:Nat}{rows:Rws}{p:Pat}(h:BdR N rows):BdR (N+1) (addL rows p):=by
 obtain⟨h1,h2,h3⟩:=h
 obtain⟨rs,r,rfl⟩:=ne_app h1
 rw[z6s]
 refine⟨by simp,by simp at h2 ⊢;omega,fun x hx=>?_⟩
 rcases List.mem_append.mp hx with hx|hx
 ·exact Nat.le_succ_of_le (h3 x (List.mem_append_left _ hx))
 ·rw[List.mem_singleton.mp hx]
  have:=h3 r (by simp)
  simp;omega
structure BdS (N:Nat)(st:List Rws×Rws):Prop where
 kl:st.1.length≤N
 top:BdR N st.2
 low:∀q∈st.1,BdR N q
theorem BdS.mono {N:Nat}{st:List Rws×Rws}(h:BdS N st):BdS (N+1) st:=⟨Nat.le_succ_of_le h.kl,h.top.mono,fun q hq=>(h.low q hq).mono⟩
theorem BdS.le {N M:Nat}{st:List Rws×Rws}(h:BdS N st)(l:N≤M):BdS M st:=by
 induction l with
 |refl=>exact h
 |step _ ih=>exact ih.mono
theorem BdS.add {N:Nat}{k:List Rws}{rows:Rws}{p:Pat}(h:BdS N (k,rows)):BdS (N+1) (k,addL rows p):=⟨Nat.le_succ_of_le h.kl,h.top.add,fun q hq=>(h.low q hq).mono⟩
theorem BdS.step {N:Nat}{st st':List Rws×Rws}{t:Cs}(h:BdS N st)(e:layR st t=some st'):BdS (N+1) st':=by
 obtain⟨k,rows⟩:=st
 have h1:=h.kl
 have h2:=h.top
 have h3:=h.low
 dsimp only at h1 h2 h3
 obtain⟨rs,r,rfl⟩:=ne_app h2.1
 unfold layR at e
 dsimp only at e
 have tail:(if t=[45] then some (k,addL (rs++[r]) .none) else if t=[35]∨isNm t=true then some (k,addL (rs++[r]) (.one ⟨t.toArray⟩)) else none)=some st'→BdS (N+1) st':=fun e=>by
  by_cases c4:t=[45]
  ·rw[if_pos c4]at e;cases e;exact h.add
  ·rw[if_neg c4]at e
   by_cases c5:t=[35]∨isNm t=true
   ·rw[if_pos c5]at e;cases e;exact h.add
   ·rw[if_neg c5]at e;cases e
 by_cases c1:t=[40]
 ·rw[if_pos c1]at e;cases e
  refine⟨by simpa using h1,⟨by simp,by simp,by simp⟩,fun q hq=>?_⟩
  rcases List.mem_cons.mp hq with rfl|hq
  ·exact h2.mono
  ·exact(h3 q hq).mono
 ·rw[if_neg c1]at e
  by_cases c2:t=[41]
  ·rw[if_pos c2]at e
   cases ef:z6l (rs++[r]) with
   |none=>rw[ef]at e;cases e
   |some p =>
    rw[ef]at e
    cases k with
    |nil=>cases e
    |cons r0 k =>
     cases e
     exact⟨by simp at h1 ⊢;omega,(h3 r0 List.mem_cons_self).add,fun q hq=>(h3 q (List.mem_cons_of_mem _ hq)).mono⟩
  ·rw[if_neg c2]at e
   by_cases c3:t=[124]
   ·rw[if_pos c3]at e;cases e
    refine⟨Nat.le_succ_of_le h1,⟨by simp,?_,fun x hx=>?_⟩,fun q hq=>(h3 q hq).mono⟩
    ·have:=h2.2.1
     simp at this ⊢;omega
    ·rcases List.mem_append.mp hx with hx|hx
     ·exact Nat.le_succ_of_le (h2.2.2 x hx)
     ·rw[List.mem_singleton.mp hx];simp
   ·rw[if_neg c3]at e
    cases ew:wkOf t with
    |none=>rw[ew]at e;exact tail e
    |some w =>
     cases el:(y5q (rs++[r])).getLast? with
     |none=>rw[ew,el]at e;exact tail e
     |some p =>
      rw[ew,el]at e
      cases e
      refine⟨Nat.le_succ_of_le h1,⟨by simp,?_,fun x hx=>?_⟩,fun q hq=>(h3 q hq).mono⟩
      ·have:=h2.2.1
       simp at this ⊢;omega
      ·rw[List.dropLast_concat,y5i]at hx
       rcases List.mem_append.mp hx with hx|hx
       ·exact Nat.le_succ_of_le (h2.2.2 x (List.mem_append_left _ hx))
       ·rw[List.mem_singleton.mp hx]
        have:=h2.2.2 r (by simp)
        simp;omega
theorem GS.np {H0 F H:Hp}{ga:Addr}{gs:List (Addr×List Addr)}{G:List Rws}(h:GS H0 F H ga gs G){p:Addr}(hp:H p=none):∀a∈ga::gs.flatMap adrG,a≠p:=fun a ha z=>by
 obtain⟨o,e⟩:=h.at a ha
 rw[z,hp]at e;cases e
theorem GS.addT {H0 F H:Hp}{ga p:Addr}{gs:List (Addr×List Addr)}{g ra:Addr}{ras:List Addr}{G:List Rws}{rows:Rws}{r r0:List Pat}{vs0:List V}{o:HO}{pt:Pat}(h:GS H0 F H ga (gs++[(g,ras++[ra])]) (G++[rows++[r]]))(hp:H p=none)(rp:Rep (upd F p o) (patD pt) (.ref p))(hr:Reps F (r0.map patD) vs0) :
  Same F (upd F p o)∧(Same H0 H→NWs F (upd F p o) H0)∧GS H0 (upd F p o) (upd (upd H p o) ra (.lst (vs0++[.ref p]))) ga (gs++[(g,ras++[ra])]) (G++[rows++[r0++[pt]]]):=by
 have fp:F p=none:=by
  cases e:F p with
  |none=>rfl
  |some o=>have:=h.sub _ _ e;rw[hp]at this;cases this
 have np:=h.np hp
 have s1:Same F (upd F p o):=Same.of_new fp
 have s2:Same (upd F p o) (upd H p o):=fun a u e=>by
  by_cases z:a=p
  ·subst z;rw[z0g]at e ⊢;exact e
  ·rw[z0i z]at e ⊢;exact h.sub _ _ e
 have h1:=h.mono s1 s2 (fun a ha=>by rw[z0i (np a ha)];exact(h.fr a ha).1) (fun a ha u e=>by rw[z0i (np a ha)];exact e)
 refine⟨s1,fun s0 a u e n=>?_,h1.setRow (r':=r0++[pt]) (vs:=vs0++[.ref p]) (by rw[List.map_append];exact(Reps.mono s1 _ _ hr).app (Reps.one rp))⟩
 by_cases z:a=p
 ·rw[z];exact s0.free hp
 ·rw[z0i z,n]at e;cases e
theorem at1V (xs:List V)(x:V):atI (xs++[x]) (-1)=some x:=by
 unfold atI ixN
 rw[if_neg (by decide),if_pos (by simp;omega)]
 have:(-1+((xs++[x]).length:Int)).toNat=xs.length:=by simp;omega
 rw[Option.bind_some,this]
 simp
theorem z8d {α β:Type}{R:α→β→Prop}:∀{xs:List α}{ys:List β},Paired R xs ys→xs.length=ys.length
 |_,_,.nil=>rfl
 |_,_,.cons _ t=>by rw[List.length_cons,List.length_cons,z8d t]
theorem ifTru {K:PySem.W.Frag}{H:Hp}{ra:Addr}{vs:List V}{c A R:Prop}[Decidable c](hra:H ra=some (.lst vs))(h:c→vs=[])(hR:R):if c then(∃k,TruV K (.ref ra) H k∧if k=true then A else R) else R:=by
 split
 ·rename_i hc
  have:=h hc
  subst this
  exact⟨false,.inl ⟨_,SqL.of hra,rfl⟩,by rw[if_neg (by simp)];exact hR⟩
 ·exact hR
section
variable {P:Program}{w:World}{K:PySem.W.Frag}{mg:Str→Option Value}{base:Heap}{f:Addr}{fd:FuncData}{aM aK:Addr}
def u8j:Sp:=fun vs H Q _=>∃(H0 F:Hp) (ga:Addr) (gs:List (Addr×List Addr)) (k:List Rws) (rows:Rws) (t:Cs),vs=[.ref ga,.str (strC t)]∧GS H0 F H ga gs (k.reverse++[rows])∧Same H0 H∧BdS 90000 (k,rows)∧t.length≤100000 ∧
 ∀(b:Bool) (H':Hp),OutG (ga::gs.flatMap adrG) H H'→(match layR (k,rows) t with
  |some st=>b=true∧∃F' gs',Same F F'∧NWs F F' H0∧GS H0 F' H' ga gs' (st.1.reverse++[st.2])
  |none=>b=false)→Q (.bl b) H'
theorem p0v {f1 f2 f3 f4 f5:Addr}{fd1 fd2 fd3 fd4 fd5:FuncData}(u1o:Ent K mg "lay_pattern" u1u ["groups","token"] f fd)(T:Zs K mg)(Gd:Gds K mg w aM aK)(u0s:Ent K mg "close_bracket" u1c ["groups"] f3 fd3)(u2a:Ent K mg "folded" u3n ["rows"] f1 fd1)(u0u:Ent K mg "gathered" u2h ["kind","patterns"] f2 fd2)(u0i:Ent K mg "is_name" u2g ["text"] f4 fd4)(u0e:Ent K mg "is_letter" u0w ["sign"] f5 fd5):FnOk P w K mg base CX0 4 f fd ["groups","token"] u8j:=by
 have u4z:FnOk P w K mg base CX0 3 f3 fd3 _ y8b:=u7o u0s T u2a u0u
 have u3v:FnOk P w K mg base CX0 2 f4 fd4 _ (spD u6s):=y9a u0i T u0e
 refine u1o.F.ok u4r (fun vs H Q E h=>?_) (fun cdv A outer s H vs Q E hr h=>?_)
 ·obtain⟨_,_,_,_,_,_,_,rfl,_⟩:=h;rfl
 ·obtain⟨H0,F,ga,gs,k,rows,t,rfl,h,s0,bd,ht,q⟩:=h
  have hu:=z5b hr
  refine⟨_,(z0k (z2g (i:=2) u4r.nd rfl (Or.inl rfl) (z2w z2c (z2w z2c (pv 0) (x0b y2g z1h) (fun _ _=>rfl)) (x0b y2g z1h) (fun _ _=>rfl)))
   (z0k (z3u (z1y z3c (pv 1) z1t (z0u _)) (z0q (z2t (z9h PySem.F.slot_list_append PySem.F.type_list_append z1p (pv 0) (z0d (z4s (z0d (z4s z0j) z0j)) z0j)))) (z0q (z3u (z1y z3c (pv 1) z1t (z0u _)) (z0q (z3t (z1e u4z (hr.mono (by decide)) rfl u0s.g u0s.F.kp u0s.b .nil z0z (z0d (pv 0) z0j)))) (z0q (z3u (z1y z3c (pv 1) z1t (z0u _)) (z0q (z2t (z9h PySem.F.slot_list_append PySem.F.type_list_append z1p (z2w z2c (pv 0) (x0b y2g z1h) (fun _ _=>rfl)) (z0d (z4s z0j) z0j)))) (z0q (z3u (PW.pt (y2o (z1y (op_inG Gd.d_KINDS) (pv 1) (z8s (v:=.ref _) rfl Gd.g_KINDS rfl) rfl) (z8t (z6w (pv 2) (fun _=>rfl))))) (z0q (z2t (z9h PySem.F.slot_list_append PySem.F.type_list_append z1p (pv 2) (z0d (z5n (z0d (pe_gget Gd.d_KINDS rfl Gd.g_KINDS (pv 1) (fun _ _=>rfl)) (z0d (x2l PySem.F.slot_list_pop PySem.F.type_list_pop mt_pop (pv 2)) z0j))) z0j)))) (z0q (z3u (z1y z3c (pv 1) z1t (z0u _)) (z0q (z2t (z9h PySem.F.slot_list_append PySem.F.type_list_append z1p (pv 2) (z0d (z5n (z0d z1t z0j)) z0j)))) (z0q (z3u (PW.pt (y6n (z1y z3c (pv 1) z1t (z0u _)) (y1u (z4u (z1e u3v (hr.mono (by decide)) rfl u0i.g u0i.F.kp u0i.b .nil z0z (z0d (pv 1) z0j)))))) (z0q (z2t (z9h PySem.F.slot_list_append PySem.F.type_list_append z1p (pv 2) (z0d (z5n (z0d z1t (z0d (pv 1) z0j))) z0j)))) (z0q (z3t y1w)))))))))))))
   (z0q (z3t y1w)))),?_⟩
  have sz:=z0x
  obtain⟨rs,r,rfl⟩:=ne_app bd.top.1
  have hkl:k.length≤90000:=bd.kl
  have hrl:(rs++[r]).length≤90000:=bd.top.2.1
  have hrr:r.length≤90000:=bd.top.2.2 r (by simp)
  obtain⟨gs,⟨g,ras⟩,rfl,p1,p2⟩:=z2m h.grp
  obtain⟨ras,ra,e5,p3,p4⟩:=z2m p2.rows
  have e5':_=_:=e5
  dsimp only at e5'
  subst e5'
  obtain⟨vs,hra,rvs⟩:=p4
  have hvl:=rvs.len
  rw[List.length_map]at hvl
  have htop:=h.top
  have htop':H ga=some (.lst ((gs.map fun q=>V.ref q.1)++[.ref g])):=by rw[htop];simp
  have hg:H g=some (.lst (ras.map V.ref++[.ref ra])):=by have:=p2.lst;rw[this];simp
  have gl:=z8d h.grp
  simp at gl
  have rl:=z8d p3
  simp at hrl
  walk_at "rs"
  refine⟨_,htop',.ref g,at1V _ _,g,rfl,_,hg,.ref ra,at1V _ _,?_⟩
  have e40:(strC t=("(":Str))↔t=[40]:=sC (by decide)
  have e41:(strC t=(")":Str))↔t=[41]:=sC (by decide)
  have e124:(strC t=("|":Str))↔t=[124]:=sC (by decide)
  have e45:(strC t=("-":Str))↔t=[45]:=sC (by decide)
  have e35:(strC t=("#":Str))↔t=[35]:=sC (by decide)
  have hgg:g∈ga::(gs++[(g,ras++[ra])]).flatMap adrG:=by simp[adrG]
  have hgr:ra∈ga::(gs++[(g,ras++[ra])]).flatMap adrG:=by simp[adrG]
  unfold tIfS
  walk_at "rd"
  by_cases c1:t=[40]
  ·rw[if_pos (e40.mpr c1)]
   have eL:layR (k,rs++[r]) t=some ((rs++[r])::k,[[]]):=by unfold layR;rw[if_pos c1]
   rw[eL]at q
   refine⟨⟨_,htop⟩,by omega,fun p1 h1=>⟨by omega,fun p2 n2 h2=>⟨_,by rw[z0i (z0n htop h2),z0i (z0n htop h1)];exact htop,by simp;omega,?_⟩⟩⟩
   have G':=h.pushG (p1:=p1) (p2:=p2) h1 (by rw[z0i n2];exact h2) (s0.free h1) (s0.free h2)
   refine q true _ (fun a o ea na=>?_) ⟨rfl,F,_,Same.refl _,NWs.refl _ _,by rw[List.reverse_cons];exact G'⟩
   have n3:a≠ga:=fun z=>na (by rw[z];exact List.mem_cons_self)
   rw[z0i n3,z0i (z0n ea h2),z0i (z0n ea h1)];exact ea
  rw[if_neg (fun z=>c1 (e40.mp z))]
  by_cases c2:t=[41]
  ·rw[if_pos (e41.mpr c2)]
   refine⟨H0,F,ga,_,k,rs++[r],rfl,h,s0,by simp;omega,fun x hx=>by have:=bd.top.2.2 x hx;omega,fun x hx=>⟨(bd.low x hx).1,fun y hy=>by have:=(bd.low x hx).2.2 y hy;omega⟩,fun b H' out res=>q b H' out ?_⟩
   have eL:layR (k,rs++[r]) t=(z6l (rs++[r])).bind fun p=>match k with
    | []=>none
    |r0::k=>some (k,addL r0 p):=by
    unfold layR
    rw[if_neg c1,if_pos c2]
    all_goals rfl
   rw[eL]
   cases ef:z6l (rs++[r]) with
   |none=>rw[ef]at res;exact res
   |some p =>
    rw[ef]at res
    cases k with
    |nil=>exact res
    |cons r0 k=>exact res
  rw[if_neg (fun z=>c2 (e41.mp z))]
  by_cases c3:t=[124]
  ·rw[if_pos (e124.mpr c3)]
   have eL:layR (k,rs++[r]) t=some (k,rs++[r]++[[]]):=by unfold layR;rw[if_neg c1,if_neg c2,if_pos c3]
   rw[eL]at q
   refine⟨_,htop',.ref g,at1V _ _,g,rfl,⟨_,hg⟩,by omega,fun p hp=>⟨_,by rw[z0i (z0n hg hp)];exact hg,by simp;omega,?_⟩⟩
   have G':=GS.pushRow (ras:=ras++[ra]) h hp (s0.free hp)
   refine q true _ (fun a o ea na=>?_) ⟨rfl,F,_,Same.refl _,NWs.refl _ _,by simpa using G'⟩
   have n3:a≠g:=fun z=>na (by rw[z];exact hgg)
   rw[z0i n3,z0i (z0n ea hp)];exact ea
  rw[if_neg (fun z=>c3 (e124.mp z))]
  have outA:∀(H1:Hp) (p:Addr) (o':HO) (xs:List V),OutG (ga::(gs++[(g,ras++[ra])]).flatMap adrG) H H1→H1 p=none→OutG (ga::(gs++[(g,ras++[ra])]).flatMap adrG) H (upd (upd H1 p o') ra (.lst xs)):=fun H1 p o' xs out hp a o ea na=>by
   have n3:a≠ra:=fun z=>na (by rw[z];exact hgr)
   have e1:=out a o ea na
   rw[z0i n3,z0i (z0n e1 hp)];exact e1
  have outR:OutG (ga::(gs++[(g,ras++[ra])]).flatMap adrG) H H:=fun a o ea _=>ea
  have eM:layR (k,rs++[r]) t=match wkOf t,r.getLast? with
   |some w,some p=>some (k,rs++[r.dropLast++[.wrap w p]])
   |_,_=>if t=[45] then some (k,rs++[r++[.none]]) else if t=[35]∨isNm t=true then some (k,rs++[r++[.one ⟨t.toArray⟩]]) else none:=by
   unfold layR
   rw[if_neg c1,if_neg c2,if_neg c3]
   simp only[y5i,z6s,List.dropLast_concat]
   all_goals (cases wkOf t<;>first|rfl|(cases r.getLast?<;>rfl))
  have fpn:∀{p:Addr},H p=none→F p=none:=fun hp=>h.sub.free hp
  by_cases hw:∃w p,wkOf t=some w∧r.getLast? = some p
  ·obtain⟨w',p,hw,hp⟩:=hw
   rw[hw,hp]at eM
   replace eM:layR (k,rs++[r]) t=some (k,rs++[r.dropLast++[.wrap w' p]]):=eM
   obtain⟨r',rfl⟩:=List.getLast?_eq_some_iff.mp hp
   rw[List.dropLast_concat]at eM
   obtain⟨vp,hvp,rvp⟩:=rvs.get (i:=r'.length) (d:=patD p) (by simp)
   have rvd:=rvs.dropLast
   rw[List.map_append,List.map_singleton,List.dropLast_concat]at rvd
   have hl2:vs.length=r'.length+1:=by rw[←hvl];simp
   have hks:y9 (strC t)=some w'.str:=by rw[y9d,hw];rfl
   rw[hks,if_pos (show(some w'.str).isSome=true from rfl)]
   refine⟨true,.inl ⟨_,SqL.of hra,?_⟩,?_⟩
   ·cases vs with
    |nil=>simp at hl2
    |cons a b=>rfl
   rw[if_pos rfl]
   refine⟨⟨_,hra⟩,_,rfl,⟨_,hra⟩,vs,hra,vp,by rw[hl2];exact hvp,by omega,fun p0 np hp0=>⟨vs.dropLast,by rw[z0i (Ne.symm np),z0g],by simp;omega,?_⟩⟩
   rw[upd_comm (a:=ra) (b:=p0) (Ne.symm np),x3l]
   obtain⟨sA,nwA,GA⟩:=h.addT (r0:=r') (pt:=.wrap w' p) (o:=.tup [.str w'.str,vp]) hp0 ⟨p0,_,rfl,z0g,_,_,rfl,rfl,_,_,rfl,Rep.mono (Same.of_new (fpn hp0)) _ _ rvp,rfl⟩ rvd
   rw[eM]at q
   exact q true _ (outA H p0 _ _ outR hp0) ⟨rfl,_,_,sA,nwA s0,GA⟩
  have eM2:layR (k,rs++[r]) t=if t=[45] then some (k,rs++[r++[.none]]) else if t=[35]∨isNm t=true then some (k,rs++[r++[.one ⟨t.toArray⟩]]) else none:=by
   rw[eM]
   cases hw2:wkOf t with
   |none=>rfl
   |some w =>
    cases hl:r.getLast? with
    |none=>rfl
    |some p=>exact absurd ⟨_,_,hw2,hl⟩ hw
  refine ifTru hra (fun hc=>?_) ?_
  ·rw[y9d]at hc
   cases hw2:wkOf t with
   |none=>rw[hw2]at hc;cases hc
   |some w =>
    have hr0:r=[]:=by
     cases hl:r.getLast? with
     |none=>exact List.getLast?_eq_none_iff.mp hl
     |some p=>exact absurd ⟨_,_,hw2,hl⟩ hw
    subst hr0
    exact List.eq_nil_of_length_eq_zero hvl.symm
  by_cases c4:t=[45]
  ·rw[if_pos (e45.mpr c4)]
   rw[if_pos c4]at eM2
   rw[eM2]at q
   refine⟨⟨_,hra⟩,by omega,fun p hp=>⟨vs,by rw[z0i (z0n hra hp)];exact hra,by omega,?_⟩⟩
   obtain⟨sA,nwA,GA⟩:=h.addT (r0:=r) (pt:=.none) (o:=.tup [.str "none"]) hp ⟨p,_,rfl,z0g,_,_,rfl,rfl,rfl⟩ rvs
   exact q true _ (outA H p _ _ outR hp) ⟨rfl,_,_,sA,nwA s0,GA⟩
  rw[if_neg (fun z=>c4 (e45.mp z))]
  rw[if_neg c4]at eM2
  by_cases c5:t=[35]
  ·rw[if_pos (e35.mpr c5)]
   rw[if_pos (.inl c5)]at eM2
   rw[eM2]at q
   refine⟨⟨_,hra⟩,by omega,fun p hp=>⟨vs,by rw[z0i (z0n hra hp)];exact hra,by omega,?_⟩⟩
   obtain⟨sA,nwA,GA⟩:=h.addT (r0:=r) (pt:=.one ⟨t.toArray⟩) (o:=.tup [.str "one",.str (strC t)]) hp ⟨p,_,rfl,z0g,_,_,rfl,rfl,_,_,rfl,rfl,rfl⟩ rvs
   exact q true _ (outA H p _ _ outR hp) ⟨rfl,_,_,sA,nwA s0,GA⟩
  rw[if_neg (fun z=>c5 (e35.mp z))]
  refine z2a (ds:=[.str (strC t)]) (Qd:=fun _ d _=>d=.bl (isNm t)) ⟨_,[],rfl,rfl,rfl⟩ ⟨strC t,rfl,by rw[z1a];omega,by rw[y2d]⟩ fun b d δ' v H1 s1 ed r1=>?_
  subst ed
  cases(show v=.bl (isNm t) from r1)
  refine⟨_,rfl,?_⟩
  cases hn:isNm t with
  |false =>
   rw[if_neg (by simp)]
   rw[if_neg (by simp[c5,hn])]at eM2
   rw[eM2]at q
   exact q false H1 (fun a o ea _=>s1 _ _ ea) rfl
  |true =>
   rw[if_pos rfl]
   rw[if_pos (.inr hn)]at eM2
   rw[eM2]at q
   have h1:=h.mono (Same.refl _) (h.sub.trans s1) (fun a ha=>(h.fr a ha).1) fun a ha o e=>s1 _ _ e
   refine⟨⟨_,s1 _ _ hra⟩,by omega,fun p hp=>⟨vs,by rw[z0i (z0n (s1 _ _ hra) hp)];exact s1 _ _ hra,by omega,?_⟩⟩
   obtain⟨sA,nwA,GA⟩:=h1.addT (r0:=r) (pt:=.one ⟨t.toArray⟩) (o:=.tup [.str "one",.str (strC t)]) hp ⟨p,_,rfl,z0g,_,_,rfl,rfl,_,_,rfl,rfl,rfl⟩ rvs
   exact q true _ (outA H1 p _ _ (fun a o ea _=>s1 _ _ ea) hp) ⟨rfl,_,_,sA,nwA (s0.trans s1),GA⟩
end
open PySem L2 VL Pap
def y3a (l:Cs):Option Pat:=(runR (tok l) ([],[[]])).bind fun st=>match st.1 with
 | []=>z6l st.2
 |_=>none
theorem runR_at {ts:List Cs}{i:Nat}{t:Cs}{s0 st:List Rws×Rws}(h:runR (ts.take i) s0=some st)(e:ts[i]? = some t):runR (ts.take (i+1)) s0=layR st t∧(layR st t=none→runR ts s0=none):=by
 have hi:=(List.getElem?_eq_some_iff.mp e).1
 have e1:ts.take (i+1)=ts.take i++[t]:=by rw[List.take_add_one,e];rfl
 have e2:runR (ts.take (i+1)) s0=layR st t:=by
  rw[e1,z5w,h,Option.bind_some,runR]
  cases layR st t<;>rfl
 refine⟨e2,fun z=>?_⟩
 have e3:ts=ts.take (i+1)++ts.drop (i+1):=(List.take_append_drop _ _).symm
 rw[e3,z5w,e2,z];rfl
theorem z8r:∀(n:Nat) (l:Cs),(z4t n l).length≤l.length
 |0,l=>by simp[z4t]
 |n+1,[]=>by simp[z4t]
 |n+1,c::r=>by
  rw[z3y]
  have hd:(r.dropWhile isL).length≤r.length:=(List.dropWhile_sublist _).length_le
  split
  ·have:=z8r n (r.dropWhile isL)
   simp only[List.length_cons];omega
  ·have:=z8r n r
   simp only[List.length_cons];omega
theorem tok_len (l:Cs):(tok l).length≤l.length:=Nat.le_trans (List.length_filter_le _ _) (z8r _ _)
theorem z8n:∀(n:Nat) (l:Cs),∀t∈z4t n l,t.length≤l.length
 |0,l,t,h=>by simp[z4t]at h
 |n+1,[],t,h=>by simp[z4t]at h
 |n+1,c::r,t,h=>by
  rw[z3y]at h
  have hd:(r.dropWhile isL).length≤r.length:=(List.dropWhile_sublist _).length_le
  have ht:(r.takeWhile isL).length≤r.length:=(List.takeWhile_sublist _).length_le
  split at h
  ·rcases List.mem_cons.mp h with rfl|h
   ·simp only[List.length_cons];omega
   ·have:=z8n n _ t h
    simp only[List.length_cons];omega
  ·rcases List.mem_cons.mp h with rfl|h
   ·simp
   ·have:=z8n n _ t h
    simp only[List.length_cons];omega
theorem tok_mem {l t:Cs}(h:t∈tok l):t.length≤l.length:=z8n _ _ t (List.mem_filter.mp h).1
section
variable {P:Program}{w:World}{K:PySem.W.Frag}{mg:Str→Option Value}{base:Heap}{f:Addr}{fd:FuncData}{aM aK:Addr}
def y7s:Sp:=fun vs H Q _=>∃(l:Cs) (F:Hp),vs=[.str (strC l)]∧Same F H∧l.length≤80000∧(∀c∈l,c≠34)∧∀v F' H',Same H H'→Same F F'→Same F' H'→NWs F F' H→Rep F' (optP (y3a l)) v→Q v H'
theorem u9o {f1 f2 f3 f4 f5 f6 f7 f8:Addr}{fd1 fd2 fd3 fd4 fd5 fd6 fd7 fd8:FuncData}(u0v:Ent K mg "scanned_pattern" u0y ["line"] f fd)(T:Zs K mg)(Gd:Gds K mg w aM aK)(u1o:Ent K mg "lay_pattern" u1u ["groups","token"] f6 fd6)(u0s:Ent K mg "close_bracket" u1c ["groups"] f3 fd3)(u2a:Ent K mg "folded" u3n ["rows"] f1 fd1)(u0u:Ent K mg "gathered" u2h ["kind","patterns"] f2 fd2)(u0i:Ent K mg "is_name" u2g ["text"] f4 fd4)(u0e:Ent K mg "is_letter" u0w ["sign"] f5 fd5)(u2o:Ent K mg "tokens_of" u2l ["line"] f7 fd7)(u1s:Ent K mg "token_end" u2k ["line","begin"] f8 fd8):FnOk P w K mg base CX0 5 f fd ["line"] y7s:=by
 have u5l:FnOk P w K mg base CX0 4 f6 fd6 _ u8j:=p0v u1o T Gd u0s u2a u0u u0i u0e
 have u5u:FnOk P w K mg base CX0 3 f7 fd7 _ (spD u8f):=u9l u2o T Gd u1s u0e
 have u5i:FnOk P w K mg base CX0 2 f1 fd1 _ (spD u6t):=x0s u2a T u0u
 refine u0v.F.ok u3o (fun vs H Q E h=>?_) (fun cdv A outer s H vs Q E hr h=>?_)
 ·obtain⟨_,_,rfl,_⟩:=h;rfl
 ·obtain⟨l,F,rfl,sF0,hl,h34,q⟩:=h
  have fn:∀a,H a=none→F a=none:=fun a=>sF0.free
  have hu:=z5b hr
  refine⟨_,(z0k (z2g (i:=1) u3o.nd rfl (Or.inl rfl) (z4s (z0d (z4s (z0d (z4s z0j) z0j)) z0j)))
   (z0k (z9c PassesOwn.never rfl (z8k (z1e u5u (hr.mono (by decide)) rfl u2o.g u2o.F.kp u2o.b .nil z0z (z0d (pv 0) z0j))) (z4o (i:=2) u3o.nd rfl (Or.inl rfl)) (z0q (z3u (z8a (z4u (z1e u5l (hr.mono (by decide)) rfl u1o.g u1o.F.kp u1o.b .nil z0z (z0d (pv 1) (z0d (pv 2) z0j))))) (z0q (z3t z6h)) z1w)))
   (z0q (z3t (z5x (z1y z3c (z3e z1d rfl T.z_len PySem.boot_len (z0d (pv 1) z0j)) z1h (z0u _)) (z1e u5i (hr.mono (by decide)) rfl u2a.g u2a.F.kp u2a.b .nil z0z (z0d (z2w z2c (pv 1) z1h (fun _ _=>rfl)) z0j)) z6h))))),?_⟩
  have sz:=z0x
  walk_at "rs"
  refine⟨by omega,fun p1 h1=>⟨by omega,fun p2 n2 h2=>⟨by omega,fun p3 n3 n3' h3=>?_⟩⟩⟩
  have G:GS H F (upd (upd (upd H p1 (.lst [])) p2 (.lst [.ref p1])) p3 (.lst [.ref p2])) p3 [(p2,[p1])] ([].reverse++[[[]]]):=by
   refine⟨z0g,.cons ⟨by rw[z0i (Ne.symm n3),z0g];rfl,.cons ⟨[],by rw[z0i (Ne.symm n3'),z0i (Ne.symm n2),z0g],rfl⟩ .nil⟩ .nil,?_,?_,((sF0.upd (fn _ h1)).upd (fn _ h2)).upd (fn _ h3)⟩
   ·simp[adrG,n2,n3,n3']
   ·intro a ha
    simp[adrG]at ha
    rcases ha with rfl|rfl|rfl<;>exact⟨fn _ (by assumption),by assumption⟩
  refine spD_F (ds:=[.str (strC l)]) (Qd:=fun _ d _=>d=.lst ((tok l).map fun t=>.str (strC t))) G.sub ⟨_,[],rfl,rfl,rfl⟩ ⟨l,rfl,by omega,h34,rfl⟩ fun b d δ' v F2 H2 s2 sF s3 new ed rv=>?_
  subst ed
  obtain⟨a,vs,rfl,ha,rvs⟩:=rv
  have evs:vs=(tok l).map fun t=>V.str (strC t):=by
   have:=Reps.strs (ks:=(tok l).map strC) (by rw[List.map_map];exact rvs)
   rw[this,List.map_map];rfl
  subst evs
  have G2:GS H F2 H2 p3 [(p2,[p1])] ([].reverse++[[[]]]):=G.mono sF s3 (fun a ha=>by
   cases ea:F2 a with
   |none=>rfl
   |some o =>
    obtain⟨o',eo⟩:=G.at a ha
    have:=new a o ea (G.fr a ha).1
    rw[eo]at this;cases this) fun a ha o e=>s2 _ _ e
  have tl:=tok_len l
  have sH0:Same H (upd (upd (upd H p1 (.lst [])) p2 (.lst [.ref p1])) p3 (.lst [.ref p2])):=((Same.of_new h1).upd h2).upd h3
  have nw0:NWs F F2 H:=fun a o e n=>sH0.free (new a o e n)
  refine⟨a,rfl,⟨_,SqL.of (s3 _ _ ha)⟩,x1d (xs:=(tok l).map fun t=>V.str (strC t)) (fun i σ H'=>∃F' gs k rows x2,σ=[some (.str (strC l)),some (.ref p3),x2]∧runR ((tok l).take i) ([],[[]])=some (k,rows)∧Same F2 F'∧NWs F2 F' H∧GS H F' H' p3 gs (k.reverse++[rows])∧Same H H'∧BdS (i+1) (k,rows)) ⟨F2,_,[],[[]],none,rfl,rfl,Same.refl _,NWs.refl _ _,G2,sH0.trans s2,⟨by simp,⟨by simp,by simp,by simp⟩,by simp⟩⟩ (fun i σ H' _ h=>?_) (fun i x σ H' hx h=>?_) fun σ H' h=>?_⟩
  ·obtain⟨F',gs,k,rows,x2,rfl,hrun,sFF,nw,g,sH,bd⟩:=h
   exact SqL.of (g.sub _ _ (sFF _ _ ha))
  ·obtain⟨F',gs,k,rows,x2,rfl,hrun,sFF,nw,g,sH,bd⟩:=h
   rw[List.getElem?_map]at hx
   obtain⟨t,ht,rfl⟩:=Option.map_eq_some_iff.mp hx
   have hi:=(List.getElem?_eq_some_iff.mp ht).1
   obtain⟨r1,r2⟩:=runR_at hrun ht
   have htl:=tok_mem (List.mem_of_getElem? ht)
   walk_at "rs"
   unfold tIfS
   walk_at "rs"
   have bd':BdS 90000 (k,rows):=bd.le (by omega)
   refine⟨H,F',p3,gs,k,rows,t,rfl,g,sH,bd',by omega,fun b H3 out res=>?_⟩
   have s03:Same H H3:=fun a o e=>out a o (sH _ _ e) fun z=>by rw[(g.fr a z).2]at e;cases e
   walk_at "rd"
   cases el:layR (k,rows) t with
   |none =>
    rw[el]at res
    cases res
    have:y3a l=none:=by unfold y3a;rw[r2 el];rfl
    rw[this]at q
    exact q _ F H3 s03 (Same.refl _) (sF0.trans s03) (NWs.refl _ _) rfl
   |some st =>
    rw[el]at res
    obtain⟨rfl,F3,gs3,sF3,nw3,g3⟩:=res
    exact⟨F3,gs3,st.1,st.2,by rw[r1,el],sFF.trans sF3,nw.trans nw3,g3,s03,bd.step el⟩
  ·obtain⟨F',gs,k,rows,x2,rfl,hrun,sFF,nw,g,sH,bd⟩:=h
   rw[List.length_map,List.take_length]at hrun
   rw[List.length_map]at bd
   have gl:=z8d g.grp
   simp at gl
   have htop:=g.top
   have hkl:k.length≤(tok l).length+1:=bd.kl
   walk_at "rd"
   refine⟨_,htop,?_⟩
   cases k with
   |cons r0 k =>
    simp at gl
    have:y3a l=none:=by unfold y3a;rw[hrun];rfl
    rw[this]at q
    rw[if_neg (by simp;omega)]
    exact q _ F H' sH (Same.refl _) (sF0.trans sH) (NWs.refl _ _) rfl
   |nil =>
    have hs:y3a l=z6l rows:=by unfold y3a;rw[hrun];rfl
    obtain⟨gs,⟨g1,ras⟩,rfl,p1',p2'⟩:=z2m g.grp
    have:gs=[]:=by simpa using gl
    subst this
    rw[if_pos (by simp)]
    refine⟨_,htop,.ref g1,rfl,?_⟩
    obtain⟨F3,s4,G3,rp,nw4⟩:=GS.popG (gs:=[]) (G:=[]) g
    have s5:Same F3 H':=fun b o e=>by
     have hb:b≠p3:=fun z=>by rw[z,(G3.fr p3 List.mem_cons_self).1]at e;cases e
     have:=G3.sub b o e
     rwa [z0i hb]at this
    refine spD_F (ds:=[.lst (rows.map fun r=>.lst (r.map patD))]) (Qd:=fun _ d _=>d=optP (z6l rows)) s5 ⟨.ref g1,[],rfl,rp,rfl⟩ ⟨rows,rfl,?_,fun r hr=>?_,rfl⟩ fun b d δ' v F4 H3 s6 s7 s8 new4 ed rv=>?_
    ·exact Nat.le_trans bd.top.2.1 (by omega)
    ·exact Nat.le_trans (bd.top.2.2 r hr) (by omega)
    ·subst ed
     rw[hs]at q
     exact q v F4 H3 (sH.trans s6) (sF.trans (sFF.trans (s4.trans s7))) s8 (nw0.trans (nw.trans (nw4.trans fun a o e n=>sH.free (new4 a o e n)))) rv
end
open PySem L2 VL Pap
theorem scan_txt {p:Pat}(h:okT p=true):y3a (txt p)=some p:=by
 obtain⟨rows,h1,h2⟩:=read_txt h
 unfold y3a
 rw[h1];exact h2
def noQ (l:Cs):Prop:=∀c∈l,c≠34
theorem noQ.app {a b:Cs}(h1:noQ a)(h2:noQ b):noQ (a++b):=fun c hc=>(List.mem_append.mp hc).elim (h1 c) (h2 c)
theorem y6o {b:Bool}{s:Cs}(h:noQ s):noQ (brk b s):=by
 unfold brk
 split
 ·intro c hc
  rcases List.mem_cons.mp hc with rfl|hc
  ·decide
  ·rcases List.mem_append.mp hc with hc|hc
   ·exact h c hc
   ·rw[List.mem_singleton.mp hc];decide
 ·exact h
theorem y3r {sep:Cs}(hs:noQ sep):∀{l:List Cs},(∀x∈l,noQ x)→noQ (z4a sep l)
 | [],_=>fun c hc=>by simp[z4a]at hc
 | [x],h=>by rw[z4a];exact h x (by simp)
 |x::y::r,h=>by
  rw[z4a]
  exact((h x (by simp)).app hs).app (y3r hs fun z hz=>h z (List.mem_cons_of_mem _ hz))
mutual
theorem y3w:∀(p:Pat),okT p=true→noQ (txt p)
 |.none,_=>by rw[txt];intro c hc;rw[List.mem_singleton.mp hc];decide
 |.one s,h=>by
  rw[txt]
  simp only[okT,Bool.or_eq_true,decide_eq_true_eq]at h
  intro c hc
  rcases h with h|h
  ·rw[h]at hc;rw[List.mem_singleton.mp hc];decide
  ·simp only[isNm,Bool.and_eq_true,List.all_eq_true]at h
   have:=h.2 c hc
   intro z;rw[z]at this;exact absurd this (by decide)
 |.row ps,h=>by
  simp only[okT,Bool.and_eq_true]at h
  rw[txt];exact y3r (fun c hc=>by rw[List.mem_singleton.mp hc];decide) (noQ_A ps h.2)
 |.any ps,h=>by
  simp only[okT,Bool.and_eq_true]at h
  rw[txt];exact y3r (fun c hc=>by simp at hc;rcases hc with rfl|rfl|rfl<;>decide) (noQ_B ps h.2)
 |.wrap k p,h=>by
  simp only[okT]at h
  rw[txt]
  exact(y6o (y3w p h)).app fun c hc=>by rw[List.mem_singleton.mp hc];cases k<;>decide
theorem noQ_A:∀(ps:List Pat),okTs ps=true→∀x∈txtA ps,noQ x
 | [],_,x,hx=>by simp[txtA]at hx
 |p::ps,h,x,hx=>by
  rw[okTs,Bool.and_eq_true]at h
  rw[txtA]at hx
  rcases List.mem_cons.mp hx with rfl|hx
  ·exact y6o (y3w p h.1)
  ·exact noQ_A ps h.2 x hx
theorem noQ_B:∀(ps:List Pat),okTs ps=true→∀x∈txtB ps,noQ x
 | [],_,x,hx=>by simp[txtB]at hx
 |p::ps,h,x,hx=>by
  rw[okTs,Bool.and_eq_true]at h
  rw[txtB]at hx
  rcases List.mem_cons.mp hx with rfl|hx
  ·exact y6o (y3w p h.1)
  ·exact noQ_B ps h.2 x hx
end
theorem y3h (a b:Str):csS (a++b)=csS a++csS b:=by
 show(a.cps++b.cps).toList=_
 simp[csS]
theorem cs_inj {a b:Str}(h:csS a=csS b):a=b:=by rw[←z6d a,h,z6d]
theorem x2a (x y:Str)(i:Nat):Builtin.Str.subAt x y i=(((csS x).drop i).take y.length == csS y):=StrLaws.subAt_eq x y i
theorem y8l (x:Str)(i j:Nat):Builtin.Str.strSub x i j=strC (((csS x).drop i).take (j - i)):=cs_inj (by rw[y2d];exact StrLaws.strSub_toList x i j)
theorem part_nm {nm mid rest:Str}{c:Nat}{m:Cs}(hn:∀c∈csS nm,isL c=true)(hm:csS mid=c::m)(hc:isL c=false):Txt.partition (nm++mid++rest) mid=(nm,mid,rest):=by
 have e0:csS (nm++mid++rest)=csS nm++(csS mid++csS rest):=by rw[y3h,y3h,List.append_assoc]
 have ln:=z7a nm
 have lm:=z7a mid
 have lr:=z7a rest
 have lx:=z7a (nm++mid++rest)
 rw[e0,List.length_append,List.length_append]at lx
 have hat:StrLaws.At (nm++mid++rest) mid (nm++mid++rest).length nm.length:=by
  refine⟨by omega,?_⟩
  rw[x2a,e0,←ln,List.drop_left,←lm,List.take_left]
  simp
 have hno:∀k,k<nm.length→¬StrLaws.At (nm++mid++rest) mid (nm++mid++rest).length k:=by
  rintro k hk ⟨_,h⟩
  rw[x2a,e0]at h
  have h:=eq_of_beq h
  rw[List.drop_append_of_le_length (by omega)]at h
  have hk':k<(csS nm).length:=by omega
  rw[List.drop_eq_getElem_cons hk',hm]at h
  have l2:mid.length=m.length+1:=by rw[←lm,hm];rfl
  rw[l2,List.cons_append,List.take_succ_cons]at h
  have:=(List.cons.inj h).1
  have h3:=hn _ (List.getElem_mem hk')
  rw[this,hc]at h3;cases h3
 unfold Txt.partition
 rcases StrLaws.occ_head (nm++mid++rest) mid 1 (Nat.le_refl 1) with ⟨_,hn'⟩|⟨i,r,h0,hi,hn'⟩
 ·exact absurd hat (hn' _)
 ·have ei:i=nm.length:=by
   rcases Nat.lt_trichotomy i nm.length with z|z|z
   ·exact absurd hi (hno i z)
   ·exact z
   ·exact absurd hat (hn' _ z)
  subst ei
  rw[h0]
  have e1:Builtin.Str.strSub (nm++mid++rest) 0 nm.length=nm:=by
   rw[y8l,e0,List.drop_zero,Nat.sub_zero,←ln,List.take_left,z6d]
  have e2:Builtin.Str.strSub (nm++mid++rest) (nm.length+mid.length) (nm++mid++rest).length=rest:=by
   rw[y8l,e0,←ln,←lm,←List.drop_drop,List.drop_left,List.drop_left,List.take_of_length_le (by omega),z6d]
  dsimp only
  rw[e1,e2]
structure RuleW (r:Str×Pat):Prop where
 nm:isNm (csS r.1)=true
 nl:r.1.length≤30
 sz:szP r.2≤100
 dp:dpP r.2≤30
 sg:NlP r.2
 ok:okT r.2=true
theorem RuleW.part {r:Str×Pat}(h:RuleW r):Txt.partition (rowW r) " = " = (r.1,(" = ":Str),strC (txt r.2)):=by
 have h1:=h.nm
 simp only[isNm,Bool.and_eq_true,List.all_eq_true]at h1
 exact part_nm (c:=32) (m:=[61,32]) h1.2 (by decide) (by decide)
section
variable {P:Program}{w:World}{K:PySem.W.Frag}{mg:Str→Option Value}{base:Heap}{f:Addr}{fd:FuncData}{aM aK:Addr}
def u9p:Sp:=fun vs H Q _=>∃(p:Pat) (F:Hp),vs=[.str (strC (txt p))]∧Same F H∧szP p≤100∧dpP p≤30∧NlP p∧okT p=true∧∀v F' H',Same H H'→Same F F'→Same F' H'→NWs F F' H→Rep F' (patD p) v→Q v H'
theorem p1e {f1 f2 f3:Addr}{fd1 fd2 fd3:FuncData}(u0l:Ent K mg "read_pattern" u1b ["line"] f fd)(T:Zs K mg)(Gd:Gds K mg w aM aK)(u0v:Ent K mg "scanned_pattern" u0y ["line"] f1 fd1)(u3t:FnOk P w K mg base CX0 5 f1 fd1 ["line"] y7s)(u0d:Ent K mg "show_pattern" u0t ["pattern"] f2 fd2)(u3b:Ent K mg "held" u4q ["pattern","kinds"] f3 fd3):FnOk P w K mg base CX0 63 f fd ["line"] u9p:=by
 have u2e:FnOk P w K mg base CX0 62 f2 fd2 _ (spD (z5u 31)):=x2r u0d T Gd u3b 31
 refine u0l.F.ok u4k (fun vs H Q E h=>?_) (fun cdv A outer s H vs Q E hr h=>?_)
 ·obtain⟨_,_,rfl,_⟩:=h;rfl
 ·obtain⟨p,F,rfl,sF0,hsz,hdp,nl,ok,q⟩:=h
  have hu:=z5b hr
  refine⟨_,(z0k (z2g (i:=1) u4k.nd rfl (Or.inl rfl) (z1e u3t (hr.mono (by decide)) rfl u0v.g u0v.F.kp u0v.b .nil z0z (z0d (pv 0) z0j)))
   (z0q (z3t (z5x (PW.pt (y2o (z1y y6x (pv 1) z6h (z0u _)) (z8t (z1y z3c (z1e u2e (hr.mono (by decide)) rfl u0d.g u0d.F.kp u0d.b .nil z0z (z0d (pv 1) z0j)) (pv 0) (z0u _))))) (pv 1) z6h)))),?_⟩
  have sz:=z0x
  have tl:=z3z p nl
  walk_at "rs"
  refine⟨txt p,F,rfl,sF0,by omega,y3w p ok,fun v F1 H1 s1 sF sFH nw rv=>?_⟩
  rw[scan_txt ok]at rv
  obtain⟨va,rfl⟩:∃va,v=.ref va:=by
   have rv':Rep F1 (patD p) v:=rv
   cases p<;>(obtain⟨a,_,e1,_⟩:=rv';exact⟨a,e1⟩)
  walk_at "rd"
  refine⟨true,by simp,?_⟩
  rw[if_pos rfl]
  refine z2a (ds:=[patD p]) (Qd:=fun _ d _=>d=.str (strC (txt p))) (Reps.one (Rep.mono sFH _ _ rv)) ⟨p,rfl,by omega,by omega,nl,rfl⟩ fun b d δ' v H2 s2 ed r2=>?_
  subst ed
  cases(show v=.str (strC (txt p)) from r2)
  refine⟨rfl,?_⟩
  rw[if_pos rfl]
  exact q _ F1 _ (s1.trans s2) sF (sFH.trans s2) nw rv
def u9q (fr:Addr):Sp:=fun vs H Q _=>∃(r:Str×Pat) (F:Hp),vs=[.str (rowW r),.str " = ",.ref fr]∧Same F H∧RuleW r∧∀t F' H',Same H H'→Same F F'→Same F' H'→NWs F F' H→Rep F' (z1s r) (.ref t)→Q (.ref t) H'
theorem p1f {f1 f2 f3:Addr}{fd1 fd2 fd3:FuncData}(u2p:Ent K mg "read_rule" u2t ["line","middle","reader"] f fd)(T:Zs K mg)(u0l:Ent K mg "read_pattern" u1b ["line"] f1 fd1)(u4d:FnOk P w K mg base CX0 63 f1 fd1 ["line"] u9p)(u0i:Ent K mg "is_name" u2g ["text"] f2 fd2)(u0e:Ent K mg "is_letter" u0w ["sign"] f3 fd3):FnOk P w K mg base CX0 64 f fd ["line","middle","reader"] (u9q f1):=by
 have u3v:FnOk P w K mg base CX0 2 f2 fd2 _ (spD u6s):=y9a u0i T u0e
 refine u2p.F.ok u4l (fun vs H Q E h=>?_) (fun cdv A outer s H vs Q E hr h=>?_)
 ·obtain⟨_,_,rfl,_⟩:=h;rfl
 ·obtain⟨r,F,rfl,sF0,ok,q⟩:=h
  have hu:=z5b hr
  refine⟨_,(z0k (z2g (i:=3) u4l.nd rfl (Or.inl rfl) (pe_bm PySem.F.plainAttrs_str PySem.F.slot_str_partition PySem.F.type_str_partition y3e (pv 0) (z0d (pv 1) z0j)))
   (z0k (z2g (i:=4) u4l.nd rfl (Or.inl rfl) (pe_callV 2 u4d (hr.mono (by decide)) u0l.F.kp u0l.b .nil z0z (z0d (z2w z1g (pv 3) z1h (fun _ _=>rfl)) z0j)))
   (z0q (z3t (z5x (PW.pt (y2o (z4u (z1e u3v (hr.mono (by decide)) rfl u0i.g u0i.F.kp u0i.b .nil z0z (z0d (z2w z1g (pv 3) z1h (fun _ _=>rfl)) z0j))) (z8t (z1y y6x (pv 4) z6h (z0u _))))) (z5n (z0d (z2w z1g (pv 3) z1h (fun _ _=>rfl)) (z0d (pv 4) z0j))) z6h))))),?_⟩
  have sz:=z0x
  have tl:=z3z r.2 ok.sg
  have hsz:=ok.sz
  have hnl:=ok.nl
  have l2:(" = ":Str).length=3:=by decide
  have lw:(rowW r).length=r.1.length+3+(txt r.2).length:=by unfold rowW;rw[Str.length_append,Str.length_append,l2,z1a]
  walk_at "rs"
  refine⟨by trivial,by decide,by omega,fun p hp=>?_⟩
  rw[ok.part]
  have hp1:upd H p (.tup [.str r.1,.str " = ",.str (strC (txt r.2))]) p=some (.tup [.str r.1,.str " = ",.str (strC (txt r.2))]):=z0g
  have s1:Same H (upd H p (.tup [.str r.1,.str " = ",.str (strC (txt r.2))])):=Same.of_new hp
  generalize upd H p (.tup [.str r.1,.str " = ",.str (strC (txt r.2))])=H1 at hp1 s1
  walk_at "rd"
  refine⟨r.2,F,rfl,sF0.trans s1,ok.sz,ok.dp,ok.sg,ok.ok,fun v F2 H2 s2 sF sFH nw rv=>?_⟩
  obtain⟨va,rfl⟩:∃va,v=.ref va:=by
   cases e:r.2<;>rw[e]at rv<;>(obtain⟨a,_,e1,_⟩:=rv;exact⟨a,e1⟩)
  refine⟨_,s2 _ _ hp1,_,rfl,?_⟩
  refine z2a (ds:=[.str r.1]) (Qd:=fun _ d _=>d=.bl true) ⟨_,[],rfl,rfl,rfl⟩ ⟨r.1,rfl,by omega,by rw[ok.nm]⟩ fun b d δ' v H3 s3 ed r3=>?_
  subst ed
  cases(show v=.bl true from r3)
  refine⟨true,rfl,?_⟩
  rw[if_pos rfl]
  refine⟨true,by simp,?_⟩
  rw[if_pos rfl]
  refine⟨_,s3 _ _ (s2 _ _ hp1),_,rfl,by omega,fun t ht=>?_⟩
  have nt:H t=none:=(s1.trans (s2.trans s3)).free ht
  have ft:F2 t=none:=(sFH.trans s3).free ht
  refine q t (upd F2 t (.tup [.str r.1,.ref va])) _ ((s1.trans (s2.trans s3)).upd nt) (sF.upd (sF.free ft)) (fun a o e=>?_) (fun a o e n=>?_) ⟨t,_,rfl,z0g,_,_,rfl,rfl,_,_,rfl,Rep.mono (Same.of_new ft) _ _ rv,rfl⟩
  ·by_cases z:a=t
   ·rw[z,z0g]at e ⊢;exact e
   ·rw[z0i z]at e ⊢;exact(sFH.trans s3) _ _ e
  ·by_cases z:a=t
   ·rw[z];exact nt
   ·rw[z0i z]at e;exact s1.free (nw a o e n)
end
open PySem L2 VL Pap
section
variable {P:Program}{w:World}{K:PySem.W.Frag}{mg:Str→Option Value}{base:Heap}{f:Addr}{fd:FuncData}{aM aK:Addr}
def y9c (fr:Addr):Sp:=fun vs H Q _=>∃(rules:List (Str×Pat)) (l:Addr),vs=[.ref l,.str " = ",.ref fr,.int 1]∧H l=some (.lst (rules.map fun r=>.str (rowW r)))∧rules.length≤20∧(∀r∈rules,RuleW r)∧∀a us F' H',H a=none→Same H H'→H' a=some (.lst us)→Same F' H'→F' a=none→Reps F' (rules.map z1s) us→Q (.ref a) H'
theorem p0w {f1 f2:Addr}{fd1:FuncData}(u0o:Ent K mg "read_rules" u1v ["lines","middle","reader","first"] f fd)(T:Zs K mg)(u2p:Ent K mg "read_rule" u2t ["line","middle","reader"] f1 fd1)(u4u:FnOk P w K mg base CX0 64 f1 fd1 ["line","middle","reader"] (u9q f2)):FnOk P w K mg base CX0 65 f fd ["lines","middle","reader","first"] (y9c f2):=by
 refine u0o.F.ok u3p (fun vs H Q E h=>?_) (fun cdv A outer s H vs Q E hr h=>?_)
 ·obtain⟨_,_,rfl,_⟩:=h;rfl
 ·obtain⟨rules,l,rfl,hl,hn,ok,q⟩:=h
  have hu:=z5b hr
  refine⟨_,(z0k (z2g (i:=4) u3p.nd rfl (Or.inl rfl) (z4s z0j))
   (z0k (z9c PassesOwn.never rfl (pi_enumK rfl T.z_enumerate (z0d (pv 0) z0j) (pv 3)) (y5v rfl (z5i (z4o (i:=5) u3p.nd rfl (Or.inl rfl)) (z5i (z4o (i:=6) u3p.nd rfl (Or.inl rfl)) y1p))) (z0k (z2g (i:=7) u3p.nd rfl (Or.inl rfl) (z1e u4u (hr.mono (by decide)) rfl u2p.g u2p.F.kp u2p.b .nil z0z (z0d (pv 6) (z0d (pv 1) (z0d (pv 2) z0j)))))
   (z0k (z3u (z1y op_isN (pv 7) z6h (z0u _)) (z0q z8b) z1w)
   (z0q (z2t (z9h PySem.F.slot_list_append PySem.F.type_list_append z1p (pv 4) (z0d (pv 7) z0j)))))))
   (z0q (z3t (pv 4))))),?_⟩
  have sz:=z0x
  walk_at "rs"
  refine⟨by omega,fun a ha=>⟨by decide,_,by rw[z0i (z0n hl ha)];exact hl,loopK (xs:=rules.map fun r=>V.str (rowW r)) (fun i σ H'=>∃us F' x5 x6 x7,σ=[some (.ref l),some (.str " = "),some (.ref f2),some (.int 1),some (.ref a),x5,x6,x7]∧Same H H'∧H' a=some (.lst us)∧Same F' H'∧F' a=none∧Reps F' ((rules.take i).map z1s) us) ⟨[],H,none,none,none,rfl,Same.of_new ha,z0g,Same.of_new ha,ha,rfl⟩ (fun i σ H' h=>?_) (fun i x σ H' t n hx h ht=>?_) fun σ H' h=>?_⟩⟩
  ·obtain⟨us,F,x5,x6,x7,rfl,s1,h1,sF,fa,r1⟩:=h
   exact s1 _ _ hl
  ·obtain⟨us,F,x5,x6,x7,rfl,s1,h1,sF,fa,r1⟩:=h
   rw[List.getElem?_map]at hx
   obtain⟨r,hr2,rfl⟩:=Option.map_eq_some_iff.mp hx
   have hi:=(List.getElem?_eq_some_iff.mp hr2).1
   have okr:=ok r (List.mem_of_getElem? hr2)
   have hlu:us.length=i:=by have:=r1.len;simp at this;omega
   have st:Same H' (upd H' t (.tup [.int n,.str (rowW r)])):=Same.of_new ht
   have ht1:upd H' t (.tup [.int n,.str (rowW r)]) t=some (.tup [.int n,.str (rowW r)]):=z0g
   generalize upd H' t (.tup [.int n,.str (rowW r)])=H1 at st ht1
   walk_at "rs"
   refine⟨_,.inl (.inl ht1),rfl,_,_,rfl,_,_,rfl,rfl,r,F,rfl,sF.trans st,okr,fun t2 F2 H2 s2 sF2 sFH nw rv=>?_⟩
   unfold tIfS
   walk_at "rd"
   have ha2:H2 a=some (.lst us):=s2 _ _ (st _ _ h1)
   have na:H a=none:=ha
   have fa2:F2 a=none:=by
    cases e:F2 a with
    |none=>rfl
    |some o=>have:=nw a o e fa;rw[st _ _ h1]at this;cases this
   refine⟨⟨_,ha2⟩,us,ha2,by omega,fun b o e=>?_,F2,sFH.upd fa2,fa2,?_⟩
   ·have nb:b≠a:=fun z=>by rw[z,na]at e;cases e
    rw[z0i nb];exact s2 _ _ (st _ _ (s1 _ _ e))
   ·rw[List.take_add_one,hr2,List.map_append];exact(Reps.mono sF2 _ _ r1).app (Reps.one rv)
  ·obtain⟨us,F,x5,x6,x7,rfl,s1,h1,sF,fa,r1⟩:=h
   rw[List.length_map,List.take_length]at r1
   walk_at "rd"
   exact q a us F H' ha s1 h1 sF fa r1
end
open PySem L2 VL Pap
theorem y3k (x:V)(xs:List V):cutV (x::xs) (some 1) none=xs:=by
 unfold cutV
 rw[HT.sIx_none,show(1:Int)=((1:Nat):Int) from rfl,HT.sIx_nat,Nat.min_eq_left (by simp),List.drop_succ_cons,List.drop_zero,List.take_of_length_le (by simp)]
theorem y1v (root:Str):Txt.partition ("form "++root) " " = (("form":Str),(" ":Str),root):=by
 have e:("form ":Str)++root = "form"++" "++root:=by
  rw[show("form ":Str) = "form"++" " by decide]
 rw[e]
 exact part_nm (c:=32) (m:=[]) (by decide) (by decide) (by decide)
structure RowsOk (root:Str)(rules:List (Str×Pat)):Prop where
 rn:isNm (csS root)=true
 rl:root.length≤30
 len:rules.length≤20
 ok:∀r∈rules,RuleW r
section
variable {P:Program}{w:World}{K:PySem.W.Frag}{mg:Str→Option Value}{base:Heap}{f:Addr}{fd:FuncData}{aM aK:Addr}{CF CT CN CS Ct Cp Ck:Addr}
def FormAt (root:Str)(rules:List (Str×Pat))(H H':Hp)(t:Addr):Prop:=∃a us F',H a=none∧H' t=some (.tup [.str root,.ref a])∧H' a=some (.lst us)∧Same F' H'∧F' a=none∧Reps F' (rules.map z1s) us
theorem FormAt.rep {root:Str}{rules:List (Str×Pat)}{H H':Hp}{t:Addr}(h:FormAt root rules H H' t):Rep H' (z3g root rules) (.ref t):=by
 obtain⟨a,us,F',_,h1,h2,h3,_,h5⟩:=h
 rw[z3n]
 exact⟨t,_,rfl,h1,_,_,rfl,rfl,_,_,rfl,⟨a,us,rfl,h2,Reps.mono h3 _ _ h5⟩,rfl⟩
def u8k:Sp:=fun vs H Q _=>∃(root:Str) (rules:List (Str×Pat)) (l:Addr),vs=[.ref l]∧H l=some (.lst ((z3i root rules).map .str))∧RowsOk root rules∧FormG root rules∧∀t H',Same H H'→FormAt root rules H H' t→Q (.ref t) H'
def x1q (CT CN CS:Addr):Sp:=fun vs H Q E=>∃(root:Str) (rules:List (Str×Pat)) (l:Addr),vs=[.ref l]∧H l=some (.lst ((z3i root rules).map .str))∧RowsOk root rules∧FormX rules∧(z2i root rules=none→∀t H',Same H H'→FormAt root rules H H' t→Q (.ref t) H')∧∀c nm,z2i root rules=some (c,nm)→XWish (c.cls CT CN CS) nm H E
theorem p0x {f1 f2 f3 f4 f5:Addr}{fd1 fd2 fd3 fd4 fd5:FuncData}(u0x:Ent K mg "read_form" u2m ["rows"] f fd)(T:Zs K mg)(u0o:Ent K mg "read_rules" u1v ["lines","middle","reader","first"] f1 fd1)(u0l:Ent K mg "read_pattern" u1b ["line"] f2 fd2)(u2z:FnOk P w K mg base CX0 65 f1 fd1 ["lines","middle","reader","first"] (y9c f2))(u0i:Ent K mg "is_name" u2g ["text"] f3 fd3)(u0e:Ent K mg "is_letter" u0w ["sign"] f4 fd4)(u3m:Ent K mg "look" u4p ["form"] f5 fd5)(u5g:FnOk P w K mg base CX0 35 f5 fd5 ["form"] (spD y9g)):FnOk P w K mg base CX0 66 f fd ["rows"] u8k:=by
 have u3v:FnOk P w K mg base CX0 2 f3 fd3 _ (spD u6s):=y9a u0i T u0e
 refine u0x.F.ok u2i (fun vs H Q E h=>?_) (fun cdv A outer s H vs Q E hr h=>?_)
 ·obtain⟨_,_,_,rfl,_⟩:=h;rfl
 ·obtain⟨root,rules,l,rfl,hl,ok,g,q⟩:=h
  have hu:=z5b hr
  have sz:=z0x
  refine⟨_,(z0k (z2g (i:=1) u2i.nd rfl (Or.inl rfl) (z5x (z6w (pv 0) (fun _=>rfl)) (pe_bm PySem.F.plainAttrs_str PySem.F.slot_str_partition PySem.F.type_str_partition y3e (z2w z2c (pv 0) z1h (fun _ _=>rfl)) (z0d z1t z0j)) (z5n (z0d z1t (z0d z1t (z0d z1t z0j))))))
   (z0k (z3u (PW.pt (y6n (z1y y1j (z2w z1g (pv 1) z1h (fun _ _=>rfl)) z1t (z0u _)) (y1u (z8a (z4u (z1e u3v (hr.mono (by decide)) rfl u0i.g u0i.F.kp u0i.b .nil z0z (z0d (z2w z1g (pv 1) z1h (fun _ _=>rfl)) z0j))))))) (z0q z8b) z1w)
   (z0k (z2g (i:=2) u2i.nd rfl (Or.inl rfl) (z5n (z0d (z2w z1g (pv 1) z1h (fun _ _=>rfl)) (z0d (z1e u2z (hr.mono (by decide)) rfl u0o.g u0o.F.kp u0o.b .nil z0z (z0d (z6q y8y (pv 0) (y0m z1h) y3x) (z0d z1t (z0d (z8s (v:=.ref _) rfl u0l.g rfl) (z0d z1h z0j))))) z0j))))
   (z0k (z2t (z1e u5g (hr.mono (by decide)) rfl u3m.g u3m.F.kp u3m.b .nil z0z (z0d (pv 2) z0j)))
   (z0q (z3t (pv 2))))))),?_⟩
  have hrl:=ok.rl
  have hln:=ok.len
  have lf:("form ":Str).length=5:=by decide
  have hl0:H l=some (.lst (.str ("form "++root)::rules.map fun r=>.str (rowW r))):=by rw[hl];simp[z3i]
  walk_at "rs"
  refine⟨true,.inl ⟨_,SqL.of hl0,by simp⟩,?_⟩
  rw[if_pos rfl]
  refine⟨_,hl0,.str ("form "++root),atI0,by trivial,_,rfl,by decide,by rw[Str.length_append];omega,fun p hp=>?_⟩
  rw[y1v]
  have hp1:upd H p (.tup [.str "form",.str " ",.str root]) p=some (.tup [.str "form",.str " ",.str root]):=z0g
  have s1:Same H (upd H p (.tup [.str "form",.str " ",.str root])):=Same.of_new hp
  generalize upd H p (.tup [.str "form",.str " ",.str root])=H1 at hp1 s1
  unfold tIfS
  walk_at "rs"
  refine⟨_,hp1,_,rfl,by trivial,false,by simp,?_⟩
  rw[if_neg (by simp)]
  refine⟨_,hp1,_,rfl,?_⟩
  refine z2a (ds:=[.str root]) (Qd:=fun _ d _=>d=.bl true) ⟨_,[],rfl,rfl,rfl⟩ ⟨root,rfl,by omega,by rw[ok.rn]⟩ fun b d δ' v H2 s2 ed r2=>?_
  subst ed
  cases(show v=.bl true from r2)
  refine⟨true,rfl,?_⟩
  rw[if_neg (by simp)]
  refine⟨_,s2 _ _ hp1,_,rfl,_,(s1.trans s2) _ _ hl0,fun l2 hl2=>?_⟩
  rw[y3k]
  have h12:=s1.trans s2
  refine⟨rules,l2,rfl,z0g,hln,ok.ok,fun a us F' H3 na s3 ha sF fa ru=>⟨by omega,fun t ht=>?_⟩⟩
  have s4:Same H H3:=h12.trans ((Same.of_new hl2).trans s3)
  have nl2:H a=none:=h12.free (by have:=na;rw[z4w]at this;exact this.2)
  have fat:FormAt root rules H (upd H3 t (.tup [.str root,.ref a])) t:=⟨a,us,F',nl2,z0g,by rw[z0i (z0n ha ht)];exact ha,sF.upd (sF.free ht),fa,ru⟩
  have s5:Same H (upd H3 t (.tup [.str root,.ref a])):=s4.upd (s4.free ht)
  generalize upd H3 t (.tup [.str root,.ref a])=H4 at fat s5
  refine z2a (ds:=[z3g root rules]) (Qd:=fun _ _ _=>True) (Reps.one fat.rep) ⟨root,rules,rfl,g,trivial⟩ fun b d δ' v H5 s6 _ _=>?_
  obtain⟨a',us',F2,x1,x2,x3,x4,x5,x6⟩:=fat
  exact q t H5 (s5.trans s6) ⟨a',us',F2,x1,s6 _ _ x2,s6 _ _ x3,x4.trans s6,x5,x6⟩
theorem p0y {f1 f2 f3 f4 f5:Addr}{fd1 fd2 fd3 fd4 fd5:FuncData}(u0x:Ent K mg "read_form" u2m ["rows"] f fd)(T:Zs K mg)(u0o:Ent K mg "read_rules" u1v ["lines","middle","reader","first"] f1 fd1)(u0l:Ent K mg "read_pattern" u1b ["line"] f2 fd2)(u2z:FnOk P w K mg base CX0 65 f1 fd1 ["lines","middle","reader","first"] (y9c f2))(u0i:Ent K mg "is_name" u2g ["text"] f3 fd3)(u0e:Ent K mg "is_letter" u0w ["sign"] f4 fd4)(u3m:Ent K mg "look" u4p ["form"] f5 fd5)(u5g:FnOk P w K mg base CX0 35 f5 fd5 ["form"] (spD y9g))(u5v:FnOk P w K mg base (CX1 P w) 35 f5 fd5 ["form"] (x2x CT CN CS)):FnOk P w K mg base (CX1 P w) 66 f fd ["rows"] (x1q CT CN CS):=by
 have u3v:FnOk P w K mg base CX0 2 f3 fd3 _ (spD u6s):=y9a u0i T u0e
 refine u0x.F.okX u2i (fun vs H Q E h=>?_) (fun cdv A outer s H vs Q E hr h=>?_)
 ·obtain⟨_,_,_,rfl,_⟩:=h;rfl
 ·obtain⟨root,rules,l,rfl,hl,ok,fx,qq,q2⟩:=h
  cases hd:z2i root rules with
  |none =>
   have g:=fx.g hd
   have q:=qq hd
   have hu:=z5b hr
   have sz:=z0x
   refine⟨_,(z0k (z2g (i:=1) u2i.nd rfl (Or.inl rfl) (z5x (z6w (pv 0) (fun _=>rfl)) (pe_bm PySem.F.plainAttrs_str PySem.F.slot_str_partition PySem.F.type_str_partition y3e (z2w z2c (pv 0) z1h (fun _ _=>rfl)) (z0d z1t z0j)) (z5n (z0d z1t (z0d z1t (z0d z1t z0j))))))
   (z0k (z3u (PW.pt (y6n (z1y y1j (z2w z1g (pv 1) z1h (fun _ _=>rfl)) z1t (z0u _)) (y1u (z8a (z4u (z1e u3v (hr.mono (by omega)) rfl u0i.g u0i.F.kp u0i.b .nil z0z (z0d (z2w z1g (pv 1) z1h (fun _ _=>rfl)) z0j))))))) (z0q z8b) z1w)
   (z0k (z2g (i:=2) u2i.nd rfl (Or.inl rfl) (z5n (z0d (z2w z1g (pv 1) z1h (fun _ _=>rfl)) (z0d (z1e u2z (hr.mono (by omega)) rfl u0o.g u0o.F.kp u0o.b .nil z0z (z0d (z6q y8y (pv 0) (y0m z1h) y3x) (z0d z1t (z0d (z8s (v:=.ref _) rfl u0l.g rfl) (z0d z1h z0j))))) z0j))))
   (z0k (z2t (z1e u5g (hr.mono (by omega)) rfl u3m.g u3m.F.kp u3m.b .nil z0z (z0d (pv 2) z0j)))
   (z0q (z3t (pv 2))))))),?_⟩
   have hrl:=ok.rl
   have hln:=ok.len
   have lf:("form ":Str).length=5:=by decide
   have hl0:H l=some (.lst (.str ("form "++root)::rules.map fun r=>.str (rowW r))):=by rw[hl];simp[z3i]
   walk_at "rs"
   refine⟨true,.inl ⟨_,SqL.of hl0,by simp⟩,?_⟩
   rw[if_pos rfl]
   refine⟨_,hl0,.str ("form "++root),atI0,by trivial,_,rfl,by decide,by rw[Str.length_append];omega,fun p hp=>?_⟩
   rw[y1v]
   have hp1:upd H p (.tup [.str "form",.str " ",.str root]) p=some (.tup [.str "form",.str " ",.str root]):=z0g
   have s1:Same H (upd H p (.tup [.str "form",.str " ",.str root])):=Same.of_new hp
   generalize upd H p (.tup [.str "form",.str " ",.str root])=H1 at hp1 s1
   unfold tIfS
   walk_at "rs"
   refine⟨_,hp1,_,rfl,by trivial,false,by simp,?_⟩
   rw[if_neg (by simp)]
   refine⟨_,hp1,_,rfl,?_⟩
   refine z2a (ds:=[.str root]) (Qd:=fun _ d _=>d=.bl true) ⟨_,[],rfl,rfl,rfl⟩ ⟨root,rfl,by omega,by rw[ok.rn]⟩ fun b d δ' v H2 s2 ed r2=>?_
   subst ed
   cases(show v=.bl true from r2)
   refine⟨true,rfl,?_⟩
   rw[if_neg (by simp)]
   refine⟨_,s2 _ _ hp1,_,rfl,_,(s1.trans s2) _ _ hl0,fun l2 hl2=>?_⟩
   rw[y3k]
   have h12:=s1.trans s2
   refine⟨rules,l2,rfl,z0g,hln,ok.ok,fun a us F' H3 na s3 ha sF fa ru=>⟨by omega,fun t ht=>?_⟩⟩
   have s4:Same H H3:=h12.trans ((Same.of_new hl2).trans s3)
   have nl2:H a=none:=h12.free (by have:=na;rw[z4w]at this;exact this.2)
   have fat:FormAt root rules H (upd H3 t (.tup [.str root,.ref a])) t:=⟨a,us,F',nl2,z0g,by rw[z0i (z0n ha ht)];exact ha,sF.upd (sF.free ht),fa,ru⟩
   have s5:Same H (upd H3 t (.tup [.str root,.ref a])):=s4.upd (s4.free ht)
   generalize upd H3 t (.tup [.str root,.ref a])=H4 at fat s5
   refine z2a (ds:=[z3g root rules]) (Qd:=fun _ _ _=>True) (Reps.one fat.rep) ⟨root,rules,rfl,g,trivial⟩ fun b d δ' v H5 s6 _ _=>?_
   obtain⟨a',us',F2,x1,x2,x3,x4,x5,x6⟩:=fat
   exact q t H5 (s5.trans s6) ⟨a',us',F2,x1,s6 _ _ x2,s6 _ _ x3,x4.trans s6,x5,x6⟩
  |some o =>
   obtain⟨c,nm⟩:=o
   have wx:=q2 c nm hd
   have hu:=z5b hr
   have sz:=z0x
   refine⟨_,(z0k (z2g (i:=1) u2i.nd rfl (Or.inl rfl) (z5x (z6w (pv 0) (fun _=>rfl)) (pe_bm PySem.F.plainAttrs_str PySem.F.slot_str_partition PySem.F.type_str_partition y3e (z2w z2c (pv 0) z1h (fun _ _=>rfl)) (z0d z1t z0j)) (z5n (z0d z1t (z0d z1t (z0d z1t z0j))))))
   (z0k (z3u (PW.pt (y6n (z1y y1j (z2w z1g (pv 1) z1h (fun _ _=>rfl)) z1t (z0u _)) (y1u (z8a (z4u (z1e u3v (hr.mono (by omega)) rfl u0i.g u0i.F.kp u0i.b .nil z0z (z0d (z2w z1g (pv 1) z1h (fun _ _=>rfl)) z0j))))))) (z0q z8b) z1w)
   (z0k (z2g (i:=2) u2i.nd rfl (Or.inl rfl) (z5n (z0d (z2w z1g (pv 1) z1h (fun _ _=>rfl)) (z0d (z1e u2z (hr.mono (by omega)) rfl u0o.g u0o.F.kp u0o.b .nil z0z (z0d (z6q y8y (pv 0) (y0m z1h) y3x) (z0d z1t (z0d (z8s (v:=.ref _) rfl u0l.g rfl) (z0d z1h z0j))))) z0j))))
   (z0k (z2t (z1e u5v (hr.mono (by omega)) rfl u3m.g u3m.F.kp u3m.b .nil pass1 (z0d (pv 2) z0j)))
   y4o)))),?_⟩
   have hrl:=ok.rl
   have hln:=ok.len
   have lf:("form ":Str).length=5:=by decide
   have hl0:H l=some (.lst (.str ("form "++root)::rules.map fun r=>.str (rowW r))):=by rw[hl];simp[z3i]
   walk_at "rs"
   refine⟨true,.inl ⟨_,SqL.of hl0,by simp⟩,?_⟩
   rw[if_pos rfl]
   refine⟨_,hl0,.str ("form "++root),atI0,by trivial,_,rfl,by decide,by rw[Str.length_append];omega,fun p hp=>?_⟩
   rw[y1v]
   have hp1:upd H p (.tup [.str "form",.str " ",.str root]) p=some (.tup [.str "form",.str " ",.str root]):=z0g
   have s1:Same H (upd H p (.tup [.str "form",.str " ",.str root])):=Same.of_new hp
   generalize upd H p (.tup [.str "form",.str " ",.str root])=H1 at hp1 s1
   unfold tIfS
   walk_at "rs"
   refine⟨_,hp1,_,rfl,by trivial,false,by simp,?_⟩
   rw[if_neg (by simp)]
   refine⟨_,hp1,_,rfl,?_⟩
   refine z2a (ds:=[.str root]) (Qd:=fun _ d _=>d=.bl true) ⟨_,[],rfl,rfl,rfl⟩ ⟨root,rfl,by omega,by rw[ok.rn]⟩ fun b d δ' v H2 s2 ed r2=>?_
   subst ed
   cases(show v=.bl true from r2)
   refine⟨true,rfl,?_⟩
   rw[if_neg (by simp)]
   refine⟨_,s2 _ _ hp1,_,rfl,_,(s1.trans s2) _ _ hl0,fun l2 hl2=>?_⟩
   rw[y3k]
   have h12:=s1.trans s2
   refine⟨rules,l2,rfl,z0g,hln,ok.ok,fun a us F' H3 na s3 ha sF fa ru=>⟨by omega,fun t ht=>?_⟩⟩
   have s4:Same H H3:=h12.trans ((Same.of_new hl2).trans s3)
   have nl2:H a=none:=h12.free (by have:=na;rw[z4w]at this;exact this.2)
   have fat:FormAt root rules H (upd H3 t (.tup [.str root,.ref a])) t:=⟨a,us,F',nl2,z0g,by rw[z0i (z0n ha ht)];exact ha,sF.upd (sF.free ht),fa,ru⟩
   have s5:Same H (upd H3 t (.tup [.str root,.ref a])):=s4.upd (s4.free ht)
   generalize upd H3 t (.tup [.str root,.ref a])=H4 at fat s5
   exact⟨root,rules,.ref t,c,nm,rfl,fat.rep,fx,hd,wx.mono s5⟩
end
open PySem L2 VL Pap
mutual
theorem x0u:∀(p:Pat),okP p=true→(∀s∈z0o p,okT (.one s)=true)→okT p=true
 |.none,_,_=>rfl
 |.one s,_,h=>h s (by simp[z0o])
 |.row ps,h,hs=>by
  simp only[okP,Bool.and_eq_true]at h
  simp only[okT,Bool.and_eq_true]
  exact⟨h.1,y6s ps h.2 fun s z=>hs s (by rw[z0o];exact z)⟩
 |.any ps,h,hs=>by
  simp only[okP,Bool.and_eq_true]at h
  simp only[okT,Bool.and_eq_true]
  exact⟨h.1,y6s ps h.2 fun s z=>hs s (by rw[z0o];exact z)⟩
 |.wrap k p,h,hs=>by
  simp only[okP]at h
  simp only[okT]
  exact x0u p h fun s z=>hs s (by rw[z0o];exact z)
theorem y6s:∀(ps:List Pat),okPs ps=true→(∀s∈z0w ps,okT (.one s)=true)→okTs ps=true
 | [],_,_=>rfl
 |p::ps,h,hs=>by
  simp only[okPs,Bool.and_eq_true]at h
  simp only[okTs,Bool.and_eq_true]
  exact⟨x0u p h.1 fun s z=>hs s (by rw[z0w];exact List.mem_append_left _ z),y6s ps h.2 fun s z=>hs s (by rw[z0w];exact List.mem_append_right _ z)⟩
end
mutual
theorem x1i:∀(p:Pat),okT p=true→∀s∈z0o p,okT (.one s)=true
 |.none,_,s,h=>by simp[z0o]at h
 |.one s,h,s',z=>by simp[z0o]at z;rw[z];exact h
 |.row ps,h,s,z=>by
  simp only[okT,Bool.and_eq_true]at h
  exact y7j ps h.2 s (by rw[z0o]at z;exact z)
 |.any ps,h,s,z=>by
  simp only[okT,Bool.and_eq_true]at h
  exact y7j ps h.2 s (by rw[z0o]at z;exact z)
 |.wrap k p,h,s,z=>by
  simp only[okT]at h
  exact x1i p h s (by rw[z0o]at z;exact z)
theorem y7j:∀(ps:List Pat),okTs ps=true→∀s∈z0w ps,okT (.one s)=true
 | [],_,s,h=>by simp[z0w]at h
 |p::ps,h,s,z=>by
  simp only[okTs,Bool.and_eq_true]at h
  rw[z0w]at z
  rcases List.mem_append.mp z with z|z
  ·exact x1i p h.1 s z
  ·exact y7j ps h.2 s z
end
theorem y3n {s:Cs}(h0:s≠[])(h:∀c∈s,97≤c∧c≤122):isNm s=true:=by
 unfold isNm
 rw[Bool.and_eq_true,decide_eq_true_eq,List.all_eq_true]
 exact⟨h0,fun c hc=>by obtain⟨a,b⟩:=h c hc;simp[isL,a,b]⟩
theorem y5f {s:Cs}(h:isNm s=true):s≠[]∧∀c∈s,97≤c∧c≤122:=by
 unfold isNm at h
 rw[Bool.and_eq_true,decide_eq_true_eq,List.all_eq_true]at h
 exact⟨h.1,fun c hc=>by have:=h.2 c hc;simp[isL]at this;exact this⟩
theorem y8u {s z:Str}{l u:Option Int}(h:isNm (csS s)=true)(hz:isNm (csS z)=true):isNm (csS (Txt.slice s l u++z))=true:=by
 obtain⟨_,h2⟩:=y5f h
 obtain⟨z1,z2⟩:=y5f hz
 rw[y3h]
 refine y3n (by intro e;exact z1 (List.append_eq_nil_iff.mp e).2) fun c hc=>?_
 rcases List.mem_append.mp hc with hc|hc
 ·exact h2 c (z8g hc)
 ·exact z2 c hc
theorem app_nm {s z:Str}(h:isNm (csS s)=true)(hz:isNm (csS z)=true):isNm (csS (s++z))=true:=by
 obtain⟨_,h2⟩:=y5f h
 obtain⟨z1,z2⟩:=y5f hz
 rw[y3h]
 refine y3n (by intro e;exact z1 (List.append_eq_nil_iff.mp e).2) fun c hc=>?_
 rcases List.mem_append.mp hc with hc|hc
 ·exact h2 c hc
 ·exact z2 c hc
theorem ind12 (n:Nat):Builtin.Str.strSliceIndices none (some 12) 1 n=Builtin.Str.strSliceIndices (some ((0:Nat):Int)) (some ((min 12 n:Nat):Int)) 1 n:=by
 have e1:max (0:Int) (min 0 (n:Int))=0:=by omega
 have e2:max (0:Int) (min 12 (n:Int))=max 0 (min ((min 12 n:Nat):Int) (n:Int)):=by omega
 have e3:¬(((min 12 n:Nat):Int)<0):=by omega
 unfold Builtin.Str.strSliceIndices
 simp only[gt_iff_lt,Int.zero_lt_one,if_true,Int.natCast_zero,Int.lt_irrefl,if_false,e1,if_neg e3,e2,show ¬((12:Int)<0) by decide]
theorem slice12 {s:Str}(h:isNm (csS s)=true):isNm (csS (Txt.slice s none (some 12)))=true:=by
 obtain⟨h1,h2⟩:=y5f h
 refine y3n (fun e=>h1 ?_) fun c hc=>h2 c (z8g hc)
 have e0:Txt.slice s none (some 12)=Txt.slice s (some ((0:Nat):Int)) (some ((min 12 s.length:Nat):Int)):=by
  unfold Txt.slice
  rw[ind12]
 have ls:=z7a s
 rw[e0,←z6d s,x2c (Nat.zero_le _) (by rw[z1a];omega),y2d,z1a,List.drop_zero]at e
 cases hs:csS s with
 |nil=>rfl
 |cons a b =>
  have:=congrArg List.length e
  rw[hs]at this
  simp at this
structure FormB (k:Nat)(root:Str)(rules:List (Str×Pat)):Prop where
 rl:root.length≤26+k
 rn:isNm (csS root)=true
 pos:1≤rules.length
 len:rules.length≤8+k
 ok:∀r∈rules,r.1.length≤26+k∧szP r.2≤50+3 * k∧dpP r.2≤20+2 * k∧isNm (csS r.1)=true∧okT r.2=true∧NlP r.2
theorem FormB.up {k:Nat}{root:Str}{rules:List (Str×Pat)}(h:FormB k root rules):FormB (k+1) root rules:=⟨Nat.le_trans h.rl (by omega),h.rn,h.pos,Nat.le_trans h.len (by omega),fun r hr=>by obtain⟨a,b,c,d⟩:=h.ok r hr;exact⟨by omega,by omega,by omega,d⟩⟩
theorem FormB.x {k:Nat}{root:Str}{rules:List (Str×Pat)}(h:FormB k root rules)(hk:k≤4):FormX rules:=⟨by have:=h.len;omega,fun r hr=>by obtain⟨a,b,c,d⟩:=h.ok r hr;exact⟨by omega,by omega⟩⟩
theorem FormB.w {k:Nat}{root:Str}{rules:List (Str×Pat)}(h:FormB k root rules)(hk:k≤4):FormW root rules:=⟨by have:=h.len;omega,by have:=h.rl;omega,fun r hr=>by obtain⟨a,b,c,d⟩:=h.ok r hr;omega,fun r hr=>by obtain⟨a,b,c,d,e,f⟩:=h.ok r hr;exact⟨by omega,by omega,f⟩⟩
theorem FormB.r {k:Nat}{root:Str}{rules:List (Str×Pat)}(h:FormB k root rules)(hk:k≤4):∀r∈rules,RuleW r:=fun r hr=>by
 obtain⟨a,b,c,d,e,f⟩:=h.ok r hr
 exact⟨d,by omega,by omega,by omega,f,e⟩
theorem FormOk.b {root:Str}{rules:List (Str×Pat)}(h:FormOk root rules):FormB 0 root rules:=by
 have hr:=h.root
 have nm:∀s∈rules.map (·.1),s.length≤20∧isNm (csS s)=true:=fun s hs=>by
  obtain⟨a,b,c⟩:=h.nl s hs
  exact⟨a,y3n b c⟩
 have sg:∀r∈rules,∀s∈z0o r.2,s.length≤20∧okT (.one s)=true:=fun r hr s hs=>by
  rcases(h.pat r hr).sg s hs with rfl|hz
  ·exact⟨by decide,by decide⟩
  ·obtain⟨a,b⟩:=nm s hz
   exact⟨a,by simp[okT,b]⟩
 refine⟨Nat.le_trans (nm _ hr).1 (by omega),(nm _ hr).2,?_,h.len,fun r hr=>?_⟩
 ·cases rules with
  |nil=>cases hr
  |cons a b=>simp
 ·have n1:=nm r.1 (List.mem_map.mpr ⟨r,hr,rfl⟩)
  exact⟨Nat.le_trans n1.1 (by omega),(h.pat r hr).sz,(h.pat r hr).dp,n1.2,x0u _ (h.pat r hr).ok fun s hs=>(sg r hr s hs).2,fun s hs=>Nat.le_trans (sg r hr s hs).1 (by omega)⟩
section
variable {P:Program}{w:World}{K:PySem.W.Frag}{mg:Str→Option Value}{base:Heap}{f:Addr}{fd:FuncData}{CF CT CN CS Ct Cp Ck:Addr}
def u8l (k:Nat):RD:=fun δ Q=>∃(root:Str) (rules:List (Str×Pat)) (x:Int),δ=[.fz (z3g root rules),.fz (.int x)]∧FormB k root rules∧k≤4∧∀root' rules',FormB (k+1) root' rules'→Q false (z3g root' rules') [.no,.no]
theorem u9r (k:Nat){f1:Addr}{fd1:FuncData}(u3l:Ent K mg "_law_bent" u3d ["_law_form_here","_law_number"] f fd)(T:Zs K mg)(u0c:Ent K mg "_law_signs_of" u1d ["_law_pattern_here"] f1 fd1):FnOk P w K mg base CX0 33 f fd ["_law_form_here","_law_number"] (spD (u8l k)):=by
 have u1t:FnOk P w K mg base CX0 32 f1 fd1 _ (spD (R_so 31)):=p0r u0c T 31
 refine VL.Fun.dok u3l.F u1m (fun δ Qd h=>?_) (by decide) (fun cdv A outer s H E δ Qd hr h=>?_)
 ·obtain⟨_,_,_,rfl,_⟩:=h;rfl
 ·obtain⟨root,rules,x,rfl,fb,hk,q⟩:=h
  have hu:=z5b hr
  refine⟨_,(z0c (ds_asg (dv 0) (y2p (n:=2) rfl (z3f (z2f (i:=2) u1m.nd rfl (Or.inl rfl)) (z3f (z2f (i:=3) u1m.nd rfl (Or.inl rfl)) z8l))))
   (z0c (z1b (i:=4) u1m.nd rfl (Or.inl rfl) (z0m z1l z1k (z0m z2d z1r (dv 1) z0f) (z1q z3x z1d rfl T.z_len PySem.boot_len (pv 3))))
   (z0c (z1b (i:=5) u1m.nd rfl (Or.inl rfl) (z0m z1l z1k (z0m z2d z1r (dv 1) z0f) (z0m z2r z2q (z1q z3x z1d rfl T.z_len PySem.boot_len (pv 3)) z0f)))
   (z0c (ds_asg (z0t z4k z2c (pv 3) (dv 4) (fun _ _=>rfl)) (y2p (n:=2) rfl (z3f (z2f (i:=6) u1m.nd rfl (Or.inl rfl)) (z3f (z2f (i:=7) u1m.nd rfl (Or.inl rfl)) z8l))))
   (z0c (z1b (i:=8) u1m.nd rfl (Or.inl rfl) (z0y u1t (hr.mono (by decide)) rfl u0c.g u0c.F.kp u0c.b z0z (z0a (dv 7) z0e)))
   (z0c (z1x (z1f z4q z3c (z0m z1l z1k (dv 1) z0f) z0f (z0u _)) (z0h (z0r (z1o (z0a (dv 2) (z0a (z0m z4r z2y (z0m z4r z2y (z1m (pv 3) z2e (z1u (dv 5))) (z1i (z0a (z1o (z0a (dv 6) (z0a (x3m z4k z2c (z1i (z0a (dv 7) (z0a (z1o (z0a z0l z0e)) z0e))) (z0m z1l z1k (z0m z2d z1r (dv 1) z0f) z0f) (fun _ _=>rfl)) z0e))) z0e))) (z1m (pv 3) (z1u (dv 5)) z2e)) z0e))))) z0v)
   (z0c (z1x (dt_w (y2r (z1f z4q z3c (z0m z1l z1k (dv 1) z0f) z0f (z0u _)) (y0v (y7b (os_neL hu) y2x (pv 8) (z1i z0e) (z0u _))))) (z0c (z1b (i:=9) u1m.nd rfl (Or.inl rfl) (z1o (z0a z0l (z0a (z0t z4k z2c (pv 8) (z0m z1l z1k (z0m z2d z1r (dv 1) z0f) (z1q z3x z1d rfl T.z_len PySem.boot_len (pv 8))) (fun _ _=>rfl)) z0e))))
   (z0c (z1b (i:=10) u1m.nd rfl (Or.inl rfl) (z1i (z0a (z1o (z0a z0l (z0a (z1i (z0a (dv 7) (z0a (dv 9) z0e))) z0e))) (z0a (z1o (z0a z0l (z0a (z1i (z0a (dv 9) (z0a (dv 7) z0e))) z0e))) (z0a (z1o (z0a z0l (z0a (z1i (z0a (dv 9) (z0a (z1o (z0a z0l (z0a (dv 7) z0e))) z0e))) z0e))) z0e)))))
   (z0h (z0r (z1o (z0a (dv 2) (z0a (z0m z4r z2y (z0m z4r z2y (z1m (pv 3) z2e (z1u (dv 4))) (z1i (z0a (z1o (z0a (dv 6) (z0a (z0t z4k z2c (pv 10) (z0m z1l z1k (z0m z2d z1r (dv 1) z0f) z0f) (fun _ _=>rfl)) z0e))) z0e))) (z1m (pv 3) (z1u (z0m z2r z2q (dv 4) z0f)) z2e)) z0e))))))) z0v)
   (z0c (z1x (z1f z4q z3c (z0m z1l z1k (dv 1) z0f) z0f (z0u _)) (z0h (z0r (z1o (z0a (z5q (x3m z4k z2c (z1i (z0a (z0m z2u z1n (dv 2) z0l) (z0a z0l (z0a (z0m z2u z1n (z5q (dv 2) (z1u z0f) z2e) z0l) z0e)))) (z0m z1l z1k (z0m z2d z1r (dv 1) z0f) z0f) (fun _ _=>rfl)) z2e (z1u z0f)) (z0a (dv 3) z0e))))) z0v)
   (z0c (z1x (dt_w (y2r (z1f z4q z3c (z0m z1l z1k (dv 1) z0f) z0f (z0u _)) (y0v (z1f os_gt op_gt (z1q z3x z1d rfl T.z_len PySem.boot_len (pv 3)) z0f (z0u _))))) (z0h (z0r (z1o (z0a (dv 2) (z0a (z0m z4r z2y (z1m (pv 3) z2e (z1u (dv 4))) (z1m (pv 3) (z1u (z0m z2r z2q (dv 4) z0f)) z2e)) z0e))))) z0v)
   (z0c (z1x (z1f z4q z3c (z0m z1l z1k (dv 1) z0f) z0f (z0u _)) (z0c (z1b (i:=11) u1m.nd rfl (Or.inl rfl) (z1o (z0a z0l (z0a z0l z0e))))
   (z0h (z0r (z1o (z0a (dv 2) (z0a (z0m z4r z2y (z0m z4r z2y (z1m (pv 3) z2e (z1u (dv 4))) (z1i (z0a (z1o (z0a (dv 6) (z0a (z1o (z0a z0l (z0a (z1i (z0a (dv 11) (z0a (dv 7) z0e))) z0e))) z0e))) z0e))) (z1m (pv 3) (z1u (z0m z2r z2q (dv 4) z0f)) z2e)) z0e)))))) z0v)
   (z0c (z1x (z1f z4q z3c (z0m z1l z1k (dv 1) z0f) z0f (z0u _)) (z0h (z0r (z1o (z0a (dv 2) (z0a (z0m z4r z2y (z0m z4r z2y (z1m (pv 3) z2e (z1u (dv 4))) (z1i (z0a (z1o (z0a (z0m z2u z1n (z5q (dv 6) z2e (z1u z0f)) z0l) (z0a (dv 7) z0e))) z0e))) (z1m (pv 3) (z1u (z0m z2r z2q (dv 4) z0f)) z2e)) z0e))))) z0v)
   (z0h (z0r (dm 0)))))))))))))),?_⟩
  have sz:=z0x
  have hl:=fb.len
  have hpos:=fb.pos
  have hrl:=fb.rl
  have q0:=q _ _ fb.up
  simp only[z3n]at q q0 ⊢
  have hlm:(rules.map z1s).length=rules.length:=by simp
  walk_at "vd"
  obtain⟨d,hd1,e⟩:=z8y (xs:=rules.map z1s) (i:=x / 8 % ((rules.map z1s).length:Int)) (z2k (by omega)) (z2l (by omega))
  obtain⟨r,hr1,rfl⟩:=List.mem_map.mp hd1
  obtain⟨nm,pt⟩:=r
  obtain⟨o1,o2,o3,n1,t1,l1⟩:=fb.ok _ hr1
  have n1:isNm (csS nm)=true:=n1
  have t1:okT pt=true:=t1
  have l1:NlP pt:=l1
  have o1:nm.length≤26+k:=o1
  have o2:szP pt≤50+3 * k:=o2
  have o3:dpP pt≤20+2 * k:=o3
  refine⟨⟨by decide,by decide⟩,by omega,⟨by decide,by decide⟩,by omega,_,e,?_⟩
  simp only[z1s]
  walk_at "vd"
  refine⟨pt,rfl,by omega,by omega,fun b=>?_⟩
  have a0:=z2k (a:=x / 8) (b:=((rules.map z1s).length:Int)) (by omega)
  have a1:=z2l (a:=x / 8) (b:=((rules.map z1s).length:Int)) (by omega)
  have b0:=z2k (a:=x / 80) (b:=((rules.map z1s).length:Int)+1) (by omega)
  have b1:=z2l (a:=x / 80) (b:=((rules.map z1s).length:Int)+1) (by omega)
  generalize x / 8 % ((rules.map z1s).length:Int)=a at *
  generalize x / 80 % (((rules.map z1s).length:Int)+1)=c at *
  obtain⟨an,rfl⟩:=Int.eq_ofNat_of_zero_le a0
  obtain⟨cn,rfl⟩:=Int.eq_ofNat_of_zero_le b0
  refine(fun hh=>by cases b<;>walk_at "vd"<;>exact hh) ?_
  have put:∀(i j:Nat) (nm2:Str) (pt2:Pat),i≤j→i≤rules.length→nm2.length≤26+(k+1)→szP pt2≤50+3 * (k+1)→dpP pt2≤20+2 * (k+1)→isNm (csS nm2)=true→okT pt2=true→NlP pt2→((cutD (rules.map z1s) none (some (i:Int))).length+1≤sizeLine∧(cutD (rules.map z1s) none (some (i:Int))++[D.tup [D.str nm2,patD pt2]]).length+(cutD (rules.map z1s) (some (j:Int)) none).length≤sizeLine ∧
    Qd false (D.tup [D.str root,D.lst (cutD (rules.map z1s) none (some (i:Int))++[D.tup [D.str nm2,patD pt2]]++cutD (rules.map z1s) (some (j:Int)) none)]) [.no,.no]):=fun i j nm2 pt2 h1 h2 h3 h4 h5 h6 h7 h8=>by
   rw[z5l,z6o]
   have e1:(rules.map z1s).take i++[D.tup [D.str nm2,patD pt2]]++(rules.map z1s).drop j=(rules.take i++[(nm2,pt2)]++rules.drop j).map z1s:=by simp[z1s]
   refine⟨by simp;omega,by simp;omega,?_⟩
   rw[e1]
   refine q root _ ⟨by omega,fb.rn,by simp;omega,by simp;omega,fun r h=>?_⟩
   rcases List.mem_append.mp h with h|h
   ·rcases List.mem_append.mp h with h|h
    ·exact fb.up.ok r (List.mem_of_mem_take h)
    ·have e:r=(nm2,pt2):=by simpa using h
     subst e
     exact⟨h3,h4,h5,h6,h7,h8⟩
   ·exact fb.up.ok r (List.mem_of_mem_drop h)
  have ea1:((an:Int)+1)=((an+1:Nat):Int):=by simp
  rw[ea1]
  have hx0:=z2k (a:=x) (b:=8) (by decide)
  have hx8:=z2l (a:=x) (b:=8) (by decide)
  refine⟨by decide,ite2 (fun h1=>?_) fun h1=>⟨by decide,?_⟩⟩
  ·obtain⟨d,hd,e3⟩:=z8y (xs:=[patD pt,D.tup [D.str "none"]]) (i:=x / 800 % 2) (z2k (by omega)) (z2l (by decide))
   obtain⟨p2,rfl,h3,h4,h5,h6⟩:∃p2,d=patD p2∧szP p2≤50+3 * (k+1)∧dpP p2≤20+2 * (k+1)∧okT p2=true∧NlP p2:=by
    simp only[List.mem_cons,List.not_mem_nil,or_false]at hd
    rcases hd with rfl|rfl
    ·exact⟨pt,rfl,by omega,by omega,t1,l1⟩
    ·exact⟨.none,rfl,by simp[szP];omega,by simp[dpP],rfl,fun s hs=>by simp[z0o]at hs⟩
   obtain⟨g1,g2,g3⟩:=put cn cn nm p2 (Nat.le_refl _) (by omega) (by omega) h3 h4 n1 h5 h6
   exact⟨by omega,by omega,⟨by decide,by decide⟩,by decide,_,e3,by omega,by omega,g1,g2,by omega,g3⟩
  refine(fun hh=>ite2 (fun h2=>⟨by omega,ite2 (fun hs=>?l2) fun _=>hh⟩) fun _=>hh) ?_
  case l2 =>
   have hsl:0<(z0o pt).length:=by
    cases hsp:z0o pt with
    |nil=>rw[hsp]at hs;cases hs
    |cons a b=>simp
   have hsm:0<((z0o pt).map D.str).length:=by simpa using hsl
   obtain⟨d,hd,e3⟩:=z8y (xs:=(z0o pt).map D.str) (i:=x / 800 % (((z0o pt).map D.str).length:Int)) (z2k (by omega)) (z2l (by omega))
   obtain⟨sg,hsg,rfl⟩:=List.mem_map.mp hd
   have os:=x1i pt t1 sg hsg
   have ls:=l1 sg hsg
   obtain⟨d2,hd2,e4⟩:=z8y (xs:=[D.tup [D.str "row",D.lst [patD pt,D.tup [D.str "one",D.str sg]]],D.tup [D.str "any",D.lst [D.tup [D.str "one",D.str sg],patD pt]],D.tup [D.str "row",D.lst [D.tup [D.str "one",D.str sg],D.tup [D.str "many",patD pt]]]]) (i:=x / 8000 % 3) (z2k (by omega)) (z2l (by decide))
   obtain⟨p2,rfl,h3,h4,h5,h6⟩:∃p2,d2=patD p2∧szP p2≤50+3 * (k+1)∧dpP p2≤20+2 * (k+1)∧okT p2=true∧NlP p2:=by
    simp only[List.mem_cons,List.not_mem_nil,or_false]at hd2
    rcases hd2 with rfl|rfl|rfl
    ·exact⟨.row [pt,.one sg],rfl,by simp[szP,szPs];omega,by simp[dpP,dpPs];omega,by simp only[okT,okTs,t1]at os ⊢;simp[os],fun s hs=>by simp[z0o,z0w]at hs;rcases hs with hs|hs<;>first|exact l1 s hs|(rw[hs];exact ls)⟩
    ·exact⟨.any [.one sg,pt],rfl,by simp[szP,szPs];omega,by simp[dpP,dpPs];omega,by simp only[okT,okTs,t1]at os ⊢;simp[os],fun s hs=>by simp[z0o,z0w]at hs;rcases hs with hs|hs<;>first|exact l1 s hs|(rw[hs];exact ls)⟩
    ·exact⟨.row [.one sg,.wrap .many pt],rfl,by simp[szP,szPs];omega,by simp[dpP,dpPs];omega,by simp only[okT,okTs,t1]at os ⊢;simp[os],fun s hs=>by simp[z0o,z0w]at hs;rcases hs with hs|hs<;>first|exact l1 s hs|(rw[hs];exact ls)⟩
   obtain⟨g1,g2,g3⟩:=put an (an+1) nm p2 (Nat.le_succ _) (by omega) (by omega) h3 h4 n1 h5 h6
   exact⟨⟨by decide,by decide⟩,by omega,_,e3,by omega,by omega,by omega,by omega,by omega,by omega,by omega,by omega,by omega,⟨by decide,by decide⟩,by decide,_,e4,by omega,by omega,g1,g2,by omega,g3⟩
  refine⟨by decide,ite2 (fun h3=>?_) fun h3=>⟨by decide,?_⟩⟩
  ·have lq:(Str.ofString "q").length=1:=by decide +kernel
   have s1:=Txt.slice_le root (some 1) none
   obtain⟨d,hd,e3⟩:=z8y (xs:=[D.str (root++Str.ofString "q"),D.str (Str.ofString "zzzzzzzzzzzz"),D.str (Txt.slice root (some 1) none++Str.ofString "q")]) (i:=x / 800 % 3) (z2k (by omega)) (z2l (by decide))
   have nq:isNm (csS (Str.ofString "q"))=true:=by decide +kernel
   obtain⟨z,rfl,hz,nz⟩:∃z,d=D.str z∧z.length≤26+(k+1)∧isNm (csS z)=true:=by
    simp only[List.mem_cons,List.not_mem_nil,or_false]at hd
    rcases hd with rfl|rfl|rfl
    ·exact⟨_,rfl,by rw[Str.len_app,lq];omega,app_nm fb.rn nq⟩
    ·exact⟨_,rfl,Nat.le_trans (show _≤12 by decide +kernel) (by omega),by decide +kernel⟩
    ·exact⟨_,rfl,by rw[Str.len_app,lq];omega,y8u fb.rn nq⟩
   refine⟨by omega,by omega,by omega,by omega,⟨by decide,by decide⟩,by decide,_,e3,?_⟩
   walk_at "vd"
   have s2:=Txt.slice_le z none (some 12)
   exact⟨by omega,by omega,q _ _ ⟨by omega,slice12 nz,fb.pos,fb.up.len,fb.up.ok⟩⟩
  refine(fun hh=>ite2 (fun h4=>ite2 (fun hs=>?l4) fun _=>hh) fun _=>hh) ?_
  case l4 =>
   rw[z5l,z6o]
   refine⟨by simp;omega,by omega,?_⟩
   rw[show(rules.map z1s).take an++(rules.map z1s).drop (an+1)=(rules.take an++rules.drop (an+1)).map z1s by simp]
   refine q root _ ⟨by omega,fb.rn,by simp;omega,by simp;omega,fun r h=>?_⟩
   rcases List.mem_append.mp h with h|h
   ·exact fb.up.ok r (List.mem_of_mem_take h)
   ·exact fb.up.ok r (List.mem_of_mem_drop h)
  refine⟨by decide,ite2 (fun h5=>?_) fun h5=>⟨by decide,ite2 (fun h6=>?_) fun h6=>?_⟩⟩
  ·have oz0:okT (.one "zzzzzzzzzzzz")=true:=by decide +kernel
   have oz:okT (.any [.one "zzzzzzzzzzzz",pt])=true:=by
    simp only[okT,okTs,t1]at oz0 ⊢
    simp[oz0]
   have nz:NlP (.any [.one "zzzzzzzzzzzz",pt]):=fun s hs=>by
    simp[z0o,z0w]at hs
    rcases hs with hs|hs
    ·rw[hs];decide +kernel
    ·exact l1 s hs
   obtain⟨g1,g2,g3⟩:=put an (an+1) nm (.any [.one "zzzzzzzzzzzz",pt]) (Nat.le_succ _) (by omega) (by omega) (by simp[szP,szPs];omega) (by simp[dpP,dpPs];omega) n1 oz nz
   exact⟨by omega,by omega,by omega,by omega,by omega,g1,g2,by omega,g3⟩
  ·have s2:=Txt.slice_le nm none (some 11)
   have lz:(Str.ofString "z").length=1:=by decide +kernel
   obtain⟨g1,g2,g3⟩:=put an (an+1) (Txt.slice nm none (some 11)++Str.ofString "z") pt (Nat.le_succ _) (by omega) (by rw[Str.len_app,lz];omega) (by omega) (by omega) (y8u n1 (by decide +kernel)) t1 l1
   exact⟨by omega,by omega,by omega,by omega,g1,g2,by omega,g3⟩
  ·exact q0
end
open PySem L2 VL Pap
theorem ifS {c:TT}{t u:TS}{D:Ends}{σ:L2.St}{H:Hp}(h:c σ H fun b H1=>if b=true then t D σ H1 else u D σ H1):tIfS c t u D σ H:=h
theorem u4v:FnScope ["_law_rows_here","_law_caught","e"] ["_law_rows_here"] (z0b u2c):=⟨rfl,rfl,rfl,by decide +kernel,rfl,by decide +kernel,by decide +kernel⟩
section
variable {P:Program}{w:World}{K:PySem.W.Frag}{mg:Str→Option Value}{base:Heap}{f:Addr}{fd:FuncData}{aM aK:Addr}{CF CT CN CS Ct Cp Ck:Addr}
theorem XR.xc (Y:XR K mg CF CT CN CS Ct Cp Ck)(c:Kd):∃fI,xcIn K (c.cls CT CN CS) (.ref CF::mroV) fI=true:=by
 cases c with
 |tw=>obtain⟨fI,_,_,_,q,_⟩:=Y.i_Twice;exact⟨fI,q⟩
 |nn=>obtain⟨fI,_,_,_,q,_⟩:=Y.i_NoName;exact⟨fI,q⟩
 |st=>obtain⟨fI,_,_,_,q,_⟩:=Y.i_Stars;exact⟨fI,q⟩
theorem z2s {v c:V}{cv ty:Value}{b:Bool}{t u:TS}{D:Ends}{σ:L2.St}{H:Hp}(h0:σ[0]? = some (some v))(hc:(∃T,c=.ty T∧cv=.type T) ∨ ∃C2,c=.ref C2∧cv=.ref C2)
  (hx:(v=.non∧ty=.type "NoneType") ∨ ∃y C dx bm fI,v=.ref y∧H y=some (XO C dx y)∧xcIn K C bm fI=true∧ty=.ref C)(hk:PySem.W.kitOne K ty cv=some b)(h:if b=true then t D σ H else u D σ H):tIfS (tB (tCB (rIsX K) (x0p (tVar 0) (x0p (tC c) tNil)))) t u D σ H :=
 ifS ⟨v,h0,v,c,cv,ty,b,rfl,hc,hx,hk,b,rfl,h⟩
def u6v (CT CN CS:Addr):Sp:=fun vs H Q _=>∃(v:V) (o:Option (Kd×Str)),vs=[v]∧(match o with|none=>v=.non|some (c,nm)=>∃x dx,v=.ref x∧H x=some (XO (c.cls CT CN CS) dx x)∧H dx=some (.xd [("name",.str nm)])) ∧
 ∀l H',H l=none→Same H H'→H' l=some (.lst ((dueS o).map .str))→Q (.ref l) H'
theorem u9s (Y:XR K mg CF CT CN CS Ct Cp Ck)(u2q:Ent K mg "_law_kind" u2w ["_law_error"] f fd)(T:Zs K mg):FnOk P w K mg base CX0 1 f fd ["_law_error"] (u6v CT CN CS):=by
 refine u2q.F.ok u2j (fun vs H Q E h=>?_) (fun cdv A outer s H vs Q E hr h=>?_)
 ·obtain⟨_,_,rfl,_⟩:=h;rfl
 ·obtain⟨v,o,rfl,hv,q⟩:=h
  have hu:=z5b hr
  refine⟨_,(z0k (z2g (i:=1) u2j.nd rfl (Or.inl rfl) (z4s z0j))
   (z0k (z3u (z4u (z3e z5z rfl T.z_isinstance PyProof.Rows.boot_isinstance (z0d (pv 0) (z0d (y2m rfl Y.g_Twice) z0j)))) (z0q (z2g (i:=1) u2j.nd rfl (Or.inl rfl) (y7i z2y (pv 1) (z4s (z0d z1t (z0d (z6r (by simp) (pv 0) rfl) z0j)))))) z1w)
   (z0k (z3u (z4u (z3e z5z rfl T.z_isinstance PyProof.Rows.boot_isinstance (z0d (pv 0) (z0d (y2m rfl Y.g_NoName) z0j)))) (z0q (z2g (i:=1) u2j.nd rfl (Or.inl rfl) (y7i z2y (pv 1) (z4s (z0d z1t (z0d (z6r (by simp) (pv 0) rfl) z0j)))))) z1w)
   (z0k (z3u (z4u (z3e z5z rfl T.z_isinstance PyProof.Rows.boot_isinstance (z0d (pv 0) (z0d (y2m rfl Y.g_Stars) z0j)))) (z0q (z2g (i:=1) u2j.nd rfl (Or.inl rfl) (y7i z2y (pv 1) (z4s (z0d z1t (z0d (z6r (by simp) (pv 0) rfl) z0j)))))) z1w)
   (z0k (z3u (z4u (z3e z5z rfl T.z_isinstance PyProof.Rows.boot_isinstance (z0d (pv 0) (z0d (y2m rfl Y.g_NoText) z0j)))) (z0q (z2g (i:=1) u2j.nd rfl (Or.inl rfl) (y7i z2y (pv 1) (z4s (z0d z1t (z0d (z6r (by simp) (pv 0) rfl) z0j)))))) z1w)
   (z0k (z3u (z4u (z3e z5z rfl T.z_isinstance PyProof.Rows.boot_isinstance (z0d (pv 0) (z0d (y2m rfl Y.g_NoPort) z0j)))) (z0q (z2g (i:=1) u2j.nd rfl (Or.inl rfl) (y7i z2y (pv 1) (z4s (z0d z1t (z0d (z6r (by simp) (pv 0) rfl) z0j)))))) z1w)
   (z0k (z3u (z4u (z3e z5z rfl T.z_isinstance PyProof.Rows.boot_isinstance (z0d (pv 0) (z0d (y2m rfl Y.g_Taken) z0j)))) (z0q (z2g (i:=1) u2j.nd rfl (Or.inl rfl) (y7i z2y (pv 1) (z4s (z0d z1t (z0d (z6r (by simp) (pv 0) rfl) z0j)))))) z1w)
   (z0k (z3u (PW.pt (y2o (z1y y6x (pv 0) z6h (z0u _)) (z8t (z8a (z4u (z3e z5z rfl T.z_isinstance PyProof.Rows.boot_isinstance (z0d (pv 0) (z0d (pe_bltn (v:=.ty "ValueError") rfl Y.z_ValueError boot_VE rfl) z0j)))))))) (z0q (z2t (z9h PySem.F.slot_list_append PySem.F.type_list_append z1p (pv 1) (z0d z1t z0j)))) z1w)
   (z0q (z3t (pv 1))))))))))),?_⟩
  have sz:=z0x
  have cr:∀C:Addr,(∃T,V.ref C=.ty T∧Value.ref C=.type T) ∨ ∃C2,V.ref C=.ref C2∧Value.ref C=.ref C2:=fun C=>.inr ⟨C,rfl,rfl⟩
  cases o with
  |none =>
   subst hv
   have hx:∀H1:Hp,((V.non=.non∧tyK CT CN CS none=.type "NoneType") ∨ ∃y C dx bm fI,V.non=.ref y∧H1 y=some (XO C dx y)∧xcIn K C bm fI=true∧tyK CT CN CS none=.ref C):=fun _=>.inl ⟨rfl,rfl⟩
   walk_at "rs"
   refine⟨by omega,fun l hl=>z2s rfl (cr _) (hx _) (Y.n_Twice _) (iteF ?_)⟩
   walk_at "rs"
   refine z2s rfl (cr _) (hx _) (Y.n_NoName _) (iteF ?_)
   walk_at "rs"
   refine z2s rfl (cr _) (hx _) (Y.n_Stars _) (iteF ?_)
   walk_at "rs"
   refine z2s rfl (cr _) (hx _) (Y.n_NoText _) (iteF ?_)
   walk_at "rs"
   refine z2s rfl (cr _) (hx _) (Y.n_NoPort _) (iteF ?_)
   walk_at "rs"
   refine z2s rfl (cr _) (hx _) (Y.n_Taken _) (iteF ?_)
   walk_at "rs"
   refine ifS ?_
   walk_at "rd"
   exact⟨false,by simp,iteF (q l _ hl (Same.of_new hl) z0g)⟩
  |some o =>
   obtain⟨c,nm⟩:=o
   obtain⟨x,dx,rfl,hx,hdx⟩:=hv
   obtain⟨fI,hxc⟩:=Y.xc c
   have sx:∀{l:Addr},H l=none→Same H (upd H l (.lst [])):=fun h=>Same.of_new h
   have ix:∀H1:Hp,Same H H1→((V.ref x=.non∧tyK CT CN CS (some c)=.type "NoneType") ∨ ∃y C dx bm fI,V.ref x=.ref y∧H1 y=some (XO C dx y)∧xcIn K C bm fI=true∧tyK CT CN CS (some c)=.ref C):=fun H1 s=>.inr ⟨x,_,dx,_,fI,rfl,s _ _ hx,hxc,rfl⟩
   cases c with
   |tw =>
    walk_at "rs"
    refine⟨by omega,fun l hl=>z2s rfl (cr _) (ix _ (sx hl)) (Y.n_Twice _) (iteT ?_)⟩
    walk_at "rs"
    refine⟨_,dx,sx hl _ _ hx,_,sx hl _ _ hdx,_,fI,hxc,⟨nm,rfl⟩,by omega,fun p np hp=>⟨[],by rw[z0i (Ne.symm np),z0g],by show 0+2≤sizeLine;omega,fun p1 n1 n2 hp1=>?_⟩⟩
    have s3:∀{a b:HO},Same H (upd (upd (upd H l (.lst [])) p a) p1 b):=((sx hl).upd hp).upd hp1
    refine z2s rfl (cr _) (ix _ s3) (Y.n_NoName _) (iteF ?_)
    walk_at "rs"
    refine z2s rfl (cr _) (ix _ s3) (Y.n_Stars _) (iteF ?_)
    walk_at "rs"
    refine z2s rfl (cr _) (ix _ s3) (Y.n_NoText _) (iteF ?_)
    walk_at "rs"
    refine z2s rfl (cr _) (ix _ s3) (Y.n_NoPort _) (iteF ?_)
    walk_at "rs"
    refine z2s rfl (cr _) (ix _ s3) (Y.n_Taken _) (iteF ?_)
    walk_at "rs"
    refine ifS ?_
    walk_at "rd"
    exact⟨true,by simp,iteT ⟨_,⟨_,dx,s3 _ _ hx,_,fI,hxc,rfl⟩,_,Y.n_ValueError (some _),by rw[if_neg (by simp)];exact q p1 _ hp1 s3 z0g⟩⟩
   |nn =>
    walk_at "rs"
    refine⟨by omega,fun l hl=>z2s rfl (cr _) (ix _ (sx hl)) (Y.n_Twice _) (iteF ?_)⟩
    walk_at "rs"
    refine z2s rfl (cr _) (ix _ (sx hl)) (Y.n_NoName _) (iteT ?_)
    walk_at "rs"
    refine⟨_,dx,sx hl _ _ hx,_,sx hl _ _ hdx,_,fI,hxc,⟨nm,rfl⟩,by omega,fun p np hp=>⟨[],by rw[z0i (Ne.symm np),z0g],by show 0+2≤sizeLine;omega,fun p1 n1 n2 hp1=>?_⟩⟩
    have s3:∀{a b:HO},Same H (upd (upd (upd H l (.lst [])) p a) p1 b):=((sx hl).upd hp).upd hp1
    refine z2s rfl (cr _) (ix _ s3) (Y.n_Stars _) (iteF ?_)
    walk_at "rs"
    refine z2s rfl (cr _) (ix _ s3) (Y.n_NoText _) (iteF ?_)
    walk_at "rs"
    refine z2s rfl (cr _) (ix _ s3) (Y.n_NoPort _) (iteF ?_)
    walk_at "rs"
    refine z2s rfl (cr _) (ix _ s3) (Y.n_Taken _) (iteF ?_)
    walk_at "rs"
    refine ifS ?_
    walk_at "rd"
    exact⟨true,by simp,iteT ⟨_,⟨_,dx,s3 _ _ hx,_,fI,hxc,rfl⟩,_,Y.n_ValueError (some _),by rw[if_neg (by simp)];exact q p1 _ hp1 s3 z0g⟩⟩
   |st =>
    walk_at "rs"
    refine⟨by omega,fun l hl=>z2s rfl (cr _) (ix _ (sx hl)) (Y.n_Twice _) (iteF ?_)⟩
    walk_at "rs"
    refine z2s rfl (cr _) (ix _ (sx hl)) (Y.n_NoName _) (iteF ?_)
    walk_at "rs"
    refine z2s rfl (cr _) (ix _ (sx hl)) (Y.n_Stars _) (iteT ?_)
    walk_at "rs"
    refine⟨_,dx,sx hl _ _ hx,_,sx hl _ _ hdx,_,fI,hxc,⟨nm,rfl⟩,by omega,fun p np hp=>⟨[],by rw[z0i (Ne.symm np),z0g],by show 0+2≤sizeLine;omega,fun p1 n1 n2 hp1=>?_⟩⟩
    have s3:∀{a b:HO},Same H (upd (upd (upd H l (.lst [])) p a) p1 b):=((sx hl).upd hp).upd hp1
    refine z2s rfl (cr _) (ix _ s3) (Y.n_NoText _) (iteF ?_)
    walk_at "rs"
    refine z2s rfl (cr _) (ix _ s3) (Y.n_NoPort _) (iteF ?_)
    walk_at "rs"
    refine z2s rfl (cr _) (ix _ s3) (Y.n_Taken _) (iteF ?_)
    walk_at "rs"
    refine ifS ?_
    walk_at "rd"
    exact⟨true,by simp,iteT ⟨_,⟨_,dx,s3 _ _ hx,_,fI,hxc,rfl⟩,_,Y.n_ValueError (some _),by rw[if_neg (by simp)];exact q p1 _ hp1 s3 z0g⟩⟩
def y2s:Sp:=fun vs H Q _=>∃(root:Str) (rules:List (Str×Pat)) (l:Addr),vs=[.ref l]∧H l=some (.lst ((z3i root rules).map .str))∧RowsOk root rules∧FormX rules ∧
 ∀l H',H l=none→Same H H'→H' l=some (.lst ((dueS (z2i root rules)).map .str))→Q (.ref l) H'
theorem y9w {f1 f2:Addr}{fd1 fd2:FuncData}(Y:XR K mg CF CT CN CS Ct Cp Ck)(u2f:Ent K mg "_law_refused" u2c ["_law_rows_here"] f fd)(T:Zs K mg)(u0x:Ent K mg "read_form" u2m ["rows"] f1 fd1)(u2q:Ent K mg "_law_kind" u2w ["_law_error"] f2 fd2)(u4o:FnOk P w K mg base (CX1 P w) 66 f1 fd1 ["rows"] (x1q CT CN CS)):FnOk P w K mg base CX0 67 f fd ["_law_rows_here"] y2s:=by
 have u5w:FnOk P w K mg base CX0 1 f2 fd2 _ (u6v CT CN CS):=u9s Y u2q T
 refine u2f.F.ok u4v (fun vs H Q E h=>?_) (fun cdv A outer s H vs Q E hr h=>?_)
 ·obtain⟨_,_,_,rfl,_⟩:=h;rfl
 ·obtain⟨root,rules,l,rfl,hl,ok,fx,q⟩:=h
  refine⟨_,(z0k (z2g (i:=1) u4v.nd rfl (Or.inl rfl) z6h)
   (z0k (ps_try (ie:=2) (iy:=1) u4o (hr.mono (by decide)) rfl u0x.g u0x.F.kp u0x.b (z0d (pv 0) z0j) ⟨rfl,rfl⟩ rfl u4v.nd rfl rfl rfl (Or.inl rfl) (Or.inl rfl) rfl Y.g_FerryError Y.q_FerryError)
   (z0q (z3t (z1e u5w (hr.mono (by decide)) rfl u2q.g u2q.F.kp u2q.b .nil z0z (z0d (pv 1) z0j)))))),?_⟩
  walk_at "rs"
  refine⟨root,rules,l,rfl,hl,ok,fx,fun hn t H1 s1 _=>?_,fun c nm he=>fun x dx H1 s1 hx hdx=>?_⟩
  ·exact⟨.non,none,rfl,rfl,fun l H' n s e=>q l H' (s1.free n) (s1.trans s) (by rw[hn];exact e)⟩
  ·obtain⟨fI,hxc⟩:=Y.xc c
   refine⟨x,rfl,?_⟩
   refine⟨_,dx,rfl,hx,⟨_,fI,hxc,by simp⟩,.ref x,some (c,nm),rfl,⟨x,dx,rfl,hx,hdx⟩,fun l H' n s e=>q l H' (s1.free n) (s1.trans s) (by rw[he];exact e)⟩
end
open PySem L2 VL Pap
section
variable {X:Cx}
theorem x1g {s1:Stmt}{rest:List Stmt}{t1:TS}{u:TSd}(V:TSd→TSd)(p1:PS X s1 t1)(h:DSs X rest u)(hs:∀t,SimS t u→SimS (tSeq t1 t) (V u)):DSs X (s1::rest) (V u):=by
 obtain⟨t,p,s⟩:=h
 exact⟨_,z0k p1 p,hs t s⟩
end
theorem EI.junk {io:List (Option Addr)}{H0 F0 F H:Hp}{δ:List VL.Slot}{σ:St}{i:Nat}{o:Option V}(I:EI io H0 F0 F δ σ H)(h:δ[i]? = some .no):EI io H0 F0 F δ (σ.set i o) H:=by
 refine⟨I.base,I.sub,I.ext,I.new,by simpa using I.len,fun j s e=>?_,fun j k b c b' c' a ne e1 e2 e3 e4=>?_⟩
 ·by_cases hj:j=i
  ·subst hj;rw[h]at e;cases e;trivial
  ·have:=I.get j s e
   have e2:(σ.set i o).getD j none=σ.getD j none:=by
    rw[List.getD_eq_getElem?_getD,List.getElem?_set_ne (fun z=>hj z.symm),←List.getD_eq_getElem?_getD]
   rw[e2];exact this
 ·have key:∀{j:Nat}{b:Bool}{c:D},δ[j]? = some (.ob b c)→(σ.set i o).getD j none=σ.getD j none:=fun {j b c} e=>by
   have hj:i≠j:=fun z=>by rw[←z,h]at e;cases e
   rw[List.getD_eq_getElem?_getD,List.getElem?_set_ne hj,←List.getD_eq_getElem?_getD]
  rw[key e1]at e3
  rw[key e2]at e4
  exact I.apart j k b c b' c' a ne e1 e2 e3 e4
theorem y9h (ss:List Str):eqbL (ss.map D.str)=true∧depL (ss.map D.str)≤1:=by
 induction ss with
 |nil=>exact⟨rfl,by simp[depL]⟩
 |cons a ss ih=>exact⟨by simp[eqbL,eqb,ih.1],by simp only[List.map_cons,depL,dep];omega⟩
mutual
theorem y7d:∀p:Pat,eqb (patD p)=true∧dep (patD p)≤2 * dpP p+1
 |.none=>⟨by simp[patD,eqb,eqbL],by simp[patD,dep,depL]⟩
 |.one s=>⟨by simp[patD,eqb,eqbL],by simp[patD,dep,depL]⟩
 |.row ps=>by
  obtain⟨h1,h2⟩:=y3g ps
  exact⟨by simp[patD,eqb,eqbL,h1],by simp only[patD,dep,depL,dpP];omega⟩
 |.any ps=>by
  obtain⟨h1,h2⟩:=y3g ps
  exact⟨by simp[patD,eqb,eqbL,h1],by simp only[patD,dep,depL,dpP];omega⟩
 |.wrap k p=>by
  obtain⟨h1,h2⟩:=y7d p
  exact⟨by simp[patD,eqb,eqbL,h1],by simp only[patD,dep,depL,dpP];omega⟩
theorem y3g:∀ps:List Pat,eqbL (z1z ps)=true∧depL (z1z ps)≤2 * dpPs ps+1
 | []=>⟨by simp[z1z,eqbL],by simp[z1z,depL]⟩
 |p::ps=>by
  obtain⟨h1,h2⟩:=y7d p
  obtain⟨h3,h4⟩:=y3g ps
  exact⟨by simp[z1z,eqbL,h1,h3],by simp only[z1z,depL,dpPs];omega⟩
end
theorem y0p:∀rules:List (Str×Pat),(∀r∈rules,dpP r.2≤30)→eqbL (rules.map z1s)=true∧depL (rules.map z1s)≤62
 | [],_=>⟨rfl,by simp[depL]⟩
 |r::rs,h=>by
  obtain⟨h1,h2⟩:=y7d r.2
  obtain⟨h3,h4⟩:=y0p rs fun q hq=>h q (List.mem_cons_of_mem _ hq)
  have:=h r List.mem_cons_self
  exact⟨by simp[z1s,eqbL,eqb,h1,h3],by simp only[List.map_cons,z1s,depL,dep];omega⟩
mutual
theorem y7p:∀p:Pat,szP p≤1000→okA (patD p)=true
 |.none,_=>by simp[patD,okA,okAL]
 |.one s,_=>by simp[patD,okA,okAL]
 |.row ps,h=>by
  simp only[szP]at h
  have h1:=y4d ps (by omega)
  have h2:=z4v ps
  have h3:(z1z ps).length≤1000000:=by rw[y0z];omega
  simp[patD,okA,okAL,h1,h3]
 |.any ps,h=>by
  simp only[szP]at h
  have h1:=y4d ps (by omega)
  have h2:=z4v ps
  have h3:(z1z ps).length≤1000000:=by rw[y0z];omega
  simp[patD,okA,okAL,h1,h3]
 |.wrap k p,h=>by
  simp only[szP]at h
  simp[patD,okA,okAL,y7p p (by omega)]
theorem y4d:∀ps:List Pat,szPs ps≤1000→okAL (z1z ps)=true
 | [],_=>by simp[z1z,okAL]
 |p::ps,h=>by
  simp only[szPs]at h
  simp[z1z,okAL,y7p p (by omega),y4d ps (by omega)]
end
theorem y4p:∀rules:List (Str×Pat),(∀r∈rules,szP r.2≤1000)→okAL (rules.map z1s)=true
 | [],_=>rfl
 |r::rs,h=>by
  have h1:=y7p r.2 (h r List.mem_cons_self)
  have h2:=y4p rs fun q hq=>h q (List.mem_cons_of_mem _ hq)
  simp[z1s,okAL,okA,h1,h2]
theorem okA_strs (ss:List Str):okAL (ss.map D.str)=true:=by
 induction ss with
 |nil=>rfl
 |cons a ss ih=>simp[okAL,okA,ih]
theorem spD_newL {R:RD}{vs:List V}{ds:List D}{H:Hp}{Q:VK}{E:XK}{ss:List Str}(r:Reps H ds vs)(h:R (ds.map .fz) fun b d _=>b=true∧d=.lst (ss.map .str))(k:∀a H',Same H H'→H a=none→H' a=some (.lst (ss.map .str))→Q (.ref a) H'):spD R vs H Q E:=by
 refine⟨_,[],H,_,_,fun p a e=>by simp at e,y2j (Same.refl _) r,h,fun b d v δ' F' H' I q=>?_⟩
 obtain⟨rfl,rfl⟩:=q
 obtain⟨a,e1,n1,n2,c,_⟩:=I.get 0 (.ob false _) rfl
 cases e1
 obtain⟨vs',h1,h2⟩:=c
 rw[h2.strs]at h1
 exact k a H' I.base n1 h1
def dTurn21 (u:TSd):TSd:=fun E δ=>∃(K:PySem.W.Frag) (ns:List Int) (root:Str) (rules:List (Str×Pat)) (x2:VL.Slot) (k:Nat) (b4 b5:Bool),δ=[.sc K ns,.fz (z3g root rules),x2,.no,rsl b4 (.lst ((dueS (z2i root rules)).map .str)),rsl b5 (.lst ((z3i root rules).map .str)),.ob false (.lst [z3g root rules,.lst ((z3i root rules).map .str)]),.no,.no,.no,.no] ∧
 k≤4∧FormB k root rules ∧
 u E [.sc K ns,.fz (z3g root rules),x2,.no,.fz (.lst ((dueS (z2i root rules)).map .str)),.fz (.lst ((z3i root rules).map .str)),.fz (.lst [z3g root rules,.lst ((z3i root rules).map .str)]),.no,.no,.no,.no]
section
variable {P:Program}{w:World}{K:PySem.W.Frag}{mg:Str→Option Value}{base:Heap}{f:Addr}{fd:FuncData}{aM aK:Addr}{CF CT CN CS Ct Cp Ck:Addr}
def x3s (n:Nat):RD:=fun δ Q=>∃p:Pat,δ=[.fz (patD p)]∧dpP p<n∧szP p≤1000∧Q false (patD p) [.no]
theorem u9t (u0f:Ent K mg "_law_copy_pattern" u0q ["_law_pattern_here"] f fd)(T:Zs K mg):∀n,FnOk P w K mg base CX0 (n+1) f fd ["_law_pattern_here"] (spD (x3s n)):=by
 intro n
 induction n with
 |zero=>exact z8o fun δ Q h=>by obtain⟨_,_,h,_⟩:=h;exact Nat.not_lt_zero _ h
 |succ n u2r =>
 refine VL.Fun.dok u0f.F z6y (fun δ Qd h=>?_) (by decide) (fun cdv A outer s H E δ Qd hr h=>?_)
 ·obtain⟨_,rfl,_⟩:=h;rfl
 ·obtain⟨p,rfl,hdp,hsz,q⟩:=h
  refine⟨_,(z0c (z1x (z1f y2h z6u (z0t z1c z1g (pv 0) z0f (fun _ _=>rfl)) (z1o (z0a z0l (z0a z0l z0e))) rfl) (z0h (z0r (z1o (z0a (z0t z1c z1g (pv 0) z0f (fun _ _=>rfl)) (z0a (z4z ["_law_one"] ["_law_pattern_here"] rfl (show CScopeG (z0b u0q) ["_law_pattern_here"] ["_law_one"] _ _ from⟨rfl,by decide +kernel,by decide +kernel,by decide +kernel,by decide +kernel⟩) (z2h (z0t z1c z1g (pv 0) z0f (fun _ _=>rfl))) (fun _ _ _ _ _=>(z2b (i:=0) (by decide) (show List.Nodup (["_law_one","_law_pattern_here"]:List Str) from by decide +kernel) rfl (Or.inl rfl))) (fun _ _ _ _ _=>z5s) (fun _ _ _ _ _=>(z0y u2r (hr.mono (by omega)) rfl u0f.g u0f.F.kp u0f.b z0z (z0a (dv 0) z0e)))) z0e))))) z0v)
   (z0c (z1x (z1f y2h z6u (z0t z1c z1g (pv 0) z0f (fun _ _=>rfl)) (z1o (z0a z0l (z0a z0l (z0a z0l z0e)))) rfl) (z0h (z0r (z1o (z0a (z0t z1c z1g (pv 0) z0f (fun _ _=>rfl)) (z0a (z0y u2r (hr.mono (by omega)) rfl u0f.g u0f.F.kp u0f.b z0z (z0a (z0t z1c z1g (pv 0) z0f (fun _ _=>rfl)) z0e)) z0e))))) z0v)
   (z0h (z0r (dm 0))))),?_⟩
  have sz:=z0x
  have comp:∀(ps:List Pat) (z:Str) (Q:Bool→D→List VL.Slot→Prop),dpPs ps<n→szPs ps≤1000→Q true (.lst (z1z ps)) [.fz (.tup [.str z,.lst (z1z ps)])] →
    x0j 1 (z1z ps) (dgN 0) dYes (dCall (x3s n) (dCons (dVar 0) dNil)) Q [.fz (.tup [.str z,.lst (z1z ps)])]:=by
   intro ps z Q h1 h2 h3
   have hl:=z4v ps
   have e:=z2j ps
   rw[e]at h3 ⊢
   refine y1x patD patD ps (by omega) (fun c hc P hP=>?_) h3
   have d1:=z4b hc
   have d2:=z5e hc
   walk_at "vd"
   exact⟨c,rfl,by omega,by omega,hP⟩
  cases p with
  |none =>
   simp only[patD]
   walk_at "vd"
   refine⟨by omega,?_⟩
   rw[if_neg (by decide)]
   refine⟨by omega,?_⟩
   rw[if_neg (by decide)]
   exact q
  |one s =>
   simp only[patD]
   walk_at "vd"
   refine⟨by omega,?_⟩
   rw[if_neg (by decide)]
   refine⟨by omega,?_⟩
   rw[if_neg (by decide)]
   exact q
  |row ps =>
   simp only[patD]
   simp only[dpP,szP]at hdp hsz
   walk_at "vd"
   refine⟨by omega,?_⟩
   rw[if_pos (.inl trivial)]
   refine comp ps _ _ (by omega) (by omega) ⟨by omega,q⟩
  |any ps =>
   simp only[patD]
   simp only[dpP,szP]at hdp hsz
   walk_at "vd"
   refine⟨by omega,?_⟩
   rw[if_pos (.inr trivial)]
   refine comp ps _ _ (by omega) (by omega) ⟨by omega,q⟩
  |wrap k p =>
   simp only[dpP,szP]at hdp hsz
   cases k<;>simp only[patD,Wk.str]<;>walk_at "vd"<;>refine⟨by omega,?_⟩<;>rw[if_neg (by decide)]<;>refine⟨by omega,?_⟩
   ·rw[if_pos (.inl trivial)];exact⟨p,rfl,by omega,by omega,by omega,q⟩
   ·rw[if_pos (.inr (.inl trivial))];exact⟨p,rfl,by omega,by omega,by omega,q⟩
   ·rw[if_pos (.inr (.inr trivial))];exact⟨p,rfl,by omega,by omega,by omega,q⟩
def u6w:RD:=fun δ Q=>∃(root:Str) (rules:List (Str×Pat)),δ=[.fz (z3g root rules)]∧FormX rules∧Q false (z3g root rules) [.no]
theorem u7p {f1:Addr}{fd1:FuncData}(u1n:Ent K mg "_law_copy_form" u1e ["_law_form_here"] f fd)(T:Zs K mg)(u0f:Ent K mg "_law_copy_pattern" u0q ["_law_pattern_here"] f1 fd1):FnOk P w K mg base CX0 33 f fd ["_law_form_here"] (spD u6w):=by
 have u2r:FnOk P w K mg base CX0 32 f1 fd1 _ (spD (x3s 31)):=u9t u0f T 31
 refine VL.Fun.dok u1n.F z8j (fun δ Qd h=>?_) (by decide) (fun cdv A outer s H E δ Qd hr h=>?_)
 ·obtain⟨_,_,rfl,_⟩:=h;rfl
 ·obtain⟨root,rules,rfl,ok,q⟩:=h
  refine⟨_,(z0h (z0r (z1o (z0a (z0t z1c z1g (pv 0) z0f (fun _ _=>rfl)) (z0a (z4z ["_law_name_here","_law_pattern_here"] ["_law_form_here"] rfl (show CScopeG (z0b u1e) ["_law_form_here"] ["_law_name_here","_law_pattern_here"] _ _ from⟨rfl,by decide +kernel,by decide +kernel,by decide +kernel,by decide +kernel⟩) (z2h (z0t z1c z1g (pv 0) z0f (fun _ _=>rfl))) (fun _ _ _ _ _=>(y6p (m:=2) rfl (z5m (z2b (i:=0) (by decide) (show List.Nodup (["_law_name_here","_law_pattern_here","_law_form_here"]:List Str) from by decide +kernel) rfl (Or.inl rfl)) (z5m (z2b (i:=1) (by decide) (show List.Nodup (["_law_name_here","_law_pattern_here","_law_form_here"]:List Str) from by decide +kernel) rfl (Or.inl rfl)) y4c)))) (fun _ _ _ _ _=>z5s) (fun _ _ _ _ _=>(z1o (z0a (dv 0) (z0a (z0y u2r (hr.mono (by decide)) rfl u0f.g u0f.F.kp u0f.b z0z (z0a (dv 1) z0e)) z0e))))) z0e))))),?_⟩
  have sz:=z0x
  have hl:=ok.len
  simp only[z3g]at q ⊢
  walk_at "vd"
  refine comp2x (fun r=>.tup [.str r.1,patD r.2]) (by omega) (fun r hr P hP=>?_) ⟨by omega,q⟩
  have o:=ok.pat r hr
  have o1:=o.2
  have o2:=o.1
  walk_at "vd"
  exact⟨r.2,rfl,by omega,by omega,by omega,hP⟩
def u9u:RD:=fun δ Q=>∃k,u8l k δ Q
theorem fn_any {lv:Nat}{ps:List Str}{R:Nat→RD}(h:∀k,FnOk P w K mg base CX0 lv f fd ps (spD (R k))):FnOk P w K mg base CX0 lv f fd ps (spD fun δ Q=>∃k,R k δ Q):=by
 have key:∀vs H Q E,spD (fun δ Q=>∃k,R k δ Q) vs H Q E→∃k,spD (R k) vs H Q E:=fun vs H Q E ⟨a,b,c,d,e,h1,h2,⟨k,h3⟩,h4⟩=>⟨k,a,b,c,d,e,h1,h2,h3,h4⟩
 exact⟨fun vs H Q E q=>by obtain⟨k,q⟩:=key _ _ _ _ q;exact(h k).1 _ _ _ _ q,fun A outer s H args us vs Q E a b c d q=>by obtain⟨k,q⟩:=key _ _ _ _ q;exact(h k).2 A outer s H args us vs Q E a b c d q⟩
def u7q (K:PySem.W.Frag):RD:=fun δ Q=>∃ns:List Int,δ=[.sc K ns]∧Q false (.bl true) [.no]
structure AllE (K:PySem.W.Frag)(mg:Str→Option Value)(w:World):Prop where
 T:Zs K mg
 kts:PySem.W.kitOne K (.type "tuple") (.type "str")=some false
 Y:∃CF CT CN CS Ct Cp Ck,XR K mg CF CT CN CS Ct Cp Ck
 Gd:∃aM aK,Gds K mg w aM aK
 u0b:∃f fd,Ent K mg "patterns_within" u0g ["pattern"] f fd
 u0r:∃f fd,Ent K mg "signs" u3q ["pattern"] f fd
 u0j:∃f fd,Ent K mg "look_twice" u1p ["rules"] f fd
 u0n:∃f fd,Ent K mg "look_names" u1q ["root","rules"] f fd
 u3m:∃f fd,Ent K mg "look" u4p ["form"] f fd
 u0e:∃f fd,Ent K mg "is_letter" u0w ["sign"] f fd
 u0i:∃f fd,Ent K mg "is_name" u2g ["text"] f fd
 u1s:∃f fd,Ent K mg "token_end" u2k ["line","begin"] f fd
 u2o:∃f fd,Ent K mg "tokens_of" u2l ["line"] f fd
 u0u:∃f fd,Ent K mg "gathered" u2h ["kind","patterns"] f fd
 u2a:∃f fd,Ent K mg "folded" u3n ["rows"] f fd
 u0s:∃f fd,Ent K mg "close_bracket" u1c ["groups"] f fd
 u1o:∃f fd,Ent K mg "lay_pattern" u1u ["groups","token"] f fd
 u0v:∃f fd,Ent K mg "scanned_pattern" u0y ["line"] f fd
 u3b:∃f fd,Ent K mg "held" u4q ["pattern","kinds"] f fd
 u0d:∃f fd,Ent K mg "show_pattern" u0t ["pattern"] f fd
 u3j:∃f fd,Ent K mg "show_form" u2s ["form"] f fd
 u0l:∃f fd,Ent K mg "read_pattern" u1b ["line"] f fd
 u2p:∃f fd,Ent K mg "read_rule" u2t ["line","middle","reader"] f fd
 u0o:∃f fd,Ent K mg "read_rules" u1v ["lines","middle","reader","first"] f fd
 u0x:∃f fd,Ent K mg "read_form" u2m ["rows"] f fd
 u2d:∃f fd,Ent K mg "_law_cell_at" u2b ["_law_script","_law_k"] f fd
 u1a:∃f fd,Ent K mg "_law_draws" u1w ["_law_script","_law_turn","_law_many_here"] f fd
 u0p:∃f fd,Ent K mg "_law_pop" u3a ["_law_draws_here"] f fd
 u0z:∃f fd,Ent K mg "_law_alike" u2u ["_law_found","_law_due_here"] f fd
 u3i:∃f fd,Ent K mg "_law_name" u2n ["_law_k","_law_draw"] f fd
 u0m:∃f fd,Ent K mg "_law_wrapped" u1g ["_law_pattern_here","_law_number"] f fd
 u1l:∃f fd,Ent K mg "_law_pattern" u1h ["_law_some","_law_draws_here"] f fd
 u1z:∃f fd,Ent K mg "_law_signs" u1x ["_law_names","_law_number"] f fd
 u3h:∃f fd,Ent K mg "_law_form" u2v ["_law_script","_law_turn","_law_many_here"] f fd
 u0c:∃f fd,Ent K mg "_law_signs_of" u1d ["_law_pattern_here"] f fd
 u0f:∃f fd,Ent K mg "_law_copy_pattern" u0q ["_law_pattern_here"] f fd
 u1n:∃f fd,Ent K mg "_law_copy_form" u1e ["_law_form_here"] f fd
 u3s:∃f fd,Ent K mg "_law_due" u3r ["_law_form_here"] f fd
 u3l:∃f fd,Ent K mg "_law_bent" u3d ["_law_form_here","_law_number"] f fd
 u3g:∃f fd,Ent K mg "_law_many" u3e ["_law_cell"] f fd
 u0h:∃f fd,Ent K mg "_law_between" u1i ["_law_pattern_here","_law_kinds"] f fd
 u0a:∃f fd,Ent K mg "_law_pattern_text" u0k ["_law_pattern_here"] f fd
 u2q:∃f fd,Ent K mg "_law_kind" u2w ["_law_error"] f fd
 u2f:∃f fd,Ent K mg "_law_refused" u2c ["_law_rows_here"] f fd
 u3k:∃f fd,Ent K mg "_law_rows" u3f ["_law_form_here"] f fd
theorem lenSS{l:L2.St}{n:Nat}(h:l.length=n+1):∃x t,l=x::t∧t.length=n:=by
 cases l with
 |nil=>cases h
 |cons x t=>exact⟨x,t,rfl,Nat.succ.inj h⟩
theorem p0z (p1g:Ent K mg "law" u5m ["_law_script"] f fd)(U:AllE K mg w):FnOk P w K mg base CX0 80 f fd ["_law_script"] (spD (u7q K)):=by
 obtain⟨T,kts,⟨CF,CT,CN,CS,Ct,Cp,Ck,Y⟩,⟨aM,aK,Gd⟩,⟨u6h,u6f,u0b⟩,⟨p1h,p1c,u0r⟩,⟨u8m,u7r,u0j⟩,⟨u8n,u7s,u0n⟩,⟨p1k,p1i,u3m⟩,⟨u9v,u8o,u0e⟩,⟨p1a,p0k,u0i⟩,⟨u9w,u8p,u1s⟩,⟨u9x,u8q,u2o⟩,⟨p0l,u9y,u0u⟩,⟨p1d,p1b,u2a⟩,⟨u6x,u6l,u0s⟩,⟨u7t,u7f,u1o⟩,⟨u6i,u6g,u0v⟩,⟨p1l,p1j,u3b⟩,⟨u7g,u6y,u0d⟩,⟨u9z,u8r,u3j⟩,⟨u4t,u6z,u0l⟩,⟨p0a,u8s,u2p⟩,⟨u8t,u7u,u0o⟩,⟨p0b,u8u,u0x⟩,⟨u7h,u7a,u2d⟩,⟨u8v,u7v,u1a⟩,⟨p0m,p0c,u0p⟩,⟨u8w,u7w,u0z⟩,⟨p0d,u8x,u3i⟩,⟨u7i,u7b,u0m⟩,⟨u7j,u7c,u1l⟩,⟨u8y,u7x,u1z⟩,⟨p0e,u8z,u3h⟩,⟨u7d,u6m,u0c⟩,⟨u5x,u5q,u0f⟩,⟨u6n,u6j,u1n⟩,⟨p0n,p0f,u3s⟩,⟨p0g,u9a,u3l⟩,⟨p0h,u9b,u3g⟩,⟨u7k,u7e,u0h⟩,⟨u5y,u5r,u0a⟩,⟨p0i,u9c,u2q⟩,⟨u5c,u5a,u2f⟩,⟨p0j,u9d,u3k⟩⟩:=U
 have u4m:FnOk P w K mg base CX0 1 _ _ _ (spD (y7n K)):=y9k u1a T
 have u5d:FnOk P w K mg base CX0 1 _ _ _ (spD (u7z K)):=u9e u2d T
 have u5z:FnOk P w K mg base CX0 1 _ _ _ (spD u8a):=u9f u3g T
 have u6a:FnOk P w K mg base CX0 3 _ _ _ (spD (u8b K)):=u9h u3h T u0p u0m u1l u1a u3i u1z
 have u4y:FnOk P w K mg base CX0 33 _ _ _ (spD u6w):=u7p u1n T u0f
 have u6k:FnOk P w K mg base CX0 33 _ _ _ (spD p0s):=p0t u3s T u0c
 have u6b:FnOk P w K mg base CX0 33 _ _ _ (spD u9u):=fn_any fun k=>u9r k u3l T u0c
 have u4b:FnOk P w K mg base CX0 71 _ _ _ (spD (u6q 70)):=u7m u0z T 70
 have u5g:FnOk P w K mg base CX0 35 _ _ _ (spD y9g):=u9n u3m T u0j u0n u0r u0b
 have u5v:FnOk P w K mg base (CX1 P w) 35 _ _ _ (x2x CT CN CS):=p0u Y u3m T u0j u0n u0r u0b
 have u6c:FnOk P w K mg base CX0 63 _ _ _ (spD y4f):=p0o u3j T Gd u0d u3b
 have u6d:FnOk P w K mg base CX0 63 _ _ _ (spD y4f):=u7n u3k T u0a u0h
 have u2e:FnOk P w K mg base CX0 62 _ _ _ (spD (z5u 31)):=x2r u0d T Gd u3b 31
 have u1f:FnOk P w K mg base CX0 62 _ _ _ (spD (z5u 31)):=y8w u0a T u0h 31
 have u3t:FnOk P w K mg base CX0 5 _ _ _ y7s:=u9o u0v T Gd u1o u0s u2a u0u u0i u0e u2o u1s
 have u4d:FnOk P w K mg base CX0 63 _ _ _ u9p:=p1e u0l T Gd u0v u3t u0d u3b
 have u4u:FnOk P w K mg base CX0 64 _ _ _ (u9q u4t):=p1f u2p T u0l u4d u0i u0e
 have u2z:FnOk P w K mg base CX0 65 _ _ _ (y9c u4t):=p0w u0o T u2p u4u
 have u6e:FnOk P w K mg base CX0 66 _ _ _ u8k:=p0x u0x T u0o u0l u2z u0i u0e u3m u5g
 have u4o:FnOk P w K mg base (CX1 P w) 66 _ _ _ (x1q CT CN CS):=p0y u0x T u0o u0l u2z u0i u0e u3m u5g u5v
 have u5e:FnOk P w K mg base CX0 67 u5c u5a ["_law_rows_here"] y2s:=y9w Y u2f T u0x u2q u4o
 refine VL.Fun.dok p1g.F u4e (fun δ Qd h=>?_) (by decide) (fun cdv A outer s H E δ Qd hr h=>?_)
 ·obtain⟨_,rfl,_⟩:=h;rfl
 ·obtain⟨ns,rfl,q⟩:=h
  have hu:=z5b hr
  refine⟨_,(z0c (z1b (i:=1) u4e.nd rfl (Or.inl rfl) (z9m u6a (hr.mono (by decide)) rfl u3h.g u3h.F.kp u3h.b z0z (pv 0) (z0a z0f (z0a (z0y u5z (hr.mono (by decide)) rfl u3g.g u3g.F.kp u3g.b z0z (z0a (z9m u5d (hr.mono (by decide)) rfl u2d.g u2d.F.kp u2d.b z0z (pv 0) (z0a z0f z0e)) z0e)) z0e))))
   (z0c (z1b (i:=2) u4e.nd rfl (Or.inl rfl) (z9m u4m (hr.mono (by decide)) rfl u1a.g u1a.F.kp u1a.b z0z (pv 0) (z0a z0f (z0a z0f z0e))))
   (z0c (z5h PassesOwn.never rfl (z5p rfl T.z_range (z0a (z0m z1l z1k (z0t z4k z2c (pv 2) z0f (fun _ _=>rfl)) z0f) z0e)) (z2f (i:=3) u4e.nd rfl (Or.inl rfl)) (z0h (z1b (i:=1) u4e.nd rfl (Or.inl rfl) (z0y u6b (hr.mono (by decide)) rfl u3l.g u3l.F.kp u3l.b z0z (z0a (dv 1) (z0a (z0t z4k z2c (pv 2) (z0m z2r z2q z0f (dv 3)) (fun _ _=>rfl)) z0e))))))
   (z0c (z1b (i:=4) u4e.nd rfl (Or.inl rfl) (z0y u6k (hr.mono (by decide)) rfl u3s.g u3s.F.kp u3s.b z0z (z0a (dv 1) z0e)))
   (z0c (z1b (i:=5) u4e.nd rfl (Or.inl rfl) (z0y u6d (hr.mono (by decide)) rfl u3k.g u3k.F.kp u3k.b z0z (z0a (dv 1) z0e)))
   (z0c (z1b (i:=6) u4e.nd rfl (Or.inl rfl) (z1i (z0a (z0y u4y (hr.mono (by decide)) rfl u1n.g u1n.F.kp u1n.b z0z (z0a (dv 1) z0e)) (z0a (z8f x2f z7o rfl T.z_list PyProof.Rows.boot_list (z0a (dv 5) z0e)) z0e))))
   (x1g dTurn21 (z9c PassesOwn.never rfl (y5z rfl T.z_range (z0d z1h z0j)) (z4o (i:=3) u4e.nd rfl (Or.inl rfl)) (z0k (z2g (i:=7) u4e.nd rfl (Or.inl rfl) (z1e u6c (hr.mono (by decide)) rfl u3j.g u3j.F.kp u3j.b .nil z0z (z0d (z2w z2c (pv 6) z1h (fun _ _=>rfl)) z0j)))
   (z0k (z3u (z8a (z4u (z1e u4b (hr.mono (by decide)) rfl u0z.g u0z.F.kp u0z.b .nil z0z (z0d (pv 7) (z0d (pv 5) z0j))))) (z0q (z3t y1w)) z1w)
   (z0k (z2t (z9h PySem.F.slot_list_append PySem.F.type_list_append z1p (pv 7) (z0d z1t z0j)))
   (z0k (z9c PassesOwn.never rfl (z8k (z2w z1g (z2w z2c (pv 6) z1h (fun _ _=>rfl)) z1h (fun _ _=>rfl))) (y5v rfl (z5i (z4o (i:=8) u4e.nd rfl (Or.inl rfl)) (z5i (z4o (i:=9) u4e.nd rfl (Or.inl rfl)) y1p))) (z0q (z3u (z1y y1j (z1e u2e (hr.mono (by decide)) rfl u0d.g u0d.F.kp u0d.b .nil z0z (z0d (pv 9) z0j)) (z1e u1f (hr.mono (by decide)) rfl u0a.g u0a.F.kp u0a.b .nil z0z (z0d (pv 9) z0j)) (z0u _)) (z0q (z3t y1w)) z1w)))
   (z0k (z3u (z1y y2x (z1e u5e (hr.mono (by decide)) rfl u2f.g u2f.F.kp u2f.b .nil z0z (z0d (z2w z2c (pv 6) z1h (fun _ _=>rfl)) z0j)) (pv 4) (z0u _)) (z0q (z3t y1w)) z1w)
   (z0q (z3u (z1y z8i (pv 4) (z4s z0j) (z0u _)) (z0k (z2g (i:=10) u4e.nd rfl (Or.inl rfl) (z1e u6e (hr.mono (by decide)) rfl u0x.g u0x.F.kp u0x.b .nil z0z (z0d (z2w z2c (pv 6) z1h (fun _ _=>rfl)) z0j)))
   (z0k (z3u (z8a (z4u (z1e u4b (hr.mono (by decide)) rfl u0z.g u0z.F.kp u0z.b .nil z0z (z0d (pv 10) (z0d (pv 1) z0j))))) (z0q (z3t y1w)) z1w)
   (z0q (z2t (z9h PySem.F.slot_list_append PySem.F.type_list_append z1p (z2w z1g (pv 10) z1h (fun _ _=>rfl)) (z0d (z5n (z0d z1t (z0d (z5n (z0d z1t z0j)) z0j))) z0j)))))) z1w))))))))
   (z0h (z0r (de_cmpV (x1u hu) z8i (pv 6) (z1i (z0a (dv 1) (z0a (dv 5) z0e))) (z0u _)))) ?five))))))),?_⟩
  case five =>
   intro t st io H0 F0 F δ σ H E Ed I q S
   obtain⟨K',ns',root,rules,x2,k,b4,b5,rfl,hk4,fb,q⟩:=q
   have sz:=z0x
   have fw:=fb.w hk4
   have fx:=fb.x hk4
   have ro:RowsOk root rules:=⟨fb.rn,fw.rl,fw.len,fb.r hk4⟩
   have hln:=fw.len
   obtain⟨F',J,sJ⟩:∃F',EI io H0 F0 F' [.sc K' ns',.fz (z3g root rules),x2,.no,.fz (.lst ((dueS (z2i root rules)).map .str)),.fz (.lst ((z3i root rules).map .str)),.fz (.lst [z3g root rules,.lst ((z3i root rules).map .str)]),.no,.no,.no,.no] σ H∧Same F F':=by
    obtain⟨F1,J1,s1⟩:∃F1,EI io H0 F0 F1 [.sc K' ns',.fz (z3g root rules),x2,.no,.fz (.lst ((dueS (z2i root rules)).map .str)),rsl b5 (.lst ((z3i root rules).map .str)),.ob false (.lst [z3g root rules,.lst ((z3i root rules).map .str)]),.no,.no,.no,.no] σ H∧Same F F1:=by
     cases b4 with
     |false=>exact⟨F,I,Same.refl _⟩
     |true =>
      obtain⟨F',a,s,I',_⟩:=I.freeze (i:=4) rfl
      exact⟨F',I',s⟩
    obtain⟨F2,J2,s2⟩:∃F2,EI io H0 F0 F2 [.sc K' ns',.fz (z3g root rules),x2,.no,.fz (.lst ((dueS (z2i root rules)).map .str)),.fz (.lst ((z3i root rules).map .str)),.ob false (.lst [z3g root rules,.lst ((z3i root rules).map .str)]),.no,.no,.no,.no] σ H∧Same F1 F2:=by
     cases b5 with
     |false=>exact⟨F1,J1,Same.refl _⟩
     |true =>
      obtain⟨F',a,s,I',_⟩:=J1.freeze (i:=5) rfl
      exact⟨F',I',s⟩
    obtain⟨F3,a,s3,J3,_⟩:=J2.freeze (i:=6) rfl
    exact⟨F3,J3,s1.trans (s2.trans s3)⟩
   obtain⟨l0,l1,l2,l3,l4,l5,l6,l7,l8,l9,l10,rfl⟩:∃l0 l1 l2 l3 l4 l5 l6 l7 l8 l9 l10,σ=[l0,l1,l2,l3,l4,l5,l6,l7,l8,l9,l10]:=by
    have hl:=J.len.symm
    obtain⟨l0,t0,d0,g0⟩:=lenSS hl
    obtain⟨l1,t1,d1,g1⟩:=lenSS g0
    obtain⟨l2,t2,d2,g2⟩:=lenSS g1
    obtain⟨l3,t3,d3,g3⟩:=lenSS g2
    obtain⟨l4,t4,d4,g4⟩:=lenSS g3
    obtain⟨l5,t5,d5,g5⟩:=lenSS g4
    obtain⟨l6,t6,d6,g6⟩:=lenSS g5
    obtain⟨l7,t7,d7,g7⟩:=lenSS g6
    obtain⟨l8,t8,d8,g8⟩:=lenSS g7
    obtain⟨l9,t9,d9,g9⟩:=lenSS g8
    obtain⟨l10,t10,d10,g10⟩:=lenSS g9
    exact⟨l0,l1,l2,l3,l4,l5,l6,l7,l8,l9,l10,by rw[d0,d1,d2,d3,d4,d5,d6,d7,d8,d9,d10,List.eq_nil_of_length_eq_zero g10]⟩
   obtain⟨v1,e1,rf1⟩:=J.get 1 _ rfl
   obtain⟨v4,e4,rd4⟩:=J.get 4 _ rfl
   obtain⟨v5,e5,rr5⟩:=J.get 5 _ rfl
   obtain⟨v6,e6,rh6⟩:=J.get 6 _ rfl
   cases(show l1=some v1 from e1)
   cases(show l4=some v4 from e4)
   cases(show l5=some v5 from e5)
   cases(show l6=some v6 from e6)
   obtain⟨a6,us6,rfl,h6,vf,r1,rfl,rf,vr,r2,rfl,rr,r3⟩:=rh6
   cases(show r2=[] from r3)
   obtain⟨ar,usr,rfl,har,rsr⟩:=id rr
   cases rsr.strs
   obtain⟨a4,us4,rfl,h4,rs4⟩:=id rd4
   cases rs4.strs
   have rf':=rf
   rw[z3n]at rf'
   obtain⟨af,usf,rfl,haf,y1,t1,rfl,ey1,y2,t2,rfl,ey2,ey3⟩:=rf'
   cases(show t2=[] from ey3)
   cases(show y1=.str root from ey1)
   obtain⟨al,usl,rfl,hal,rsl⟩:=ey2
   walk_at "rs"
   refine⟨by decide,by decide,loopR (fun i σ H'=>∃x3 x7 x8 x9 x10,σ=[l0,some v1,l2,x3,some (.ref a4),some v5,some (.ref a6),x7,x8,x9,x10]∧Same H H') ⟨_,_,_,_,_,rfl,Same.refl _⟩ ?_ ?_⟩
   ·rintro i σ H1 hi ⟨x3,x7,x8,x9,x10,rfl,s1⟩
    have sF1:Same F' H1:=J.sub.trans s1
    walk_at "rs"
    refine⟨_,sF1 _ _ h6,_,atI0,?_⟩
    refine spD_newL (ds:=[z3g root rules]) (ss:=z3i root rules) (Reps.one (Rep.mono sF1 _ _ rf)) ⟨root,rules,rfl,fw,rfl,rfl⟩ fun a7 H2 s2 n7 h7=>ifS ?_
    have sF2:=sF1.trans s2
    have lW:(z3i root rules).length≤21:=by simp[z3i];omega
    walk_at "rs"
    refine z2a (ds:=[.lst ((z3i root rules).map .str),.lst ((z3i root rules).map .str)]) (Qd:=fun b d _=>d=.bl true) ⟨_,_,rfl,⟨a7,_,rfl,h7,y5c _⟩,_,_,rfl,Rep.mono sF2 _ _ rr5,rfl⟩ ⟨_,rfl,by have:=(y9h (z3i root rules)).2;simp only[dep];omega,by simp only[okA,okA_strs,List.length_map,Bool.and_true,decide_eq_true_eq];omega,rfl⟩ fun b1 d1 δ1 v2 H3 s3 ed1 rd1=>?_
    subst ed1
    cases(show v2=.bl true from rd1)
    refine⟨true,rfl,?_⟩
    rw[if_neg (by simp)]
    refine⟨⟨_,s3 _ _ h7⟩,_,s3 _ _ h7,by simp;omega,?_⟩
    have s4:Same H1 (upd H3 a7 (.lst ((z3i root rules).map .str++[.str "more"]))):=(s2.trans s3).upd n7
    generalize upd H3 a7 (.lst ((z3i root rules).map .str++[.str "more"]))=H4 at s4
    have sF4:=sF1.trans s4
    refine⟨_,sF4 _ _ h6,_,atI0,af,rfl,_,sF4 _ _ haf,_,atI1,al,rfl,⟨_,SqL.of (sF4 _ _ hal)⟩,x1d (xs:=usl) (fun j σ H'=>∃x8 x9,σ=[l0,some v1,l2,some (.int (0+(i:Int))),some (.ref a4),some v5,some (.ref a6),some (.ref a7),x8,x9,x10]∧Same H4 H') ⟨_,_,rfl,Same.refl _⟩ (fun j σ H' _ h=>?_) (fun j x σ H' hx h=>?_) fun σ H5 h=>?_⟩
    ·obtain⟨_,_,_,s5⟩:=h
     exact SqL.of (s5 _ _ (sF4 _ _ hal))
    ·obtain⟨x8,x9,rfl,s5⟩:=h
     have sF5:=sF4.trans s5
     obtain⟨d,hd,rx⟩:=rsl.get' hx
     rw[List.getElem?_map]at hd
     obtain⟨r0,hr0,rfl⟩:=Option.map_eq_some_iff.mp hd
     have okr:=ro.ok r0 (List.mem_of_getElem? hr0)
     have o1:=okr.sz
     have o2:=okr.dp
     obtain⟨t0,vs2,rfl,ht0,z1,q1,rfl,rz1,z2,q2,rfl,rz2,q3⟩:=rx
     cases(show q2=[] from q3)
     cases(show z1=.str r0.1 from rz1)
     walk_at "rs"
     refine⟨_,.inl (.inl (sF5 _ _ ht0)),rfl,_,_,rfl,_,_,rfl,rfl,ifS ?_⟩
     walk_at "rs"
     refine z2a (ds:=[patD r0.2]) (Qd:=fun _ d _=>d=.str (strC (txt r0.2))) (Reps.one (Rep.mono sF5 _ _ rz2)) ⟨r0.2,rfl,by omega,by omega,okr.sg,rfl⟩ fun b d δ' v H6 s6 ed r6=>?_
     subst ed
     cases(show v=.str (strC (txt r0.2)) from r6)
     refine z2a (ds:=[patD r0.2]) (Qd:=fun _ d _=>d=.str (strC (txt r0.2))) (Reps.one (Rep.mono (sF5.trans s6) _ _ rz2)) ⟨r0.2,rfl,by omega,by omega,okr.sg,rfl⟩ fun b d δ' v H7 s7 ed r7=>?_
     subst ed
     cases(show v=.str (strC (txt r0.2)) from r7)
     refine⟨rfl,false,by simp,?_⟩
     rw[if_neg (by simp)]
     exact s5.trans (s6.trans s7)
    ·obtain⟨x8,x9,rfl,s5⟩:=h
     have sF5:=sF4.trans s5
     walk_at "rs"
     refine ifS ?_
     walk_at "rs"
     refine⟨_,sF5 _ _ h6,_,atI1,root,rules,ar,rfl,sF5 _ _ har,ro,fx,fun lr H6 nlr s6 hlr=>?_⟩
     have sF6:=sF5.trans s6
     refine⟨lr,rfl,_,hlr,_,sF6 _ _ h4,Nat.lt_of_le_of_lt (Nat.le_add_right _ 100) hu,.inr ⟨rfl,⟨0,fun i x y e1 e2=>?_,Nat.lt_of_le_of_lt (by omega) hu⟩,ifS ?_⟩⟩
     ·rw[e1]at e2
      cases e2
      rw[List.getElem?_map]at e1
      obtain⟨z,_,rfl⟩:=Option.map_eq_some_iff.mp e1
      exact .str _
     walk_at "rs"
     refine⟨by omega,fun z hz=>?_⟩
     have s7:Same H6 (upd H6 z (.lst [])):=Same.of_new hz
     have hz1:upd H6 z (.lst []) z=some (.lst []):=z0g
     generalize upd H6 z (.lst [])=H7 at s7 hz1
     have sF7:=sF6.trans s7
     have s17:Same H1 H7:=s4.trans (s5.trans (s6.trans s7))
     cases hd:z2i root rules with
     |some o =>
      obtain⟨c,nm⟩:=o
      rw[hd]at h4
      refine⟨_,sF7 _ _ h4,Nat.lt_of_le_of_lt (Nat.le_add_right _ 100) hu,.inl ⟨by simp[dueS],s1.trans s17⟩⟩
     |none =>
      rw[hd]at h4
      refine⟨_,sF7 _ _ h4,Nat.lt_of_le_of_lt (Nat.le_add_right _ 100) hu,.inr ⟨rfl,⟨0,fun i x y e1 e2=>by simp at e2,Nat.lt_of_le_of_lt (by omega) hu⟩,?_⟩⟩
      refine⟨_,sF7 _ _ h6,_,atI1,root,rules,ar,rfl,sF7 _ _ har,ro,fx.g hd,fun t0 H8 s8 fat=>ifS ?_⟩
      walk_at "rs"
      have o1:=y4p rules fun r hr=>Nat.le_trans (fx.pat r hr).1 (by omega)
      obtain⟨g1,g2⟩:=y0p rules fun r hr=>(fx.pat r hr).2
      refine z2a (ds:=[z3g root rules,z3g root rules]) (Qd:=fun b d _=>d=.bl true) ⟨_,_,rfl,fat.rep,_,_,rfl,Rep.mono (sF7.trans s8) _ _ rf1,rfl⟩ ⟨_,rfl,by rw[z3n];simp only[dep,depL];omega,by rw[z3n];simp[okA,okAL,o1];omega,rfl⟩ fun b d δ' v H9 s9 ed r9=>?_
      subst ed
      cases(show v=.bl true from r9)
      refine⟨true,rfl,?_⟩
      rw[if_neg (by simp)]
      obtain⟨a',us',F2,y1,y2,y3,y4,y5,y6⟩:=fat
      have l6:=y6.len
      simp at l6
      refine⟨_,s9 _ _ y2,_,atI1,a',rfl,⟨_,s9 _ _ y3⟩,by omega,fun p1 hp1=>⟨by omega,fun p2 n2 hp2=>?_⟩⟩
      have ha9:=s9 _ _ y3
      have s19:Same H H9:=s1.trans (s17.trans (s8.trans s9))
      refine⟨us',by rw[z0i (z0n ha9 hp2),z0i (z0n ha9 hp1)];exact ha9,by omega,?_⟩
      exact((s19.upd (s19.free hp1)).upd (s19.free hp2)).upd ((s1.trans s17).free y1)
   ·rintro σ H1 ⟨x3,x7,x8,x9,x10,rfl,s1⟩
    have J1:=J.back0 (Same.refl _) s1 (J.sub.trans s1) fun b o e1 e2=>by rw[e1]at e2;cases e2
    exact st io H0 F0 _ _ _ H1 E Ed (EI.junk (i:=10) (o:=x10) (EI.junk (i:=9) (o:=x9) (EI.junk (i:=8) (o:=x8) (EI.junk (i:=7) (o:=x7) (EI.junk (i:=3) (o:=x3) J1 rfl) rfl) rfl) rfl) rfl) q (S.mono sJ)
  have sz:=z0x
  walk_at "vd"
  refine⟨ns,0,rfl,?_⟩
  walk_at "vd"
  refine⟨_,rfl,fun m h1 h2=>⟨rfl,ns,2,m,rfl,by omega,h1,h2,fun root0 rules0 ok0=>?_⟩⟩
  walk_at "vd"
  refine⟨ns,300,4,rfl,by omega,by omega,fun ms hms=>?_⟩
  have aI:∀i:Int,0≤i→i<4→∃x:Int,atI (ms.map D.int) i=some (.int x):=fun i h0 h1=>by
   obtain⟨d,hd,e⟩:=z8y (xs:=ms.map D.int) (i:=i) h0 (by simp;omega)
   obtain⟨x,_,rfl⟩:=List.mem_map.mp hd
   exact⟨x,e⟩
  walk_at "vd"
  obtain⟨x0,e0⟩:=aI 0 (by decide) (by decide)
  refine⟨_,e0,?_⟩
  walk_at "vd"
  have b5:=z2k (a:=x0) (b:=3) (by decide)
  have b6:=z2l (a:=x0) (b:=3) (by decide)
  generalize x0 % 3=mm at b5 b6
  obtain⟨mm,rfl⟩:=Int.eq_ofNat_of_zero_le b5
  refine⟨by decide,by omega,by omega,?_⟩
  rw[Int.toNat_natCast]
  refine x3n [3] (fun i δ=>∃(root:Str) (rules:List (Str×Pat)),FormB i root rules∧i≤2∧δ=[.sc K ns,.fz (z3g root rules),.ob false (.lst (ms.map .int)),.no,.no,.no,.no,.no,.no,.no,.no]) ⟨root0,rules0,ok0.b,by omega,rfl⟩ ?_ ?_
  ·rintro i δ hi ⟨root,rules,fb,hi2,rfl⟩
   obtain⟨x3,e3⟩:=aI (1+(i:Int)) (by omega) (by omega)
   walk_at "vd"
   refine⟨_,e3,i,root,rules,x3,rfl,fb,by omega,fun r2 rs2 fb2=>?_⟩
   walk_at "vd"
   exact⟨r2,rs2,fb2,by omega,rfl⟩
  ·rintro δ ⟨root,rules,fb,hi2,rfl⟩
   have fx:=fb.x (by omega)
   have fw:=fb.w (by omega)
   have hln:=fw.len
   walk_at "vd"
   refine⟨root,rules,rfl,fx,?_⟩
   walk_at "vd"
   refine⟨root,rules,rfl,fw,?_⟩
   walk_at "vd"
   refine⟨root,rules,rfl,fx,?_⟩
   walk_at "vd"
   refine⟨by omega,K,ns,root,rules,_,_,true,false,rfl,(by omega:mm≤4),fb,?_⟩
   simp only[z3n]
   walk_at "vd"
   obtain⟨g1,g2⟩:=y0p rules fun r hr=>(fx.pat r hr).2
   obtain⟨g3,g4⟩:=y9h (z3i root rules)
   refine⟨by omega,_,_,rfl,rfl,.inr ⟨rfl,?_,?_,q⟩⟩
   ·simp[eqbL,eqb,g1,g3]
   ·simp only[depL,dep];omega
end
open PySem L2 VL PyProof.Rows
@[elab_as_elim] theorem lnS {α:Type _}{P:List α→Prop}{n:Nat}(us:List α) (h:us.length=n+1) (k:∀a r,r.length=n→P (a::r)):P us:=by
 cases us with
 |nil=>cases h
 |cons a r=>exact k a r (Nat.succ.inj h)
@[elab_as_elim] theorem ln0 {α:Type _}{P:List α→Prop}(us:List α) (h:us.length=0) (k:P []):P us:=by
 cases us with
 |nil=>exact k
 |cons a r=>cases h
@[elab_as_elim] theorem ln1 {α:Type _}{P:List α→Prop}(us:List α) (h:us.length=1) (k:∀a,P [a]):P us :=
 lnS us h fun a r h=>ln0 (P:=fun r=>P (a::r)) r h (k a)
@[elab_as_elim] theorem ln2 {α:Type _}{P:List α→Prop}(us:List α) (h:us.length=2) (k:∀a b,P [a,b]):P us :=
 lnS us h fun a r h=>ln1 (P:=fun r=>P (a::r)) r h (k a)
@[elab_as_elim] theorem ln3 {α:Type _}{P:List α→Prop}(us:List α) (h:us.length=3) (k:∀a b c,P [a,b,c]):P us :=
 lnS us h fun a r h=>ln2 (P:=fun r=>P (a::r)) r h (k a)
@[elab_as_elim] theorem ln4 {α:Type _}{P:List α→Prop}(us:List α) (h:us.length=4) (k:∀a b c d,P [a,b,c,d]):P us :=
 lnS us h fun a r h=>ln3 (P:=fun r=>P (a::r)) r h (k a)
@[elab_as_elim] theorem ln5 {α:Type _}{P:List α→Prop}(us:List α) (h:us.length=5) (k:∀a b c d e,P [a,b,c,d,e]):P us :=
 lnS us h fun a r h=>ln4 (P:=fun r=>P (a::r)) r h (k a)
def x2s (K:PySem.W.Frag)(C:Addr):Option Addr:=match K.lookup C with
 |some ⟨_,_,.cls k,_⟩=>(match PySem.W.nsIn K k.ns "__init__" with|some (some (.ref f))=>some f|_=>none)
 |_=>none
theorem xr_mk {K:PySem.W.Frag}{h:Heap}{mg:Str→Option Value}{CF CT CN CS Ct Cp Ck fT fN fS:Addr}{od_Twice an_Twice:Option Addr}{sl_Twice:Array (Option Value)}{kV_Twice dc_Twice pm_Twice cd_Twice ct_Twice:Value}{od_NoName an_NoName:Option Addr}{sl_NoName:Array (Option Value)}{kV_NoName dc_NoName pm_NoName cd_NoName ct_NoName:Value}{od_Stars an_Stars:Option Addr}{sl_Stars:Array (Option Value)}{kV_Stars dc_Stars pm_Stars cd_Stars ct_Stars:Value}(X:K.In h)(G:h.Ns mainGlobals mg)
  (z_ValueError:PySem.W.nsIn K mainGlobals "ValueError" = some none)
  (g_FerryError:PySem.W.nsIn K mainGlobals "FerryError" = some (some (.ref CF)))
  (g_Twice:PySem.W.nsIn K mainGlobals "Twice" = some (some (.ref CT)))
  (g_NoName:PySem.W.nsIn K mainGlobals "NoName" = some (some (.ref CN)))
  (g_Stars:PySem.W.nsIn K mainGlobals "Stars" = some (some (.ref CS)))
  (g_NoText:PySem.W.nsIn K mainGlobals "NoText" = some (some (.ref Ct)))
  (g_NoPort:PySem.W.nsIn K mainGlobals "NoPort" = some (some (.ref Cp)))
  (g_Taken:PySem.W.nsIn K mainGlobals "Taken" = some (some (.ref Ck)))
  (q_FerryError:fxIn K CF=true)
  (u_Twice:x2s K CT=some fT)
  (x_Twice:xcIn K CT (.ref CF::mroV) fT=true)(l_Twice:K.lookup fT=some ⟨.type "function",od_Twice,.func (PySem.W.fnOf "__init__" "Twice.__init__" (z0s i_Twice) (z0p i_Twice) (z0b i_Twice) .none kV_Twice dc_Twice pm_Twice an_Twice cd_Twice ct_Twice),sl_Twice⟩)(c_Twice:PySem.W.codeIn K cd_Twice "Twice.__init__" = true)(k_Twice:PySem.W.keepIn K (.ref fT)=true)(kc_Twice:PySem.W.keepIn K (.ref CT)=true)
  (u_NoName:x2s K CN=some fN)
  (x_NoName:xcIn K CN (.ref CF::mroV) fN=true)(l_NoName:K.lookup fN=some ⟨.type "function",od_NoName,.func (PySem.W.fnOf "__init__" "NoName.__init__" (z0s i_NoName) (z0p i_NoName) (z0b i_NoName) .none kV_NoName dc_NoName pm_NoName an_NoName cd_NoName ct_NoName),sl_NoName⟩)(c_NoName:PySem.W.codeIn K cd_NoName "NoName.__init__" = true)(k_NoName:PySem.W.keepIn K (.ref fN)=true)(kc_NoName:PySem.W.keepIn K (.ref CN)=true)
  (u_Stars:x2s K CS=some fS)
  (x_Stars:xcIn K CS (.ref CF::mroV) fS=true)(l_Stars:K.lookup fS=some ⟨.type "function",od_Stars,.func (PySem.W.fnOf "__init__" "Stars.__init__" (z0s i_Stars) (z0p i_Stars) (z0b i_Stars) .none kV_Stars dc_Stars pm_Stars an_Stars cd_Stars ct_Stars),sl_Stars⟩)(c_Stars:PySem.W.codeIn K cd_Stars "Stars.__init__" = true)(k_Stars:PySem.W.keepIn K (.ref fS)=true)(kc_Stars:PySem.W.keepIn K (.ref CS)=true)
  (n_Twice:∀t:Option Kd,PySem.W.kitOne K (tyK CT CN CS t) (.ref CT)=some (isK t .tw))
  (n_NoName:∀t:Option Kd,PySem.W.kitOne K (tyK CT CN CS t) (.ref CN)=some (isK t .nn))
  (n_Stars:∀t:Option Kd,PySem.W.kitOne K (tyK CT CN CS t) (.ref CS)=some (isK t .st))
  (n_NoText:∀t:Option Kd,PySem.W.kitOne K (tyK CT CN CS t) (.ref Ct)=some (false))
  (n_NoPort:∀t:Option Kd,PySem.W.kitOne K (tyK CT CN CS t) (.ref Cp)=some (false))
  (n_Taken:∀t:Option Kd,PySem.W.kitOne K (tyK CT CN CS t) (.ref Ck)=some (false))
  (n_ValueError:∀t:Option Kd,PySem.W.kitOne K (tyK CT CN CS t) (.type "ValueError")=some (t.isSome))
  : ∃CF CT CN CS Ct Cp Ck,XR K mg CF CT CN CS Ct Cp Ck:=by
 exact⟨_,_,_,_,_,_,_,PySem.W.mg_none_of X G z_ValueError,PySem.W.mg_of X G g_FerryError,q_FerryError,PySem.W.mg_of X G g_Twice,PySem.W.mg_of X G g_NoName,PySem.W.mg_of X G g_Stars,PySem.W.mg_of X G g_NoText,PySem.W.mg_of X G g_NoPort,PySem.W.mg_of X G g_Taken,⟨_,_,_,_,x_Twice,y5h (st:=i_Twice) l_Twice c_Twice k_Twice,.all fun us hl=>ln2 us hl fun _ _=>rfl,l_Twice⟩,⟨_,_,_,_,x_NoName,y5h (st:=i_NoName) l_NoName c_NoName k_NoName,.all fun us hl=>ln2 us hl fun _ _=>rfl,l_NoName⟩,⟨_,_,_,_,x_Stars,y5h (st:=i_Stars) l_Stars c_Stars k_Stars,.all fun us hl=>ln2 us hl fun _ _=>rfl,l_Stars⟩,kc_Twice,kc_NoName,kc_Stars,n_Twice,n_NoName,n_Stars,n_NoText,n_NoPort,n_Taken,n_ValueError⟩
theorem nsIn3 {K:PySem.W.Frag}{a:Addr}{n:Nat}{h1 h2 h3:Int}{t1 t2 t3 u1 u2 u3:Tok}{k1 k2 k3 v1 v2 v3:Str}{es:Array DictEntry}(hl:K.lookup a=some ⟨.type "dict",none,.dict es n,#[]⟩)(he:es.toList=[⟨h1,.str k1 t1,.str v1 u1⟩,⟨h2,.str k2 t2,.str v2 u2⟩,⟨h3,.str k3 t3,.str v3 u3⟩])(x:Str) :
  PySem.W.nsIn K a x=some (if x=k1 then some (.str v1 u1) else if x=k2 then some (.str v2 u2) else if x=k3 then some (.str v3 u3) else none):=by
 have q:∀(y:Str) (t:Tok),(Value.str y t).isStr x=decide (x=y):=fun y t=>by
  show(y == x)=decide (x=y)
  by_cases h:x=y
  ·subst h;simp
  ·rw[decide_eq_false h]
   exact beq_false_of_ne fun z=>h z.symm
 unfold PySem.W.nsIn
 rw[hl]
 dsimp only
 rw[he]
 simp only[List.find?_cons,List.find?_nil,q]
 by_cases c1:x=k1
 ·rw[if_pos c1,decide_eq_true c1]
 ·rw[if_neg c1,decide_eq_false c1]
  by_cases c2:x=k2
  ·rw[if_pos c2,decide_eq_true c2]
  ·rw[if_neg c2,decide_eq_false c2]
   by_cases c3:x=k3
   ·rw[if_pos c3,decide_eq_true c3]
   ·rw[if_neg c3,decide_eq_false c3];rfl
theorem gdict3 {K:PySem.W.Frag}{w:World}{a:Addr}{n:Nat}{h1 h2 h3:Int}{t1 t2 t3 u1 u2 u3:Tok}{k1 k2 k3 v1 v2 v3:Str}{es:Array DictEntry}{g:Str→Option Str}(ha:(a == sysModules)=false)(hl:K.lookup a=some ⟨.type "dict",none,.dict es n,#[]⟩)(he:es.toList=[⟨h1,.str k1 t1,.str v1 u1⟩,⟨h2,.str k2 t2,.str v2 u2⟩,⟨h3,.str k3 t3,.str v3 u3⟩])(hk:PySem.W.KeysLit w.params es.toList)
  (hg:∀x,g x=if x=k1 then some v1 else if x=k2 then some v2 else if x=k3 then some v3 else none):L2.y9z K w a g:=by
 refine⟨ha,es,n,hl,hk,fun x=>?_⟩
 rw[nsIn3 hl he x,hg x]
 by_cases c1:x=k1
 ·rw[if_pos c1,if_pos c1];exact⟨fun v e=>by cases e;exact⟨_,rfl⟩,fun e=>by cases e⟩
 ·rw[if_neg c1,if_neg c1]
  by_cases c2:x=k2
  ·rw[if_pos c2,if_pos c2];exact⟨fun v e=>by cases e;exact⟨_,rfl⟩,fun e=>by cases e⟩
  ·rw[if_neg c2,if_neg c2]
   by_cases c3:x=k3
   ·rw[if_pos c3,if_pos c3];exact⟨fun v e=>by cases e;exact⟨_,rfl⟩,fun e=>by cases e⟩
   ·rw[if_neg c3,if_neg c3];exact⟨(fun v e=>by cases e),fun _=>rfl⟩
theorem gds_mk {K:PySem.W.Frag}{h:Heap}{w:World}{mg:Str→Option Value}{aM aK:Addr}{nM nK:Nat}{eM eK:Array DictEntry}{tN tQ:Tok}{h1 h2 h3:Int}{t1 t2 t3 u1 u2 u3:Tok}{i1 i2 i3:Int}{s1 s2 s3 r1 r2 r3:Tok}(X:K.In h)(G:h.Ns mainGlobals mg)
  (g_NOTHING:PySem.W.nsIn K mainGlobals "NOTHING" = some (some (.str "-" tN)))(g_QUOTE:PySem.W.nsIn K mainGlobals "QUOTE" = some (some (.str "\"" tQ)))(g_MARKS:PySem.W.nsIn K mainGlobals "MARKS" = some (some (.ref aM)))(g_KINDS:PySem.W.nsIn K mainGlobals "KINDS" = some (some (.ref aK)))
  (l_MARKS:K.lookup aM=some ⟨.type "dict",none,.dict eM nM,#[]⟩)(l_KINDS:K.lookup aK=some ⟨.type "dict",none,.dict eK nK,#[]⟩)
  (e_MARKS:eM.toList=[⟨h1,.str "maybe" t1,.str "?" u1⟩,⟨h2,.str "many" t2,.str "*" u2⟩,⟨h3,.str "some" t3,.str "+" u3⟩])(e_KINDS:eK.toList=[⟨i1,.str "?" s1,.str "maybe" r1⟩,⟨i2,.str "*" s2,.str "many" r2⟩,⟨i3,.str "+" s3,.str "some" r3⟩])
  (k_MARKS:PySem.W.KeysLit w.params eM.toList)(k_KINDS:PySem.W.KeysLit w.params eK.toList)(o_MARKS:(aM == sysModules)=false)(o_KINDS:(aK == sysModules)=false):∃aM aK,Gds K mg w aM aK :=
 ⟨aM,aK,⟨tN,PySem.W.mg_of X G g_NOTHING⟩,⟨tQ,PySem.W.mg_of X G g_QUOTE⟩,PySem.W.mg_of X G g_MARKS,PySem.W.mg_of X G g_KINDS,gdict3 o_MARKS l_MARKS e_MARKS k_MARKS fun _=>rfl,gdict3 o_KINDS l_KINDS e_KINDS k_KINDS fun _=>rfl⟩
set_option maxHeartbeats 0 in
theorem all_mk {w:World}{K:PySem.W.Frag}{h:Heap}{mg:Str→Option Value}{tk_TEXT_SIGN:Tok}(X:K.In h)(G:h.Ns mainGlobals mg){f1 f2 f3 f4 f5 f6 f7 f8 f9 f10 f11 f12 f13 f14 f15 f16 f17 f18 f19 f20 f21 f22 f23 f24 f25 f26 f27 f28 f29 f30 f31 f32 f33 f34 f35 f36 f37 f38 f39 f40 f41 f42:Addr}{od1 an1 od2 an2 od3 an3 od4 an4 od5 an5 od6 an6 od7 an7 od8 an8 od9 an9 od10 an10 od11 an11 od12 an12 od13 an13 od14 an14 od15 an15 od16 an16 od17 an17 od18 an18 od19 an19 od20 an20 od21 an21 od22 an22 od23 an23 od24 an24 od25 an25 od26 an26 od27 an27 od28 an28 od29 an29 od30 an30 od31 an31 od32 an32 od33 an33 od34 an34 od35 an35 od36 an36 od37 an37 od38 an38 od39 an39 od40 an40 od41 an41 od42 an42:Option Addr}{sl1 sl2 sl3 sl4 sl5 sl6 sl7 sl8 sl9 sl10 sl11 sl12 sl13 sl14 sl15 sl16 sl17 sl18 sl19 sl20 sl21 sl22 sl23 sl24 sl25 sl26 sl27 sl28 sl29 sl30 sl31 sl32 sl33 sl34 sl35 sl36 sl37 sl38 sl39 sl40 sl41 sl42:Array (Option Value)}{oc1 kV1 dc1 pm1 cd1 ct1 oc2 kV2 dc2 pm2 cd2 ct2 oc3 kV3 dc3 pm3 cd3 ct3 oc4 kV4 dc4 pm4 cd4 ct4 oc5 kV5 dc5 pm5 cd5 ct5 oc6 kV6 dc6 pm6 cd6 ct6 oc7 kV7 dc7 pm7 cd7 ct7 oc8 kV8 dc8 pm8 cd8 ct8 oc9 kV9 dc9 pm9 cd9 ct9 oc10 kV10 dc10 pm10 cd10 ct10 oc11 kV11 dc11 pm11 cd11 ct11 oc12 kV12 dc12 pm12 cd12 ct12 oc13 kV13 dc13 pm13 cd13 ct13 oc14 kV14 dc14 pm14 cd14 ct14 oc15 kV15 dc15 pm15 cd15 ct15 oc16 kV16 dc16 pm16 cd16 ct16 oc17 kV17 dc17 pm17 cd17 ct17 oc18 kV18 dc18 pm18 cd18 ct18 oc19 kV19 dc19 pm19 cd19 ct19 oc20 kV20 dc20 pm20 cd20 ct20 oc21 kV21 dc21 pm21 cd21 ct21 oc22 kV22 dc22 pm22 cd22 ct22 oc23 kV23 dc23 pm23 cd23 ct23 oc24 kV24 dc24 pm24 cd24 ct24 oc25 kV25 dc25 pm25 cd25 ct25 oc26 kV26 dc26 pm26 cd26 ct26 oc27 kV27 dc27 pm27 cd27 ct27 oc28 kV28 dc28 pm28 cd28 ct28 oc29 kV29 dc29 pm29 cd29 ct29 oc30 kV30 dc30 pm30 cd30 ct30 oc31 kV31 dc31 pm31 cd31 ct31 oc32 kV32 dc32 pm32 cd32 ct32 oc33 kV33 dc33 pm33 cd33 ct33 oc34 kV34 dc34 pm34 cd34 ct34 oc35 kV35 dc35 pm35 cd35 ct35 oc36 kV36 dc36 pm36 cd36 ct36 oc37 kV37 dc37 pm37 cd37 ct37 oc38 kV38 dc38 pm38 cd38 ct38 oc39 kV39 dc39 pm39 cd39 ct39 oc40 kV40 dc40 pm40 cd40 ct40 oc41 kV41 dc41 pm41 cd41 ct41 oc42 kV42 dc42 pm42 cd42 ct42:Value}
  (a1:PySem.W.nsIn K mainGlobals "patterns_within" = some (some (.ref f1)))(l1:K.lookup f1=some ⟨oc1,od1,.func (PySem.W.fnOf "patterns_within" "patterns_within" (z0s u0g) (z0p u0g) (z0b u0g) .none kV1 dc1 pm1 an1 cd1 ct1),sl1⟩)(c1:PySem.W.codeIn K cd1 "patterns_within" = true)(k1:PySem.W.keepIn K (.ref f1)=true)
  (a2:PySem.W.nsIn K mainGlobals "signs" = some (some (.ref f2)))(l2:K.lookup f2=some ⟨oc2,od2,.func (PySem.W.fnOf "signs" "signs" (z0s u3q) (z0p u3q) (z0b u3q) .none kV2 dc2 pm2 an2 cd2 ct2),sl2⟩)(c2:PySem.W.codeIn K cd2 "signs" = true)(k2:PySem.W.keepIn K (.ref f2)=true)
  (a3:PySem.W.nsIn K mainGlobals "look_twice" = some (some (.ref f3)))(l3:K.lookup f3=some ⟨oc3,od3,.func (PySem.W.fnOf "look_twice" "look_twice" (z0s u1p) (z0p u1p) (z0b u1p) .none kV3 dc3 pm3 an3 cd3 ct3),sl3⟩)(c3:PySem.W.codeIn K cd3 "look_twice" = true)(k3:PySem.W.keepIn K (.ref f3)=true)
  (a4:PySem.W.nsIn K mainGlobals "look_names" = some (some (.ref f4)))(l4:K.lookup f4=some ⟨oc4,od4,.func (PySem.W.fnOf "look_names" "look_names" (z0s u1q) (z0p u1q) (z0b u1q) .none kV4 dc4 pm4 an4 cd4 ct4),sl4⟩)(c4:PySem.W.codeIn K cd4 "look_names" = true)(k4:PySem.W.keepIn K (.ref f4)=true)
  (a5:PySem.W.nsIn K mainGlobals "look" = some (some (.ref f5)))(l5:K.lookup f5=some ⟨oc5,od5,.func (PySem.W.fnOf "look" "look" (z0s u4p) (z0p u4p) (z0b u4p) .none kV5 dc5 pm5 an5 cd5 ct5),sl5⟩)(c5:PySem.W.codeIn K cd5 "look" = true)(k5:PySem.W.keepIn K (.ref f5)=true)
  (a6:PySem.W.nsIn K mainGlobals "is_letter" = some (some (.ref f6)))(l6:K.lookup f6=some ⟨oc6,od6,.func (PySem.W.fnOf "is_letter" "is_letter" (z0s u0w) (z0p u0w) (z0b u0w) .none kV6 dc6 pm6 an6 cd6 ct6),sl6⟩)(c6:PySem.W.codeIn K cd6 "is_letter" = true)(k6:PySem.W.keepIn K (.ref f6)=true)
  (a7:PySem.W.nsIn K mainGlobals "is_name" = some (some (.ref f7)))(l7:K.lookup f7=some ⟨oc7,od7,.func (PySem.W.fnOf "is_name" "is_name" (z0s u2g) (z0p u2g) (z0b u2g) .none kV7 dc7 pm7 an7 cd7 ct7),sl7⟩)(c7:PySem.W.codeIn K cd7 "is_name" = true)(k7:PySem.W.keepIn K (.ref f7)=true)
  (a8:PySem.W.nsIn K mainGlobals "token_end" = some (some (.ref f8)))(l8:K.lookup f8=some ⟨oc8,od8,.func (PySem.W.fnOf "token_end" "token_end" (z0s u2k) (z0p u2k) (z0b u2k) .none kV8 dc8 pm8 an8 cd8 ct8),sl8⟩)(c8:PySem.W.codeIn K cd8 "token_end" = true)(k8:PySem.W.keepIn K (.ref f8)=true)
  (a9:PySem.W.nsIn K mainGlobals "tokens_of" = some (some (.ref f9)))(l9:K.lookup f9=some ⟨oc9,od9,.func (PySem.W.fnOf "tokens_of" "tokens_of" (z0s u2l) (z0p u2l) (z0b u2l) .none kV9 dc9 pm9 an9 cd9 ct9),sl9⟩)(c9:PySem.W.codeIn K cd9 "tokens_of" = true)(k9:PySem.W.keepIn K (.ref f9)=true)
  (a10:PySem.W.nsIn K mainGlobals "gathered" = some (some (.ref f10)))(l10:K.lookup f10=some ⟨oc10,od10,.func (PySem.W.fnOf "gathered" "gathered" (z0s u2h) (z0p u2h) (z0b u2h) .none kV10 dc10 pm10 an10 cd10 ct10),sl10⟩)(c10:PySem.W.codeIn K cd10 "gathered" = true)(k10:PySem.W.keepIn K (.ref f10)=true)
  (a11:PySem.W.nsIn K mainGlobals "folded" = some (some (.ref f11)))(l11:K.lookup f11=some ⟨oc11,od11,.func (PySem.W.fnOf "folded" "folded" (z0s u3n) (z0p u3n) (z0b u3n) .none kV11 dc11 pm11 an11 cd11 ct11),sl11⟩)(c11:PySem.W.codeIn K cd11 "folded" = true)(k11:PySem.W.keepIn K (.ref f11)=true)
  (a12:PySem.W.nsIn K mainGlobals "close_bracket" = some (some (.ref f12)))(l12:K.lookup f12=some ⟨oc12,od12,.func (PySem.W.fnOf "close_bracket" "close_bracket" (z0s u1c) (z0p u1c) (z0b u1c) .none kV12 dc12 pm12 an12 cd12 ct12),sl12⟩)(c12:PySem.W.codeIn K cd12 "close_bracket" = true)(k12:PySem.W.keepIn K (.ref f12)=true)
  (a13:PySem.W.nsIn K mainGlobals "lay_pattern" = some (some (.ref f13)))(l13:K.lookup f13=some ⟨oc13,od13,.func (PySem.W.fnOf "lay_pattern" "lay_pattern" (z0s u1u) (z0p u1u) (z0b u1u) .none kV13 dc13 pm13 an13 cd13 ct13),sl13⟩)(c13:PySem.W.codeIn K cd13 "lay_pattern" = true)(k13:PySem.W.keepIn K (.ref f13)=true)
  (a14:PySem.W.nsIn K mainGlobals "scanned_pattern" = some (some (.ref f14)))(l14:K.lookup f14=some ⟨oc14,od14,.func (PySem.W.fnOf "scanned_pattern" "scanned_pattern" (z0s u0y) (z0p u0y) (z0b u0y) .none kV14 dc14 pm14 an14 cd14 ct14),sl14⟩)(c14:PySem.W.codeIn K cd14 "scanned_pattern" = true)(k14:PySem.W.keepIn K (.ref f14)=true)
  (a15:PySem.W.nsIn K mainGlobals "held" = some (some (.ref f15)))(l15:K.lookup f15=some ⟨oc15,od15,.func (PySem.W.fnOf "held" "held" (z0s u4q) (z0p u4q) (z0b u4q) .none kV15 dc15 pm15 an15 cd15 ct15),sl15⟩)(c15:PySem.W.codeIn K cd15 "held" = true)(k15:PySem.W.keepIn K (.ref f15)=true)
  (a16:PySem.W.nsIn K mainGlobals "show_pattern" = some (some (.ref f16)))(l16:K.lookup f16=some ⟨oc16,od16,.func (PySem.W.fnOf "show_pattern" "show_pattern" (z0s u0t) (z0p u0t) (z0b u0t) .none kV16 dc16 pm16 an16 cd16 ct16),sl16⟩)(c16:PySem.W.codeIn K cd16 "show_pattern" = true)(k16:PySem.W.keepIn K (.ref f16)=true)
  (a17:PySem.W.nsIn K mainGlobals "show_form" = some (some (.ref f17)))(l17:K.lookup f17=some ⟨oc17,od17,.func (PySem.W.fnOf "show_form" "show_form" (z0s u2s) (z0p u2s) (z0b u2s) .none kV17 dc17 pm17 an17 cd17 ct17),sl17⟩)(c17:PySem.W.codeIn K cd17 "show_form" = true)(k17:PySem.W.keepIn K (.ref f17)=true)
  (a18:PySem.W.nsIn K mainGlobals "read_pattern" = some (some (.ref f18)))(l18:K.lookup f18=some ⟨oc18,od18,.func (PySem.W.fnOf "read_pattern" "read_pattern" (z0s u1b) (z0p u1b) (z0b u1b) .none kV18 dc18 pm18 an18 cd18 ct18),sl18⟩)(c18:PySem.W.codeIn K cd18 "read_pattern" = true)(k18:PySem.W.keepIn K (.ref f18)=true)
  (a19:PySem.W.nsIn K mainGlobals "read_rule" = some (some (.ref f19)))(l19:K.lookup f19=some ⟨oc19,od19,.func (PySem.W.fnOf "read_rule" "read_rule" (z0s u2t) (z0p u2t) (z0b u2t) .none kV19 dc19 pm19 an19 cd19 ct19),sl19⟩)(c19:PySem.W.codeIn K cd19 "read_rule" = true)(k19:PySem.W.keepIn K (.ref f19)=true)
  (a20:PySem.W.nsIn K mainGlobals "read_rules" = some (some (.ref f20)))(l20:K.lookup f20=some ⟨oc20,od20,.func (PySem.W.fnOf "read_rules" "read_rules" (z0s u1v) (z0p u1v) (z0b u1v) .none kV20 dc20 pm20 an20 cd20 ct20),sl20⟩)(c20:PySem.W.codeIn K cd20 "read_rules" = true)(k20:PySem.W.keepIn K (.ref f20)=true)
  (a21:PySem.W.nsIn K mainGlobals "read_form" = some (some (.ref f21)))(l21:K.lookup f21=some ⟨oc21,od21,.func (PySem.W.fnOf "read_form" "read_form" (z0s u2m) (z0p u2m) (z0b u2m) .none kV21 dc21 pm21 an21 cd21 ct21),sl21⟩)(c21:PySem.W.codeIn K cd21 "read_form" = true)(k21:PySem.W.keepIn K (.ref f21)=true)
  (a22:PySem.W.nsIn K mainGlobals "_law_cell_at" = some (some (.ref f22)))(l22:K.lookup f22=some ⟨oc22,od22,.func (PySem.W.fnOf "_law_cell_at" "_law_cell_at" (z0s u2b) (z0p u2b) (z0b u2b) .none kV22 dc22 pm22 an22 cd22 ct22),sl22⟩)(c22:PySem.W.codeIn K cd22 "_law_cell_at" = true)(k22:PySem.W.keepIn K (.ref f22)=true)
  (a23:PySem.W.nsIn K mainGlobals "_law_draws" = some (some (.ref f23)))(l23:K.lookup f23=some ⟨oc23,od23,.func (PySem.W.fnOf "_law_draws" "_law_draws" (z0s u1w) (z0p u1w) (z0b u1w) .none kV23 dc23 pm23 an23 cd23 ct23),sl23⟩)(c23:PySem.W.codeIn K cd23 "_law_draws" = true)(k23:PySem.W.keepIn K (.ref f23)=true)
  (a24:PySem.W.nsIn K mainGlobals "_law_pop" = some (some (.ref f24)))(l24:K.lookup f24=some ⟨oc24,od24,.func (PySem.W.fnOf "_law_pop" "_law_pop" (z0s u3a) (z0p u3a) (z0b u3a) .none kV24 dc24 pm24 an24 cd24 ct24),sl24⟩)(c24:PySem.W.codeIn K cd24 "_law_pop" = true)(k24:PySem.W.keepIn K (.ref f24)=true)
  (a25:PySem.W.nsIn K mainGlobals "_law_alike" = some (some (.ref f25)))(l25:K.lookup f25=some ⟨oc25,od25,.func (PySem.W.fnOf "_law_alike" "_law_alike" (z0s u2u) (z0p u2u) (z0b u2u) .none kV25 dc25 pm25 an25 cd25 ct25),sl25⟩)(c25:PySem.W.codeIn K cd25 "_law_alike" = true)(k25:PySem.W.keepIn K (.ref f25)=true)
  (a26:PySem.W.nsIn K mainGlobals "_law_name" = some (some (.ref f26)))(l26:K.lookup f26=some ⟨oc26,od26,.func (PySem.W.fnOf "_law_name" "_law_name" (z0s u2n) (z0p u2n) (z0b u2n) .none kV26 dc26 pm26 an26 cd26 ct26),sl26⟩)(c26:PySem.W.codeIn K cd26 "_law_name" = true)(k26:PySem.W.keepIn K (.ref f26)=true)
  (a27:PySem.W.nsIn K mainGlobals "_law_wrapped" = some (some (.ref f27)))(l27:K.lookup f27=some ⟨oc27,od27,.func (PySem.W.fnOf "_law_wrapped" "_law_wrapped" (z0s u1g) (z0p u1g) (z0b u1g) .none kV27 dc27 pm27 an27 cd27 ct27),sl27⟩)(c27:PySem.W.codeIn K cd27 "_law_wrapped" = true)(k27:PySem.W.keepIn K (.ref f27)=true)
  (a28:PySem.W.nsIn K mainGlobals "_law_pattern" = some (some (.ref f28)))(l28:K.lookup f28=some ⟨oc28,od28,.func (PySem.W.fnOf "_law_pattern" "_law_pattern" (z0s u1h) (z0p u1h) (z0b u1h) .none kV28 dc28 pm28 an28 cd28 ct28),sl28⟩)(c28:PySem.W.codeIn K cd28 "_law_pattern" = true)(k28:PySem.W.keepIn K (.ref f28)=true)
  (a29:PySem.W.nsIn K mainGlobals "_law_signs" = some (some (.ref f29)))(l29:K.lookup f29=some ⟨oc29,od29,.func (PySem.W.fnOf "_law_signs" "_law_signs" (z0s u1x) (z0p u1x) (z0b u1x) .none kV29 dc29 pm29 an29 cd29 ct29),sl29⟩)(c29:PySem.W.codeIn K cd29 "_law_signs" = true)(k29:PySem.W.keepIn K (.ref f29)=true)
  (a30:PySem.W.nsIn K mainGlobals "_law_form" = some (some (.ref f30)))(l30:K.lookup f30=some ⟨oc30,od30,.func (PySem.W.fnOf "_law_form" "_law_form" (z0s u2v) (z0p u2v) (z0b u2v) .none kV30 dc30 pm30 an30 cd30 ct30),sl30⟩)(c30:PySem.W.codeIn K cd30 "_law_form" = true)(k30:PySem.W.keepIn K (.ref f30)=true)
  (a31:PySem.W.nsIn K mainGlobals "_law_signs_of" = some (some (.ref f31)))(l31:K.lookup f31=some ⟨oc31,od31,.func (PySem.W.fnOf "_law_signs_of" "_law_signs_of" (z0s u1d) (z0p u1d) (z0b u1d) .none kV31 dc31 pm31 an31 cd31 ct31),sl31⟩)(c31:PySem.W.codeIn K cd31 "_law_signs_of" = true)(k31:PySem.W.keepIn K (.ref f31)=true)
  (a32:PySem.W.nsIn K mainGlobals "_law_copy_pattern" = some (some (.ref f32)))(l32:K.lookup f32=some ⟨oc32,od32,.func (PySem.W.fnOf "_law_copy_pattern" "_law_copy_pattern" (z0s u0q) (z0p u0q) (z0b u0q) .none kV32 dc32 pm32 an32 cd32 ct32),sl32⟩)(c32:PySem.W.codeIn K cd32 "_law_copy_pattern" = true)(k32:PySem.W.keepIn K (.ref f32)=true)
  (a33:PySem.W.nsIn K mainGlobals "_law_copy_form" = some (some (.ref f33)))(l33:K.lookup f33=some ⟨oc33,od33,.func (PySem.W.fnOf "_law_copy_form" "_law_copy_form" (z0s u1e) (z0p u1e) (z0b u1e) .none kV33 dc33 pm33 an33 cd33 ct33),sl33⟩)(c33:PySem.W.codeIn K cd33 "_law_copy_form" = true)(k33:PySem.W.keepIn K (.ref f33)=true)
  (a34:PySem.W.nsIn K mainGlobals "_law_due" = some (some (.ref f34)))(l34:K.lookup f34=some ⟨oc34,od34,.func (PySem.W.fnOf "_law_due" "_law_due" (z0s u3r) (z0p u3r) (z0b u3r) .none kV34 dc34 pm34 an34 cd34 ct34),sl34⟩)(c34:PySem.W.codeIn K cd34 "_law_due" = true)(k34:PySem.W.keepIn K (.ref f34)=true)
  (a35:PySem.W.nsIn K mainGlobals "_law_bent" = some (some (.ref f35)))(l35:K.lookup f35=some ⟨oc35,od35,.func (PySem.W.fnOf "_law_bent" "_law_bent" (z0s u3d) (z0p u3d) (z0b u3d) .none kV35 dc35 pm35 an35 cd35 ct35),sl35⟩)(c35:PySem.W.codeIn K cd35 "_law_bent" = true)(k35:PySem.W.keepIn K (.ref f35)=true)
  (a36:PySem.W.nsIn K mainGlobals "_law_many" = some (some (.ref f36)))(l36:K.lookup f36=some ⟨oc36,od36,.func (PySem.W.fnOf "_law_many" "_law_many" (z0s u3e) (z0p u3e) (z0b u3e) .none kV36 dc36 pm36 an36 cd36 ct36),sl36⟩)(c36:PySem.W.codeIn K cd36 "_law_many" = true)(k36:PySem.W.keepIn K (.ref f36)=true)
  (a37:PySem.W.nsIn K mainGlobals "_law_between" = some (some (.ref f37)))(l37:K.lookup f37=some ⟨oc37,od37,.func (PySem.W.fnOf "_law_between" "_law_between" (z0s u1i) (z0p u1i) (z0b u1i) .none kV37 dc37 pm37 an37 cd37 ct37),sl37⟩)(c37:PySem.W.codeIn K cd37 "_law_between" = true)(k37:PySem.W.keepIn K (.ref f37)=true)
  (a38:PySem.W.nsIn K mainGlobals "_law_pattern_text" = some (some (.ref f38)))(l38:K.lookup f38=some ⟨oc38,od38,.func (PySem.W.fnOf "_law_pattern_text" "_law_pattern_text" (z0s u0k) (z0p u0k) (z0b u0k) .none kV38 dc38 pm38 an38 cd38 ct38),sl38⟩)(c38:PySem.W.codeIn K cd38 "_law_pattern_text" = true)(k38:PySem.W.keepIn K (.ref f38)=true)
  (a39:PySem.W.nsIn K mainGlobals "_law_kind" = some (some (.ref f39)))(l39:K.lookup f39=some ⟨oc39,od39,.func (PySem.W.fnOf "_law_kind" "_law_kind" (z0s u2w) (z0p u2w) (z0b u2w) .none kV39 dc39 pm39 an39 cd39 ct39),sl39⟩)(c39:PySem.W.codeIn K cd39 "_law_kind" = true)(k39:PySem.W.keepIn K (.ref f39)=true)
  (a40:PySem.W.nsIn K mainGlobals "_law_refused" = some (some (.ref f40)))(l40:K.lookup f40=some ⟨oc40,od40,.func (PySem.W.fnOf "_law_refused" "_law_refused" (z0s u2c) (z0p u2c) (z0b u2c) .none kV40 dc40 pm40 an40 cd40 ct40),sl40⟩)(c40:PySem.W.codeIn K cd40 "_law_refused" = true)(k40:PySem.W.keepIn K (.ref f40)=true)
  (a41:PySem.W.nsIn K mainGlobals "_law_rows" = some (some (.ref f41)))(l41:K.lookup f41=some ⟨oc41,od41,.func (PySem.W.fnOf "_law_rows" "_law_rows" (z0s u3f) (z0p u3f) (z0b u3f) .none kV41 dc41 pm41 an41 cd41 ct41),sl41⟩)(c41:PySem.W.codeIn K cd41 "_law_rows" = true)(k41:PySem.W.keepIn K (.ref f41)=true)
  (a42:PySem.W.nsIn K mainGlobals "law" = some (some (.ref f42)))(l42:K.lookup f42=some ⟨oc42,od42,.func (PySem.W.fnOf "law" "law" (z0s u5m) (z0p u5m) (z0b u5m) .none kV42 dc42 pm42 an42 cd42 ct42),sl42⟩)(c42:PySem.W.codeIn K cd42 "law" = true)(k42:PySem.W.keepIn K (.ref f42)=true)
  (z_list:PySem.W.nsIn K mainGlobals "list" = some none)
  (z_reversed:PySem.W.nsIn K mainGlobals "reversed" = some none)
  (z_isinstance:PySem.W.nsIn K mainGlobals "isinstance" = some none)
  (z_str:PySem.W.nsIn K mainGlobals "str" = some none)
  (z_len:PySem.W.nsIn K mainGlobals "len" = some none)
  (z_int:PySem.W.nsIn K mainGlobals "int" = some none)
  (z_bool:PySem.W.nsIn K mainGlobals "bool" = some none)
  (z_range:PySem.W.nsIn K mainGlobals "range" = some none)
  (z_all:PySem.W.nsIn K mainGlobals "all" = some none)
  (z_any:PySem.W.nsIn K mainGlobals "any" = some none)
  (z_zip:PySem.W.nsIn K mainGlobals "zip" = some none)
  (z_tuple:PySem.W.nsIn K mainGlobals "tuple" = some none)
  (z_dict:PySem.W.nsIn K mainGlobals "dict" = some none)
  (z_set:PySem.W.nsIn K mainGlobals "set" = some none)
  (z_enumerate:PySem.W.nsIn K mainGlobals "enumerate" = some none)
  (z_max:PySem.W.nsIn K mainGlobals "max" = some none)
  (g_TEXT_SIGN:PySem.W.nsIn K mainGlobals "TEXT_SIGN" = some (some (.str "#" tk_TEXT_SIGN)))
  (kit:KitOk K)(kts:PySem.W.kitOne K (.type "tuple") (.type "str")=some false)(Y:∃CF CT CN CS Ct Cp Ck,XR K mg CF CT CN CS Ct Cp Ck)(Gd:∃aM aK,Gds K mg w aM aK) :
  AllE K mg w∧∃f fd,Ent K mg "law" u5m ["_law_script"] f fd:=by
 have T:Zs K mg:=⟨PySem.W.mg_none_of X G z_list,PySem.W.mg_none_of X G z_reversed,PySem.W.mg_none_of X G z_isinstance,PySem.W.mg_none_of X G z_str,PySem.W.mg_none_of X G z_len,PySem.W.mg_none_of X G z_int,PySem.W.mg_none_of X G z_bool,PySem.W.mg_none_of X G z_range,PySem.W.mg_none_of X G z_all,PySem.W.mg_none_of X G z_any,PySem.W.mg_none_of X G z_zip,PySem.W.mg_none_of X G z_tuple,PySem.W.mg_none_of X G z_dict,PySem.W.mg_none_of X G z_set,PySem.W.mg_none_of X G z_enumerate,PySem.W.mg_none_of X G z_max,⟨tk_TEXT_SIGN,PySem.W.mg_of X G g_TEXT_SIGN⟩,kit⟩
 exact⟨⟨T,kts,Y,Gd,z1j (st:=u0g) (ps:=["pattern"]) X G (fun _ _ _ _ _ _ us hl=>ln1 us hl fun _=>rfl) a1 l1 c1 k1,z1j (st:=u3q) (ps:=["pattern"]) X G (fun _ _ _ _ _ _ us hl=>ln1 us hl fun _=>rfl) a2 l2 c2 k2,z1j (st:=u1p) (ps:=["rules"]) X G (fun _ _ _ _ _ _ us hl=>ln1 us hl fun _=>rfl) a3 l3 c3 k3,z1j (st:=u1q) (ps:=["root","rules"]) X G (fun _ _ _ _ _ _ us hl=>ln2 us hl fun _ _=>rfl) a4 l4 c4 k4,z1j (st:=u4p) (ps:=["form"]) X G (fun _ _ _ _ _ _ us hl=>ln1 us hl fun _=>rfl) a5 l5 c5 k5,z1j (st:=u0w) (ps:=["sign"]) X G (fun _ _ _ _ _ _ us hl=>ln1 us hl fun _=>rfl) a6 l6 c6 k6,z1j (st:=u2g) (ps:=["text"]) X G (fun _ _ _ _ _ _ us hl=>ln1 us hl fun _=>rfl) a7 l7 c7 k7,z1j (st:=u2k) (ps:=["line","begin"]) X G (fun _ _ _ _ _ _ us hl=>ln2 us hl fun _ _=>rfl) a8 l8 c8 k8,z1j (st:=u2l) (ps:=["line"]) X G (fun _ _ _ _ _ _ us hl=>ln1 us hl fun _=>rfl) a9 l9 c9 k9,z1j (st:=u2h) (ps:=["kind","patterns"]) X G (fun _ _ _ _ _ _ us hl=>ln2 us hl fun _ _=>rfl) a10 l10 c10 k10,z1j (st:=u3n) (ps:=["rows"]) X G (fun _ _ _ _ _ _ us hl=>ln1 us hl fun _=>rfl) a11 l11 c11 k11,z1j (st:=u1c) (ps:=["groups"]) X G (fun _ _ _ _ _ _ us hl=>ln1 us hl fun _=>rfl) a12 l12 c12 k12,z1j (st:=u1u) (ps:=["groups","token"]) X G (fun _ _ _ _ _ _ us hl=>ln2 us hl fun _ _=>rfl) a13 l13 c13 k13,z1j (st:=u0y) (ps:=["line"]) X G (fun _ _ _ _ _ _ us hl=>ln1 us hl fun _=>rfl) a14 l14 c14 k14,z1j (st:=u4q) (ps:=["pattern","kinds"]) X G (fun _ _ _ _ _ _ us hl=>ln2 us hl fun _ _=>rfl) a15 l15 c15 k15,z1j (st:=u0t) (ps:=["pattern"]) X G (fun _ _ _ _ _ _ us hl=>ln1 us hl fun _=>rfl) a16 l16 c16 k16,z1j (st:=u2s) (ps:=["form"]) X G (fun _ _ _ _ _ _ us hl=>ln1 us hl fun _=>rfl) a17 l17 c17 k17,z1j (st:=u1b) (ps:=["line"]) X G (fun _ _ _ _ _ _ us hl=>ln1 us hl fun _=>rfl) a18 l18 c18 k18,z1j (st:=u2t) (ps:=["line","middle","reader"]) X G (fun _ _ _ _ _ _ us hl=>ln3 us hl fun _ _ _=>rfl) a19 l19 c19 k19,z1j (st:=u1v) (ps:=["lines","middle","reader","first"]) X G (fun _ _ _ _ _ _ us hl=>ln4 us hl fun _ _ _ _=>rfl) a20 l20 c20 k20,z1j (st:=u2m) (ps:=["rows"]) X G (fun _ _ _ _ _ _ us hl=>ln1 us hl fun _=>rfl) a21 l21 c21 k21,z1j (st:=u2b) (ps:=["_law_script","_law_k"]) X G (fun _ _ _ _ _ _ us hl=>ln2 us hl fun _ _=>rfl) a22 l22 c22 k22,z1j (st:=u1w) (ps:=["_law_script","_law_turn","_law_many_here"]) X G (fun _ _ _ _ _ _ us hl=>ln3 us hl fun _ _ _=>rfl) a23 l23 c23 k23,z1j (st:=u3a) (ps:=["_law_draws_here"]) X G (fun _ _ _ _ _ _ us hl=>ln1 us hl fun _=>rfl) a24 l24 c24 k24,z1j (st:=u2u) (ps:=["_law_found","_law_due_here"]) X G (fun _ _ _ _ _ _ us hl=>ln2 us hl fun _ _=>rfl) a25 l25 c25 k25,z1j (st:=u2n) (ps:=["_law_k","_law_draw"]) X G (fun _ _ _ _ _ _ us hl=>ln2 us hl fun _ _=>rfl) a26 l26 c26 k26,z1j (st:=u1g) (ps:=["_law_pattern_here","_law_number"]) X G (fun _ _ _ _ _ _ us hl=>ln2 us hl fun _ _=>rfl) a27 l27 c27 k27,z1j (st:=u1h) (ps:=["_law_some","_law_draws_here"]) X G (fun _ _ _ _ _ _ us hl=>ln2 us hl fun _ _=>rfl) a28 l28 c28 k28,z1j (st:=u1x) (ps:=["_law_names","_law_number"]) X G (fun _ _ _ _ _ _ us hl=>ln2 us hl fun _ _=>rfl) a29 l29 c29 k29,z1j (st:=u2v) (ps:=["_law_script","_law_turn","_law_many_here"]) X G (fun _ _ _ _ _ _ us hl=>ln3 us hl fun _ _ _=>rfl) a30 l30 c30 k30,z1j (st:=u1d) (ps:=["_law_pattern_here"]) X G (fun _ _ _ _ _ _ us hl=>ln1 us hl fun _=>rfl) a31 l31 c31 k31,z1j (st:=u0q) (ps:=["_law_pattern_here"]) X G (fun _ _ _ _ _ _ us hl=>ln1 us hl fun _=>rfl) a32 l32 c32 k32,z1j (st:=u1e) (ps:=["_law_form_here"]) X G (fun _ _ _ _ _ _ us hl=>ln1 us hl fun _=>rfl) a33 l33 c33 k33,z1j (st:=u3r) (ps:=["_law_form_here"]) X G (fun _ _ _ _ _ _ us hl=>ln1 us hl fun _=>rfl) a34 l34 c34 k34,z1j (st:=u3d) (ps:=["_law_form_here","_law_number"]) X G (fun _ _ _ _ _ _ us hl=>ln2 us hl fun _ _=>rfl) a35 l35 c35 k35,z1j (st:=u3e) (ps:=["_law_cell"]) X G (fun _ _ _ _ _ _ us hl=>ln1 us hl fun _=>rfl) a36 l36 c36 k36,z1j (st:=u1i) (ps:=["_law_pattern_here","_law_kinds"]) X G (fun _ _ _ _ _ _ us hl=>ln2 us hl fun _ _=>rfl) a37 l37 c37 k37,z1j (st:=u0k) (ps:=["_law_pattern_here"]) X G (fun _ _ _ _ _ _ us hl=>ln1 us hl fun _=>rfl) a38 l38 c38 k38,z1j (st:=u2w) (ps:=["_law_error"]) X G (fun _ _ _ _ _ _ us hl=>ln1 us hl fun _=>rfl) a39 l39 c39 k39,z1j (st:=u2c) (ps:=["_law_rows_here"]) X G (fun _ _ _ _ _ _ us hl=>ln1 us hl fun _=>rfl) a40 l40 c40 k40,z1j (st:=u3f) (ps:=["_law_form_here"]) X G (fun _ _ _ _ _ _ us hl=>ln1 us hl fun _=>rfl) a41 l41 c41 k41⟩,z1j (st:=u5m) (ps:=["_law_script"]) X G (fun _ _ _ _ _ _ us hl=>ln1 us hl fun _=>rfl) a42 l42 c42 k42⟩
theorem law_fn {l:PySem.W.OpenLaw}{w:World}{K:PySem.W.Frag}{mg:Str→Option Value}{fa:Addr}(Z:AllE K mg w∧∃f fd,Ent K mg "law" u5m ["_law_script"] f fd)(hmg:mg "law" = some (.ref fa)) :
  ∃fd:FuncData,(∀(s:Shared) (u:Value),BindsTo s fd ⟨[u],[]⟩ [("_law_script",u)])∧∀base:Heap,K.In base→base.Ns mainGlobals mg→FnOk l.prog w K mg base CX0 80 fa fd ["_law_script"] (spD (u7q K)):=by
 obtain⟨L,f,fd,E⟩:=Z
 have e:=hmg.symm.trans E.g
 cases e
 obtain⟨oc,od,kV,doc,pm,an,cdv,ct,osl,rfl,lk,hcd⟩:=E.F.ex
 exact⟨_,fun s u=>.of_eq rfl,fun base _ _=>p0z E L⟩
theorem law_sp {K:PySem.W.Frag}{H:Hp}{a:Addr}{ns:List Int}{E:XK}(hS:SqL K H a (ns.map V.int)):spD (u7q K) [.ref a] H (fun v _=>v=.bl true) E:=by
 refine⟨H,[none],H,[.sc K ns],fun b d _=>d=.bl true,fun p a e=>by cases p<;>simp at e,(y2j (ds:=[]) (vs:=[]) (Same.refl _) rfl).push (s:=.sc K ns) (v:=.ref a) ⟨a,rfl,hS⟩ (fun b c a e=>by cases e),⟨ns,rfl,rfl⟩,fun b d v δ' F' H' I q=>?_⟩
 obtain⟨F2,s,I2,rv⟩:=I.fr
 cases q
 exact rv
end K04
open PySem PySem.W PyProof.Rows
set_option maxRecDepth 100000 in
set_option maxHeartbeats 0 in
theorem PySem.Challenge.cw_formferry_k21_forms_written_holds : PySem.Challenge.rw_formferry_k21_forms_written.Holds := by
 w_on;o_law;k_head;(case hw=>w_witness2)
 k_fill
 refine L2.walk_ofK (l:=PySem.Challenge.rw_formferry_k21_forms_written) (n:=63) (k:=80) (x:="_law_script") (CX:=L2.CX0) (sp:=fun K=>VL.spD (K04.u7q K)) rfl (by decide) rfl ⟨rfl,by decide,by decide⟩ (fun w h Y=>PySem.W.kIn_of Y) (fun _ _ _ p e=>absurd e (by show ¬none=some p;intro z;cases z)) ?F (fun K H a ns hl hO hS=>K04.law_sp hS) (fun _ _ _ _ z=>z)
 case F =>
  intro w mg fa h KX G hmg
  have Z:=by
   refine' K04.all_mk KX G ?a1 ?l1 ?c1 ?k1 ?a2 ?l2 ?c2 ?k2 ?a3 ?l3 ?c3 ?k3 ?a4 ?l4 ?c4 ?k4 ?a5 ?l5 ?c5 ?k5 ?a6 ?l6 ?c6 ?k6 ?a7 ?l7 ?c7 ?k7 ?a8 ?l8 ?c8 ?k8 ?a9 ?l9 ?c9 ?k9 ?a10 ?l10 ?c10 ?k10 ?a11 ?l11 ?c11 ?k11 ?a12 ?l12 ?c12 ?k12 ?a13 ?l13 ?c13 ?k13 ?a14 ?l14 ?c14 ?k14 ?a15 ?l15 ?c15 ?k15 ?a16 ?l16 ?c16 ?k16 ?a17 ?l17 ?c17 ?k17 ?a18 ?l18 ?c18 ?k18 ?a19 ?l19 ?c19 ?k19 ?a20 ?l20 ?c20 ?k20 ?a21 ?l21 ?c21 ?k21 ?a22 ?l22 ?c22 ?k22 ?a23 ?l23 ?c23 ?k23 ?a24 ?l24 ?c24 ?k24 ?a25 ?l25 ?c25 ?k25 ?a26 ?l26 ?c26 ?k26 ?a27 ?l27 ?c27 ?k27 ?a28 ?l28 ?c28 ?k28 ?a29 ?l29 ?c29 ?k29 ?a30 ?l30 ?c30 ?k30 ?a31 ?l31 ?c31 ?k31 ?a32 ?l32 ?c32 ?k32 ?a33 ?l33 ?c33 ?k33 ?a34 ?l34 ?c34 ?k34 ?a35 ?l35 ?c35 ?k35 ?a36 ?l36 ?c36 ?k36 ?a37 ?l37 ?c37 ?k37 ?a38 ?l38 ?c38 ?k38 ?a39 ?l39 ?c39 ?k39 ?a40 ?l40 ?c40 ?k40 ?a41 ?l41 ?c41 ?k41 ?a42 ?l42 ?c42 ?k42 ?z_list ?z_reversed ?z_isinstance ?z_str ?z_len ?z_int ?z_bool ?z_range ?z_all ?z_any ?z_zip ?z_tuple ?z_dict ?z_set ?z_enumerate ?z_max ?g_TEXT_SIGN ?kit ?kts ?Y ?Gd
   (case a1=>k_is)
   (case l1=>k_is)
   (case c1=>k_is)
   (case k1=>k_is)
   (case a2=>k_is)
   (case l2=>k_is)
   (case c2=>k_is)
   (case k2=>k_is)
   (case a3=>k_is)
   (case l3=>k_is)
   (case c3=>k_is)
   (case k3=>k_is)
   (case a4=>k_is)
   (case l4=>k_is)
   (case c4=>k_is)
   (case k4=>k_is)
   (case a5=>k_is)
   (case l5=>k_is)
   (case c5=>k_is)
   (case k5=>k_is)
   (case a6=>k_is)
   (case l6=>k_is)
   (case c6=>k_is)
   (case k6=>k_is)
   (case a7=>k_is)
   (case l7=>k_is)
   (case c7=>k_is)
   (case k7=>k_is)
   (case a8=>k_is)
   (case l8=>k_is)
   (case c8=>k_is)
   (case k8=>k_is)
   (case a9=>k_is)
   (case l9=>k_is)
   (case c9=>k_is)
   (case k9=>k_is)
   (case a10=>k_is)
   (case l10=>k_is)
   (case c10=>k_is)
   (case k10=>k_is)
   (case a11=>k_is)
   (case l11=>k_is)
   (case c11=>k_is)
   (case k11=>k_is)
   (case a12=>k_is)
   (case l12=>k_is)
   (case c12=>k_is)
   (case k12=>k_is)
   (case a13=>k_is)
   (case l13=>k_is)
   (case c13=>k_is)
   (case k13=>k_is)
   (case a14=>k_is)
   (case l14=>k_is)
   (case c14=>k_is)
   (case k14=>k_is)
   (case a15=>k_is)
   (case l15=>k_is)
   (case c15=>k_is)
   (case k15=>k_is)
   (case a16=>k_is)
   (case l16=>k_is)
   (case c16=>k_is)
   (case k16=>k_is)
   (case a17=>k_is)
   (case l17=>k_is)
   (case c17=>k_is)
   (case k17=>k_is)
   (case a18=>k_is)
   (case l18=>k_is)
   (case c18=>k_is)
   (case k18=>k_is)
   (case a19=>k_is)
   (case l19=>k_is)
   (case c19=>k_is)
   (case k19=>k_is)
   (case a20=>k_is)
   (case l20=>k_is)
   (case c20=>k_is)
   (case k20=>k_is)
   (case a21=>k_is)
   (case l21=>k_is)
   (case c21=>k_is)
   (case k21=>k_is)
   (case a22=>k_is)
   (case l22=>k_is)
   (case c22=>k_is)
   (case k22=>k_is)
   (case a23=>k_is)
   (case l23=>k_is)
   (case c23=>k_is)
   (case k23=>k_is)
   (case a24=>k_is)
   (case l24=>k_is)
   (case c24=>k_is)
   (case k24=>k_is)
   (case a25=>k_is)
   (case l25=>k_is)
   (case c25=>k_is)
   (case k25=>k_is)
   (case a26=>k_is)
   (case l26=>k_is)
   (case c26=>k_is)
   (case k26=>k_is)
   (case a27=>k_is)
   (case l27=>k_is)
   (case c27=>k_is)
   (case k27=>k_is)
   (case a28=>k_is)
   (case l28=>k_is)
   (case c28=>k_is)
   (case k28=>k_is)
   (case a29=>k_is)
   (case l29=>k_is)
   (case c29=>k_is)
   (case k29=>k_is)
   (case a30=>k_is)
   (case l30=>k_is)
   (case c30=>k_is)
   (case k30=>k_is)
   (case a31=>k_is)
   (case l31=>k_is)
   (case c31=>k_is)
   (case k31=>k_is)
   (case a32=>k_is)
   (case l32=>k_is)
   (case c32=>k_is)
   (case k32=>k_is)
   (case a33=>k_is)
   (case l33=>k_is)
   (case c33=>k_is)
   (case k33=>k_is)
   (case a34=>k_is)
   (case l34=>k_is)
   (case c34=>k_is)
   (case k34=>k_is)
   (case a35=>k_is)
   (case l35=>k_is)
   (case c35=>k_is)
   (case k35=>k_is)
   (case a36=>k_is)
   (case l36=>k_is)
   (case c36=>k_is)
   (case k36=>k_is)
   (case a37=>k_is)
   (case l37=>k_is)
   (case c37=>k_is)
   (case k37=>k_is)
   (case a38=>k_is)
   (case l38=>k_is)
   (case c38=>k_is)
   (case k38=>k_is)
   (case a39=>k_is)
   (case l39=>k_is)
   (case c39=>k_is)
   (case k39=>k_is)
   (case a40=>k_is)
   (case l40=>k_is)
   (case c40=>k_is)
   (case k40=>k_is)
   (case a41=>k_is)
   (case l41=>k_is)
   (case c41=>k_is)
   (case k41=>k_is)
   (case a42=>k_is)
   (case l42=>k_is)
   (case c42=>k_is)
   (case k42=>k_is)
   (case z_list=>k_is)
   (case z_reversed=>k_is)
   (case z_isinstance=>k_is)
   (case z_str=>k_is)
   (case z_len=>k_is)
   (case z_int=>k_is)
   (case z_bool=>k_is)
   (case z_range=>k_is)
   (case z_all=>k_is)
   (case z_any=>k_is)
   (case z_zip=>k_is)
   (case z_tuple=>k_is)
   (case z_dict=>k_is)
   (case z_set=>k_is)
   (case z_enumerate=>k_is)
   (case z_max=>k_is)
   (case g_TEXT_SIGN=>k_is)
   (case kit =>
    intro t ht T hT
    simp only[List.mem_cons,List.not_mem_nil,or_false]at ht hT
    rcases ht with rfl|rfl|rfl|rfl|rfl|rfl|rfl<;>rcases hT with rfl|rfl|rfl|rfl|rfl|rfl<;>rfl)
   (case kts=>rfl)
   (case Gd =>
    refine' K04.gds_mk KX G ?g_NOTHING ?g_QUOTE ?g_MARKS ?g_KINDS ?l_MARKS ?l_KINDS ?e_MARKS ?e_KINDS ?k_MARKS ?k_KINDS ?o_MARKS ?o_KINDS
    (case g_NOTHING=>k_is)
    (case g_QUOTE=>k_is)
    (case g_MARKS=>k_is)
    (case g_KINDS=>k_is)
    (case l_MARKS=>k_is)
    (case l_KINDS=>k_is)
    (case e_MARKS=>rfl)
    (case e_KINDS=>rfl)
    (case k_MARKS=>k_keys)
    (case k_KINDS=>k_keys)
    (case o_MARKS=>decide)
    (case o_KINDS=>decide))
   (case Y =>
    refine' K04.xr_mk KX G ?z_ValueError ?g_FerryError ?g_Twice ?g_NoName ?g_Stars ?g_NoText ?g_NoPort ?g_Taken ?q_FerryError ?u_Twice ?x_Twice ?l_Twice ?c_Twice ?k_Twice ?kc_Twice ?u_NoName ?x_NoName ?l_NoName ?c_NoName ?k_NoName ?kc_NoName ?u_Stars ?x_Stars ?l_Stars ?c_Stars ?k_Stars ?kc_Stars ?n_Twice ?n_NoName ?n_Stars ?n_NoText ?n_NoPort ?n_Taken ?n_ValueError
    (case z_ValueError=>k_is)
    (case g_FerryError=>k_is)
    (case g_Twice=>k_is)
    (case g_NoName=>k_is)
    (case g_Stars=>k_is)
    (case g_NoText=>k_is)
    (case g_NoPort=>k_is)
    (case g_Taken=>k_is)
    (case q_FerryError=>rfl)
    (case u_Twice=>rfl)
    (case x_Twice=>kernel_rfl)
    (case l_Twice=>k_is)
    (case c_Twice=>k_is)
    (case k_Twice=>k_is)
    (case kc_Twice=>k_is)
    (case u_NoName=>rfl)
    (case x_NoName=>kernel_rfl)
    (case l_NoName=>k_is)
    (case c_NoName=>k_is)
    (case k_NoName=>k_is)
    (case kc_NoName=>k_is)
    (case u_Stars=>rfl)
    (case x_Stars=>kernel_rfl)
    (case l_Stars=>k_is)
    (case c_Stars=>k_is)
    (case k_Stars=>k_is)
    (case kc_Stars=>k_is)
    (case n_Twice=>intro t;rcases t with _|c;rfl;cases c<;>rfl)
    (case n_NoName=>intro t;rcases t with _|c;rfl;cases c<;>rfl)
    (case n_Stars=>intro t;rcases t with _|c;rfl;cases c<;>rfl)
    (case n_NoText=>intro t;rcases t with _|c;rfl;cases c<;>rfl)
    (case n_NoPort=>intro t;rcases t with _|c;rfl;cases c<;>rfl)
    (case n_Taken=>intro t;rcases t with _|c;rfl;cases c<;>rfl)
    (case n_ValueError=>intro t;rcases t with _|c;rfl;cases c<;>rfl))
  exact K04.law_fn Z hmg
#print axioms PySem.Challenge.cw_formferry_k21_forms_written_holds

