import PyProof.Rows.All
import Wide.All
import OpenK.AllK
import Wide.FinOn
import Lean
import PyProof.EqAt
import PyProof.EqKinds
import PyProof.TupleCall
import KE.KRevIter
import PyProof.AttrMissHeap
import KE.KDictOf
import KE.KxText
import PyProof.DictIter
import PyProof.DictWalks
import PyProof.EnumMake
import PyProof.EnumFor
import PyProof.Rows.SetFrom
import PyProof.SetRoads
import PyProof.DictStraight
import KE.KRevSl
import KE.KDictList
import PyProof.NeKinds
import PyProof.Rows.EqBoolInt
import PySem.Challenge.RW_formferry_k08_faults
set_option Elab.async false
set_option linter.all false
set_option maxRecDepth 100000
set_option compiler.extract_closed false
set_option compiler.postponeCompile true
set_option bootstrap.genMatcherCode false
set_option genSizeOfSpec false
namespace PySem.W.Fast
def tw17312021742033830721 : Unit := ()
def tw4555055092875241135 : Unit := ()
def tw5272865428762757908 : Unit := ()
def tw10537715298131810844 : Unit := ()
def tw12835300258225953399 : Unit := ()
def tw250768617360793771 : Unit := ()
def tw13151930904993707664 : Unit := ()
def tw2337808175323511640 : Unit := ()
def tw5482783834499854310 : Unit := ()
def tw15965357506324960461 : Unit := ()
def tw8327534147533884181 : Unit := ()
def tw3043701025180970344 : Unit := ()
def tw16447439509575064215 : Unit := ()
def tw2699197354250233259 : Unit := ()
def tw4168064827619522114 : Unit := ()
def tw10122070807069516238 : Unit := ()
def tw4756682826712638685 : Unit := ()
def tw2414995220434303906 : Unit := ()
def tw11247534256499479858 : Unit := ()
def tw2319536313175999692 : Unit := ()
def tw6958326117560886279 : Unit := ()
def tw15520057028546294345 : Unit := ()
def tw5002321101610878296 : Unit := ()
def tw1949207545457522120 : Unit := ()
def tw4844538593842932950 : Unit := ()
def tw17393666900820913754 : Unit := ()
def tw16147766731505076160 : Unit := ()
def tw11302107231148925434 : Unit := ()
def tw15448165621931521693 : Unit := ()
def tw13819186957432963735 : Unit := ()
def tw4747599655507375894 : Unit := ()
def tw5889293395176687973 : Unit := ()
def tw448812581639552444 : Unit := ()
def tw693808391547068696 : Unit := ()
def tw1662683647208455775 : Unit := ()
def tw6293838403071671555 : Unit := ()
def tw2869054640462957073 : Unit := ()
def tw5557678373263692637 : Unit := ()
def tw495387362629319958 : Unit := ()
def tw14832158809291172801 : Unit := ()
def tw10563459418318545676 : Unit := ()
def tw2767191904458444919 : Unit := ()
def tw15705832498338291055 : Unit := ()
def tw9743582917512953897 : Unit := ()
def tw6418570995080687873 : Unit := ()
def tw3730583333242430800 : Unit := ()
def tw14106203255349951054 : Unit := ()
def tw9286303498257686199 : Unit := ()
def tw10971668625890412229 : Unit := ()
def tw15860777275963235486 : Unit := ()
def tw10786793443751119511 : Unit := ()
def tw9125593646430312483 : Unit := ()
def tw7604079662405929853 : Unit := ()
def tw17142671772978079880 : Unit := ()
def tw1142451663675293959 : Unit := ()
def tw10903551894206711755 : Unit := ()
def tw13761597687135895831 : Unit := ()
def tw397263664554786855 : Unit := ()
def tw8898316882669749038 : Unit := ()
def tw12724250181146724018 : Unit := ()
def tw7919538256938802601 : Unit := ()
def tw8106166546178057239 : Unit := ()
def tw15533095685937016974 : Unit := ()
def tw471575125706783450 : Unit := ()
def tw9517466254216679802 : Unit := ()
def tw13191237945446036759 : Unit := ()
def tw17305355134251558518 : Unit := ()
def tw10918023246349193079 : Unit := ()
def tw9064749417265184927 : Unit := ()
def tw3280004228042715309 : Unit := ()
def tw16229409826423368490 : Unit := ()
def tw13671408274093622298 : Unit := ()
def tw339890831066108682 : Unit := ()
def tw14487464065151510950 : Unit := ()
def tw9660366926136096731 : Unit := ()
def tw15432101327580335849 : Unit := ()
def tw8728161622145265943 : Unit := ()
def tw2919035265453468105 : Unit := ()
def tw718122559715407782 : Unit := ()
def tw6196826876746776451 : Unit := ()
def tw10524911107003631052 : Unit := ()
def tw8215855505132223699 : Unit := ()
def tw12576539998766585649 : Unit := ()
def tw12527353912512811373 : Unit := ()
def tw5724945298185197150 : Unit := ()
def tw6537881469443982470 : Unit := ()
def tw8462138488559937496 : Unit := ()
def tw9984562206301962093 : Unit := ()
def tw2766473054012245796 : Unit := ()
def tw18408325420634610485 : Unit := ()
def tw13943716125571204252 : Unit := ()
def tw2496662415844644654 : Unit := ()
def tw15362539090548876831 : Unit := ()
def tw1690294116446361681 : Unit := ()
def tw346932132241560062 : Unit := ()
def tw6845319408229054295 : Unit := ()
def tw6970819839679114480 : Unit := ()
def tw9385109696196133853 : Unit := ()
def tw1699829074180690819 : Unit := ()
def tw10850073136082647483 : Unit := ()
def tw12323911528226946411 : Unit := ()
def tw998533631816449194 : Unit := ()
def tw16415944392923643224 : Unit := ()
def tw12146352539225982313 : Unit := ()
def tw8975775293790124637 : Unit := ()
def tw11999454720205399378 : Unit := ()
def tw14809830849500770461 : Unit := ()
def tw4349062387228911389 : Unit := ()
def tw14037956850568133549 : Unit := ()
def tw105899187070403065 : Unit := ()
def tw5697059904427906054 : Unit := ()
def tw12959490368752506589 : Unit := ()
def tw13340469230600238448 : Unit := ()
def tw10520118183460388436 : Unit := ()
def tw5783779161258319121 : Unit := ()
def tw12158669172035519889 : Unit := ()
def tw17607074773601373912 : Unit := ()
def tw11930665332089861014 : Unit := ()
def tw18363414395941167837 : Unit := ()
def tw11492042857510351132 : Unit := ()
def tw16864566110585551745 : Unit := ()
def tw1674974504840066014 : Unit := ()
def tw13411880218505881596 : Unit := ()
def tw10124590216864998350 : Unit := ()
def tw519391855387959852 : Unit := ()
def tw15236053056940339005 : Unit := ()
def tw14512528755214287273 : Unit := ()
def tw17866740857405363673 : Unit := ()
def tw14956655361785581226 : Unit := ()
def tw16124404384817830264 : Unit := ()
def tw9745662909331740776 : Unit := ()
def tw18310964884510192251 : Unit := ()
def tw1670796077293950698 : Unit := ()
def tw5072616430748532059 : Unit := ()
def tw7594446810179349245 : Unit := ()
def tw6981212162778582283 : Unit := ()
def tw9448337453883648533 : Unit := ()
def tw6938836840491070216 : Unit := ()
def tw10552566798962348493 : Unit := ()
def tw4015716219273401939 : Unit := ()
def tw396793296756556186 : Unit := ()
def tw5114512436278757689 : Unit := ()
def tw7701865655905824310 : Unit := ()
def tw12936331620631885584 : Unit := ()
def tw12495843493905614115 : Unit := ()
def tw2024526085738144293 : Unit := ()
def tw16446965960433706172 : Unit := ()
def tw2394889913940890737 : Unit := ()
def tw11414777063099746580 : Unit := ()
def tw16027319819340096422 : Unit := ()
def tw3120532986444883233 : Unit := ()
def tw5640645329474797282 : Unit := ()
def tw16358074343777074868 : Unit := ()
def tw6085541395929893105 : Unit := ()
def tw6530099603959236622 : Unit := ()
def tw4896778416229370708 : Unit := ()
def tw17401566866160187019 : Unit := ()
def tw16464348421211436618 : Unit := ()
def tw6406263464871579745 : Unit := ()
def tw10985777774055049689 : Unit := ()
def tw8367932468311077707 : Unit := ()
def tw13529533040018103618 : Unit := ()
def tw2478274494636800582 : Unit := ()
def tw16530729228994484722 : Unit := ()
def tw15091731993789728907 : Unit := ()
def tw16896952659789487368 : Unit := ()
def tw10042485215806036489 : Unit := ()
def tw9339775030572732625 : Unit := ()
def tw15416970814330788090 : Unit := ()
def tw7511180652649104970 : Unit := ()
def tw11380944039264725207 : Unit := ()
def tw4457842412036186699 : Unit := ()
def tw7716318734295282608 : Unit := ()
def tw754945273420198712 : Unit := ()
def tw3984373245021777816 : Unit := ()
def tw16723283635873219771 : Unit := ()
def tw8696939057354503965 : Unit := ()
def tw3699672465684000451 : Unit := ()
def tw9796472287989802372 : Unit := ()
def tw7506251673152444715 : Unit := ()
def tw6279688049627110575 : Unit := ()
def tw12201642592460065093 : Unit := ()
def tw14371977073335667049 : Unit := ()
def tw11532344516889069018 : Unit := ()
def tw9860320086124150313 : Unit := ()
def tw9203819076767318990 : Unit := ()
def tw3127312697050865589 : Unit := ()
def tw15990590364246691222 : Unit := ()
def tw1186722256538076244 : Unit := ()
def tw14751491433933093321 : Unit := ()
def tw6423877697141825581 : Unit := ()
def tw2970439975807818354 : Unit := ()
def tw7506396421247707359 : Unit := ()
def tw16447924110618133275 : Unit := ()
def tw12456803227670330579 : Unit := ()
def tw16139308842433058172 : Unit := ()
def tw16684159184681320618 : Unit := ()
def tw9154308783568759627 : Unit := ()
def tw16418538115490543731 : Unit := ()
def tw18255089770187947671 : Unit := ()
def tw3206793778379999611 : Unit := ()
def tw12138806669271230426 : Unit := ()
def tw9788871597425496036 : Unit := ()
def tw1798077660966075222 : Unit := ()
def tw6637272044153530309 : Unit := ()
def tw784898108509021564 : Unit := ()
def tw16265560422160187285 : Unit := ()
def tw7862558802809146551 : Unit := ()
def tw12303247503212668045 : Unit := ()
def tw7860445683783647563 : Unit := ()
def tw3508506182078652900 : Unit := ()
def tw13769510995656784201 : Unit := ()
def tw1372836625181638211 : Unit := ()
def tw16573576796112599303 : Unit := ()
def tw5862912491614072423 : Unit := ()
def tw16507743282527404727 : Unit := ()
def tw12684346379797167266 : Unit := ()
def tw13782494494461173034 : Unit := ()
def tw184941113684320696 : Unit := ()
def tw10419697274113835234 : Unit := ()
def tw17786595723055731829 : Unit := ()
def tw979473298643886989 : Unit := ()
def tw14506300902655212737 : Unit := ()
def tw9867327953553784043 : Unit := ()
def tw6649792164285340761 : Unit := ()
def tw11047673400585040854 : Unit := ()
def tw583433797336149751 : Unit := ()
def tw8688435363105780461 : Unit := ()
def tw4311473146116038034 : Unit := ()
def tw11241038775242663238 : Unit := ()
def tw14404109995059056114 : Unit := ()
def tw11009425433989018323 : Unit := ()
def tw13053615146793313452 : Unit := ()
def tw913449445241242431 : Unit := ()
def tw6484153554980082781 : Unit := ()
def tw11707967487606947251 : Unit := ()
def tw17511856053330007211 : Unit := ()
def tw484598116482791066 : Unit := ()
def tw7318888497064321528 : Unit := ()
def tw9175266062367871384 : Unit := ()
def tw12502194801802601007 : Unit := ()
def tw1439387244855295885 : Unit := ()
def tw17877393134103873144 : Unit := ()
def tw10675854397060678066 : Unit := ()
def tw10235059183130283762 : Unit := ()
def tw16430425361295667363 : Unit := ()
def tw882610563690498954 : Unit := ()
def tw1495428839923476066 : Unit := ()
def tw11945654751301389621 : Unit := ()
def tw15571123946433693203 : Unit := ()
def tw10332449125253787842 : Unit := ()
def tw5402793591362222438 : Unit := ()
def tw13701587503059846543 : Unit := ()
def tw8467593935156475019 : Unit := ()
def tw9803989428330754988 : Unit := ()
def tw18179608429840792906 : Unit := ()
def tw3190008281620129442 : Unit := ()
def tw16633128535186957998 : Unit := ()
def tw15693038531398743651 : Unit := ()
def tw14549397014153889088 : Unit := ()
def tw4410304148829623801 : Unit := ()
def tw16602659493875869627 : Unit := ()
def tw3355220296903116458 : Unit := ()
def tw11677671760445130055 : Unit := ()
def tw13599456524709347638 : Unit := ()
def tw16597368706586745342 : Unit := ()
def tw8811267133325946054 : Unit := ()
def tw13315237091489765340 : Unit := ()
def tw11549078396204459578 : Unit := ()
def tw8064803090270141866 : Unit := ()
def tw16835111797729916339 : Unit := ()
def tw2202495756291819430 : Unit := ()
def tw4672072254403858404 : Unit := ()
def tw8091886441230718396 : Unit := ()
def tw254194561185309340 : Unit := ()
def tw1475058091617414873 : Unit := ()
def tw1006551303491110361 : Unit := ()
def tw1858084197724890040 : Unit := ()
def tw9495746357413767254 : Unit := ()
def tw11381452128268395933 : Unit := ()
def tw13121984160646245661 : Unit := ()
def tw4488474039710983994 : Unit := ()
def tw9632969038037236012 : Unit := ()
def tw14131481387648030050 : Unit := ()
def tw2471834531531755234 : Unit := ()
def tw5750349366227976966 : Unit := ()
def tw18100085187285228116 : Unit := ()
def tw5767276730258197280 : Unit := ()
def tw13231428041953690303 : Unit := ()
def tw11384088747146371632 : Unit := ()
def tw2898634539649477088 : Unit := ()
def tw18162764910490085066 : Unit := ()
def tw8725109872880925912 : Unit := ()
def tw11981239675572933886 : Unit := ()
def tw11137723114128974457 : Unit := ()
def tw11428721218649213878 : Unit := ()
def tw15330779918746030833 : Unit := ()
def tw11038294927746117457 : Unit := ()
def tw17221204919002831089 : Unit := ()
def tw6299190711707644508 : Unit := ()
def tw2934960126659470610 : Unit := ()
def tw6925346352291312245 : Unit := ()
def tw16889118489427014338 : Unit := ()
def tw9795532692967710142 : Unit := ()
def tw5746003690601393814 : Unit := ()
def tw4189874598698213577 : Unit := ()
def tw4309634975765274754 : Unit := ()
def tw8067708007016992256 : Unit := ()
def tw9618248379532017347 : Unit := ()
def tw2286420276148522909 : Unit := ()
def tw9315067107344442355 : Unit := ()
def tw10141678106486326768 : Unit := ()
def tw15263777728182997113 : Unit := ()
def tw13107911781573657812 : Unit := ()
def tw15360638240955264855 : Unit := ()
def tw5528277214326359447 : Unit := ()
def tw6915374715520721313 : Unit := ()
def tw2751450459286163369 : Unit := ()
def tw6360274292841572875 : Unit := ()
def tw11029731502700139274 : Unit := ()
def tw6463840931508348995 : Unit := ()
def tw3570577352714066197 : Unit := ()
def tw13300902300989393962 : Unit := ()
def tw6477021314380479242 : Unit := ()
def tw7887859629250939701 : Unit := ()
def tw17010098376727579474 : Unit := ()
def tw18245494499242553758 : Unit := ()
def tw14983070575497440187 : Unit := ()
def tw110680459651211701 : Unit := ()
def tw9529861418477129520 : Unit := ()
def tw2703558667727732978 : Unit := ()
def tw3869984806512182663 : Unit := ()
end PySem.W.Fast
set_option maxHeartbeats 800000
namespace L2
open PySem PySem.Spec PyProof.Rows
abbrev Key:=Sum Int Str
def keyIs:Key→Value→Bool
 |.inl k,v=>Value.isInt k v
 |.inr x,v=>Value.isStrOf x v
def keyH (w:World):Key→Int
 |.inl k=>hashInt k
 |.inr x=>hashStr w x
theorem z2r:∀ {k:Key}{v:Value},keyIs k v=true→(∃ i t,k=Sum.inl i∧v=Value.int i t)∨(∃ x t,k=Sum.inr x∧v=Value.str x t)
 |.inl i,v,h=>by
  obtain ⟨t,e⟩:=Value.isInt_shape (k:=i) (v:=v) h
  exact .inl ⟨i,t,rfl,e⟩
 |.inr x,v,h=>by
  obtain ⟨t,e⟩:=Value.isStrOf_shape (x:=x) (v:=v) h
  exact .inr ⟨x,t,rfl,e⟩
theorem keyIs_int (i:Int) (t:Tok):keyIs (.inl i) (.int i t)=true:=by simp [keyIs,Value.isInt]
theorem keyIs_str (x:Str) (t:Tok):keyIs (.inr x) (.str x t)=true:=by simp [keyIs,Value.isStrOf]
theorem key_ll (a b:Int):decide ((Sum.inl a:Key)=Sum.inl b)=(a == b):=by
 by_cases e:a=b
 ·subst e;simp
 ·have h:¬ (Sum.inl a:Key)=Sum.inl b:=fun q=>e (Sum.inl.inj q)
  rw [decide_eq_false h]
  exact (beq_eq_false_iff_ne.mpr e).symm
theorem key_rr (a b:Str):decide ((Sum.inr a:Key)=Sum.inr b)=decide (a=b):=by
 by_cases e:a=b
 ·subst e;simp
 ·have h:¬ (Sum.inr a:Key)=Sum.inr b:=fun q=>e (Sum.inr.inj q)
  rw [decide_eq_false h,decide_eq_false e]
theorem key_lr (a:Int) (b:Str):decide ((Sum.inl a:Key)=Sum.inr b)=false:=decide_eq_false (fun q=>nomatch q)
theorem key_rl (a:Str) (b:Int):decide ((Sum.inr a:Key)=Sum.inl b)=false:=decide_eq_false (fun q=>nomatch q)
def z2l (prog:Program) (w:World):PySem.KeyKind prog w Key where
 is:=keyIs
 hash:=keyH w
 inj:=fun v a b ha hb=>by
  rcases z2r ha with ⟨i,t,rfl,rfl⟩|⟨x,t,rfl,rfl⟩
  ·rcases z2r hb with ⟨j,u,rfl,e⟩|⟨y,u,rfl,e⟩
   ·injection e with e1 _;rw [e1]
   ·exact nomatch e
  ·rcases z2r hb with ⟨j,u,rfl,e⟩|⟨y,u,rfl,e⟩
   ·exact nomatch e
   ·injection e with e1 _;rw [e1]
 byValue:=fun k v h=>by
  rcases z2r h with ⟨i,t,rfl,rfl⟩|⟨x,t,rfl,rfl⟩ <;> rfl
 pyHash:=fun hv h=>by
  rcases z2r hv with ⟨i,t,rfl,rfl⟩|⟨x,t,rfl,rfl⟩
  ·exact wpAny_pyHash_int h
  ·exact wpAny_pyHash_str h
 eqBool:=fun hu hv h=>by
  rcases z2r hu with ⟨i,t,rfl,rfl⟩|⟨x,t,rfl,rfl⟩
  ·rcases z2r hv with ⟨j,u,rfl,rfl⟩|⟨y,u,rfl,rfl⟩
   ·rw [key_ll] at h;exact wpAny_eqBool_int h
   ·rw [key_lr] at h;exact SeqAt.EqAt.int_str i t y u _ _ _ _ h
  ·rcases z2r hv with ⟨j,u,rfl,rfl⟩|⟨y,u,rfl,rfl⟩
   ·rw [key_rl] at h;exact SeqAt.EqAt.str_int x t j u _ _ _ _ h
   ·rw [key_rr] at h;exact wpAny_eqBool_str h
 «strs»:=fun k x t v h=>by
  rcases z2r h with ⟨i,u,rfl,e⟩|⟨y,u,rfl,e⟩
  ·exact nomatch e
  ·injection e with e1 _
   subst e1
   cases v <;> rfl
theorem mixKind_int (prog:Program) (w:World) (i:Int) (t:Tok):(z2l prog w).is (.inl i) (.int i t)=true:=keyIs_int i t
theorem mixKind_str (prog:Program) (w:World) (x:Str) (t:Tok):(z2l prog w).is (.inr x) (.str x t)=true:=keyIs_str x t
end L2
namespace L2
open PySem PySem.Spec PyProof.Rows
inductive V where
 |non|bl (b:Bool)|int (i:Int)|str (x:Str)|byt (b:Array UInt8)|flt (b:UInt64)|ref (a:Addr)|ty (n:String)
 deriving DecidableEq
def RelV:V→Value→Prop
 |.non,u=>u=Value.none
 |.bl b,u=>u=Value.bool b
 |.int i,u=>∃ t,u=Value.int i t
 |.str x,u=>∃ t,u=Value.str x t
 |.byt b,u=>∃ t,u=Value.bytes b t
 |.flt b,u=>∃ t,u=Value.float b t
 |.ref a,u=>u=Value.ref a
 |.ty n,u=>u=Value.type n
abbrev Vals:List V→List Value→Prop:=Paired RelV
theorem Vals.length {xs:List V}{us:List Value}(r:Vals xs us):xs.length=us.length:=Paired.length r
theorem Vals.get:∀ {xs:List V}{us:List Value}{i:Nat}{x:V},Vals xs us→xs[i]? = some x→∃ u,us[i]? = some u∧RelV x u
 |_,_,_,_,.nil,e=>by simp at e
 |_,_,0,_,.cons r _,e=>by simp at e;subst e;exact ⟨_,rfl,r⟩
 |_,_,i+1,x,.cons _ t,e=>by
  obtain ⟨u,h1,h2⟩:=Vals.get (i:=i) (x:=x) t (by simpa using e)
  exact ⟨u,by simpa using h1,h2⟩
theorem Vals.set {x:V}{u:Value}(r:RelV x u):∀ {xs:List V}{us:List Value}(i:Nat),Vals xs us→Vals (xs.set i x) (us.set i u)
 |_,_,_,.nil=>.nil
 |_,_,0,.cons _ t=>.cons r t
 |_,_,i+1,.cons q t=>.cons q (Vals.set r i t)
theorem Vals.append:∀ {xs ys:List V}{us ws:List Value},Vals xs us→Vals ys ws→Vals (xs ++ ys) (us ++ ws)
 |_,_,_,_,.nil,s=>s
 |_,_,_,_,.cons r t,s=>.cons r (Vals.append t s)
theorem Vals.take:∀ {xs:List V}{us:List Value}(n:Nat),Vals xs us→Vals (xs.take n) (us.take n)
 |_,_,0,_=>.nil
 |_,_,_+1,.nil=>.nil
 |_,_,n+1,.cons r t=>.cons r (Vals.take n t)
theorem Vals.drop:∀ {xs:List V}{us:List Value}(n:Nat),Vals xs us→Vals (xs.drop n) (us.drop n)
 |_,_,0,r=>r
 |_,_,_+1,.nil=>.nil
 |_,_,n+1,.cons _ t=>Vals.drop n t
theorem Vals.none_of:∀ {xs:List V}{us:List Value}{i:Nat},Vals xs us→xs[i]? = none→us[i]? = none:=fun {xs us i} r e=>by
 have h1:=r.length
 have h2:xs.length≤i:=List.getElem?_eq_none_iff.mp e
 exact List.getElem?_eq_none_iff.mpr (by omega)
def RelO:Option V→Option Value→Prop
 |some v,some u=>RelV v u
 |none,none=>True
 |_,_=>False
def KV {κ:Type}:List (κ × V)→List (κ × Value)→Prop:=Paired fun (p:κ × V) (q:κ × Value)=>p.1=q.1∧RelV p.2 q.2
def kV:Key→V
 |.inl i=>.int i
 |.inr x=>.str x
inductive HO where
 |lst (xs:List V)
 |tup (xs:List V)
 |dK (kvs:List (Key × V))|dT (kvs:List (List Key × V))
 |set (S:Int→Bool) (n:Nat)
 |ins (C dx:Addr) (fs:List (Str × V))
 |own (x:Addr)
 |xd (fs:List (Str × V))
 |met (f x:Addr)
 |rng (lo hi:Int)
 |frz (o:Obj) (u:HO)
 |tbl (ps:Array Value)
 |ext (φ:Heap→Prop)
abbrev Hp:=Addr→Option HO
def upd (H:Hp) (a:Addr) (o:HO):Hp:=fun b=>if b=a then some o else H b
theorem z0l {H:Hp}{a:Addr}{o:HO}:upd H a o a=some o:=by unfold upd;rw [if_pos rfl]
theorem z0i {H:Hp}{a b:Addr}{o:HO}(h:b≠a):upd H a o b=H b:=by unfold upd;rw [if_neg h]
theorem ne_of {H:Hp}{a b:Addr}{o u:HO}(h:H a=some o) (h':H b=some u) (d:o≠u):a≠b:=by
 intro e;subst e;rw [h] at h';exact d (Option.some.inj h')
theorem z0u {H:Hp}{a b:Addr}{o:HO}(h:H a=some o) (h':H b=none):a≠b:=by
 intro e;subst e;rw [h] at h';cases h'
section
variable (P:Program) (w:World)
def ObjOk (H:Hp) (h:Heap) (a:Addr):HO→Prop
 |.lst xs=>xs.length≤sizeLine∧∃ (its:List Value) (n:Nat),Vals xs its∧h.get? a=some { cls:=.type "list",data:=.seq its.toArray n }
 |.tup xs=>xs.length≤sizeLine∧∃ its:List Value,Vals xs its∧IsTup h a its.toArray
 |.dK kvs=>kvs.length≤sizeLine∧(a == sysModules)=false∧∃ vs,KV kvs vs∧h.DictOf (z2l P w) a vs
 |.dT kvs=>kvs.length≤sizeLine∧(a == sysModules)=false∧∃ xs:List (List Key × Addr × Value),
   Paired (fun (p:List Key × V) (q:List Key × Addr × Value)=>p.1=q.1∧H q.2.1=some (.tup (p.1.map kV))∧RelV p.2 q.2.2) kvs xs ∧
   ∃ o es ep,h.get? a=some o∧o.ExactDict∧o.data = .dict es ep∧es.toList=xs.map (entryOfKey (tupleKind (z2l P w)))∧(xs.map (·.1)).Nodup
 |.set S n=>h.SetOf (intKind P w) a S n
 |.ins C dx fs=>H dx=some (.own a)∧fs.length≤1000∧dx≠a∧h.get? a=some (PySem.W.instObj C dx) ∧
   ∃ mA,h.Ns1 dx mA∧(∀ f,RelO (fs.lookup f) (mA f))∧PySem.Within mA (fs.map (·.1))
 |.own _=>∃ o,h.get? a=some o
 |.xd fs=>∃ mA,h.Ns1 a mA∧∀ f,RelO (fs.lookup f) (mA f)
 |.rng lo hi=>∃ t u v,h.get? a=some { cls:=.type "range",data:=.fields #[.int lo t,.int hi u,.int 1 v] }
 |.frz o u=>h.get? a=some o∧ObjOk H h a u
 |.tbl ps=>h.get? a=some { cls:=.none,data:=.fields ps }
 |.met f x=>h.get? a=some (PySem.W.methodObj (.ref f) (.ref x))
 |.ext φ=>φ h∧(∃ o,h.get? a=some o)∧∀ h1 h2:Heap,φ h1→(∀ o,h1.get? a=some o→h2.get? a=some o)→φ h2
def HOk (H:Hp) (h:Heap):Prop:=∀ a o,H a=some o→ObjOk P w H h a o
end
section
variable {P:Program}{w:World}{H H':Hp}{h h':Heap}{a:Addr}{o:HO}
theorem ObjOk.lt (x:ObjOk P w H h a o):a < h.objs.size:=by
 cases o with
 |lst xs=>obtain ⟨_,_,_,_,e⟩:=x;exact Heap.lt_size e
 |tup xs=>obtain ⟨_,_,_,p⟩:=x;exact p.lt
 |dK kvs=>obtain ⟨_,_,_,_,o,_,_,e,_⟩:=x;exact Heap.lt_size e
 |dT kvs=>obtain ⟨_,_,_,_,o,_,_,e,_⟩:=x;exact Heap.lt_size e
 |set S n=>obtain ⟨o,_,_,_,e,_⟩:=x;exact Heap.lt_size e
 |ins C dx fs=>obtain ⟨_,_,_,e,_⟩:=x;exact Heap.lt_size e
 |own y=>obtain ⟨_,e⟩:=x;exact Heap.lt_size e
 |xd fs=>obtain ⟨_,⟨_,_,_,e,_⟩,_⟩:=x;exact Heap.lt_size e
 |rng lo hi=>obtain ⟨_,_,_,e⟩:=x;exact Heap.lt_size e
 |frz ob u=>obtain ⟨e,_⟩:=x;exact Heap.lt_size e
 |tbl ps=>exact Heap.lt_size (show h.get? a=some _ from x)
 |met f y=>exact Heap.lt_size (show h.get? a=some _ from x)
 |ext φ=>obtain ⟨_,⟨_,e⟩,_⟩:=x;exact Heap.lt_size e
theorem Paired.mapP {α β:Type}{F G:α→β→Prop}:∀ {l₁:List α}{l₂:List β},Paired F l₁ l₂→(∀ a b,F a b→G a b)→Paired G l₁ l₂
 |_,_,.nil,_=>.nil
 |_,_,.cons r t,f=>.cons (f _ _ r) (Paired.mapP t f)
theorem ObjOk.stay (x:ObjOk P w H h a o) (k:∀ b u,(b=a∨H b=some (.own a))→h.get? b=some u→h'.get? b=some u)
  (ho:∀ b,H b=some (.own a)→H' b=some (.own a)) (ht:∀ b xs,H b=some (.tup xs)→H' b=some (.tup xs)):ObjOk P w H' h' a o:=by
 induction o with
 |lst xs=>obtain ⟨z,its,n,r,e⟩:=x;exact ⟨z,its,n,r,k _ _ (.inl rfl) e⟩
 |tup xs=>obtain ⟨z,its,r,ob,e,c⟩:=x;exact ⟨z,its,r,ob,k _ _ (.inl rfl) e,c⟩
 |dK kvs=>obtain ⟨z,y,vs,r,ob,es,ep,e,c⟩:=x;exact ⟨z,y,vs,r,ob,es,ep,k _ _ (.inl rfl) e,c⟩
 |dT kvs =>
  obtain ⟨z,y,xs,r,ob,es,ep,e,c⟩:=x
  exact ⟨z,y,xs,Paired.mapP r fun p q z=>⟨z.1,ht _ _ z.2.1,z.2.2⟩,ob,es,ep,k _ _ (.inl rfl) e,c⟩
 |set S n=>obtain ⟨ob,es,ep,t,e,c⟩:=x;exact ⟨ob,es,ep,t,k _ _ (.inl rfl) e,c⟩
 |ins C dx fs =>
  obtain ⟨d,z,ne,e,mA,⟨od,es,ep,e2,c⟩,r⟩:=x
  exact ⟨ho _ d,z,ne,k _ _ (.inl rfl) e,mA,⟨od,es,ep,k _ _ (.inr d) e2,c⟩,r⟩
 |own y=>obtain ⟨ob,e⟩:=x;exact ⟨ob,k _ _ (.inl rfl) e⟩
 |xd fs=>obtain ⟨mA,⟨od,es,ep,e,c⟩,r⟩:=x;exact ⟨mA,⟨od,es,ep,k _ _ (.inl rfl) e,c⟩,r⟩
 |rng lo hi=>obtain ⟨t,u,v,e⟩:=x;exact ⟨t,u,v,k _ _ (.inl rfl) e⟩
 |frz ob u ih=>obtain ⟨e,q⟩:=x;exact ⟨k _ _ (.inl rfl) e,ih q⟩
 |tbl ps =>
  have e:h.get? a=some { cls:=.none,data:=.fields ps }:=x
  show h'.get? a=some { cls:=.none,data:=.fields ps }
  exact k a _ (.inl rfl) e
 |met f y =>
  have e:h.get? a=some (PySem.W.methodObj (.ref f) (.ref y)):=x
  show h'.get? a=some (PySem.W.methodObj (.ref f) (.ref y))
  exact k a _ (.inl rfl) e
 |ext φ=>obtain ⟨p,⟨o,e⟩,st⟩:=x;exact ⟨st _ _ p fun o q=>k _ _ (.inl rfl) q,⟨o,k _ _ (.inl rfl) e⟩,st⟩
theorem HOk.lt (x:HOk P w H h) (e:H a=some o):a < h.objs.size:=(x a o e).lt
theorem HOk.fresh (x:HOk P w H h) (e:h.objs.size≤a):H a=none:=by
 cases q:H a with
 |none=>rfl
 |some u=>exact absurd (Nat.lt_of_lt_of_le (x.lt q) e) (Nat.lt_irrefl _)
theorem HOk.kept (x:HOk P w H h) (k:∀ b u,h.get? b=some u→h'.get? b=some u):HOk P w H h':=fun a o e =>
 (x a o e).stay (fun b u _ q=>k b u q) (fun _ q=>q) fun _ _ q=>q
theorem HOk.laid (x:HOk P w H h) (k:∀ b u,h.get? b=some u→h'.get? b=some u) (hp:h.objs.size≤a) (new:ObjOk P w (upd H a o) h' a o):HOk P w (upd H a o) h':=fun b u e=>by
 have hn:=x.fresh hp
 by_cases hb:b=a
 ·subst hb;rw [z0l] at e;cases e;exact new
 ·rw [z0i hb] at e
  exact (x b u e).stay (fun c v _ q=>k c v q) (fun c q=>by rw [z0i (z0u q hn)];exact q) fun c xs q=>by rw [z0i (z0u q hn)];exact q
end
def Rd (H:Hp) (a:Addr) (u:HO):Prop:=H a=some u ∨ ∃ o,H a=some (.frz o u)
theorem Rd.ok {P:Program}{w:World}{H:Hp}{h:Heap}{a:Addr}{u:HO}(r:Rd H a u) (x:HOk P w H h):ObjOk P w H h a u:=by
 rcases r with r|⟨o,r⟩
 ·exact x a u r
 ·obtain ⟨_,q⟩:=x a _ r
  exact q
def Mut:Option HO→Prop
 |some (.lst _)=>True
 |some (.dK _)=>True
 |some (.dT _)=>True
 |some (.set _ _)=>True
 |some (.ins _ _ _)=>True
 |some (.ext _)=>True
 |_=>False
section
variable {P:Program}{w:World}{H:Hp}{h h':Heap}{x e:Addr}{o':HO}
theorem HOk.write (ok:HOk P w H h) (mu:Mut (H x)) (he:e=x∨H e=some (.own x)) (k:∀ b u,b≠e→h.get? b=some u→h'.get? b=some u) (heo:∃ u,h'.get? e=some u)
  (new:ObjOk P w (upd H x o') h' x o'):HOk P w (upd H x o') h':=fun b u q=>by
 have nown:∀ c y,H c=some (.own y)→c≠x:=fun c y r z=>by subst z;rw [r] at mu;exact mu
 have ntup:∀ c xs,H c=some (.tup xs)→c≠x:=fun c xs r z=>by subst z;rw [r] at mu;exact mu
 by_cases hb:b=x
 ·subst hb;rw [z0l] at q;cases q;exact new
 ·rw [z0i hb] at q
  by_cases hbe:b=e
  ·have q':H b=some (.own x):=by
    rcases he with z|z
    ·exact absurd (hbe.trans z) hb
    ·rw [hbe];exact z
   rw [q] at q';cases q'
   obtain ⟨v,hv⟩:=heo
   exact ⟨v,by rw [hbe];exact hv⟩
  ·refine (ok b u q).stay (fun c v hc r=>k c v ?_ r) (fun c r=>by rw [z0i (nown c b r)];exact r) fun c xs r=>by rw [z0i (ntup c xs r)];exact r
   rcases hc with rfl|hc
   ·exact hbe
   ·rintro rfl
    rcases he with z|z
    ·exact nown c b hc z
    ·rw [hc] at z;cases z;exact hb rfl
end
structure Un (fs ex:List Addr) (H H':Hp) (h h':Heap):Prop where
 keep:∀ b o,h.get? b=some o→H b=none→b∉fs→b∉ex→h'.get? b=some o
 slot:∀ b o,h.get? b=some o→H b=none→b∈fs→b∉ex→∃ sl,h'.get? b=some { o with slots:=sl }
 free:∀ b o,h.get? b=some o→H b=none→b∉ex→H' b=none
 there:∀ b o,h.get? b=some o→b∉ex→∃ o',h'.get? b=some o'
 tups:∀ b xs,H b=some (.tup xs)→H' b=some (.tup xs)
 frzs:∀ b o u,H b=some (.frz o u)→H' b=some (.frz o u)
 tbls:∀ b ps,H b=some (.tbl ps)→∃ more,H' b=some (.tbl (ps ++ more))
section
variable {fs fs' ex ex':List Addr}{H H1 H2:Hp}{h h1 h2 h':Heap}{a x e:Addr}{o:HO}
theorem Un.any (u:Un fs ex H H1 h h1) {b:Addr}{ob:Obj}(q:h.get? b=some ob) (n:H b=none) (hx:b∉ex):∃ sl,h1.get? b=some { ob with slots:=sl }:=by
 by_cases hb:b∈fs
 ·exact u.slot b ob q n hb hx
 ·exact ⟨ob.slots,u.keep b ob q n hb hx⟩
theorem Un.kept (k:∀ b u,h.get? b=some u→h'.get? b=some u):Un fs ex H H h h' :=
 ⟨fun b ob q _ _ _=>k b ob q,fun b ob q _ _ _=>⟨ob.slots,k b ob q⟩,fun _ _ _ n _=>n,fun b ob q _=>⟨ob,k b ob q⟩,fun _ _ q=>q,fun _ _ _ q=>q,fun _ ps q=>⟨#[],by rw [q];simp⟩⟩
theorem Un.refl:Un fs ex H H h h:=Un.kept fun _ _ q=>q
theorem Un.laid (k:∀ b u,h.get? b=some u→h'.get? b=some u) (hp:h.objs.size≤a) (hn:H a=none):Un fs ex H (upd H a o) h h' where
 keep:=fun b u q _ _ _=>k b u q
 slot:=fun b u q _ _ _=>⟨u.slots,k b u q⟩
 free:=fun b u q n _=>by rw [z0i (Nat.ne_of_lt (Nat.lt_of_lt_of_le (Heap.lt_size q) hp))];exact n
 there:=fun b u q _=>⟨u,k b u q⟩
 tups:=fun b xs q=>by rw [z0i (z0u q hn)];exact q
 frzs:=fun b u xs q=>by rw [z0i (z0u q hn)];exact q
 tbls:=fun b ps q=>⟨#[],by rw [z0i (z0u q hn),q];simp⟩
theorem Un.write (mu:Mut (H x)) (he:e=x∨H e=some (.own x)) (k:∀ b u,b≠e→h.get? b=some u→h'.get? b=some u) (heo:∃ u,h'.get? e=some u):Un fs ex H (upd H x o) h h':=by
 have hx:∀ b,H b=none→b≠x:=fun b n z=>by subst z;rw [n] at mu;exact mu
 have hb:∀ b,H b=none→b≠e:=fun b n z=>by
  subst z
  rcases he with r|r
  ·exact hx b n r
  ·rw [n] at r;cases r
 have hm:∀ b u,H b=some u→¬ Mut (some u)→b≠x:=fun b u q nm z=>by subst z;rw [q] at mu;exact nm mu
 refine ⟨fun b u q n _ _=>k b u (hb b n) q,fun b u q n _ _=>⟨u.slots,k b u (hb b n) q⟩,fun b u q n _=>by rw [z0i (hx b n)];exact n,fun b u q _=>?_,
  fun b xs q=>by rw [z0i (hm b _ q fun z=>z)];exact q,fun b u xs q=>by rw [z0i (hm b _ q fun z=>z)];exact q,fun b ps q=>⟨#[],by rw [z0i (hm b _ q fun z=>z),q];simp⟩⟩
 by_cases hbe:b=e
 ·subst hbe;exact heo
 ·exact ⟨u,k b u hbe q⟩
end
def trk (h:Heap) (H:Hp):List Addr:=(List.range h.objs.size).filter fun a=>(H a).isSome
def hidT (h:Heap) (H:Hp):Heap:=PySem.W.hideAll h (trk h H)
theorem hidT_size (h:Heap) (H:Hp):(hidT h H).objs.size=h.objs.size:=PySem.W.hideAll_size _ _
theorem hidT_get {h:Heap}{H:Hp}{b:Addr}{o:Obj}(e:h.get? b=some o) (n:H b=none):(hidT h H).get? b=some o :=
 PySem.W.hideAll_get _ e fun hm=>by
  have q:(H b).isSome=true:=(List.mem_filter.mp hm).2
  rw [n] at q;simp at q
theorem of_hidT {h:Heap}{H:Hp}{b:Addr}{o:Obj}(e:(hidT h H).get? b=some o):h.get? b=some o∧H b=none:=by
 have e':h.get? b=some o:=PySem.W.of_hideAll (trk h H) e
 refine ⟨e',?_⟩
 cases q:H b with
 |none=>rfl
 |some x =>
  have hm:b∈trk h H:=List.mem_filter.mpr ⟨List.mem_range.mpr (Heap.lt_size e'),by simp [q]⟩
  have z:(hidT h H).get? b=none:=PySem.W.hideAll_none (trk h H) hm
  rw [z] at e;cases e
def allNews (g h:Heap) (L:Addr):List (Addr × Obj):=(List.range h.objs.size).filterMap fun a=>if a=L∨(g.get? a).isSome=true then none else (h.get? a).map fun o=>(a,o)
def rest (g h:Heap) (L d:Addr):List (Addr × Obj):=(allNews g h L).filter fun p=>decide (p.1≠d)
end L2
namespace L2
open PySem PySem.Spec PyProof.Rows
structure Mod (K:PySem.W.Frag) (mg:Str→Option Value) (base:Heap):Prop where
 kin:K.In base
 glob:base.Ns mainGlobals mg
 blt:∃ mb,base.Ns builtinsNs mb∧∀ x:Str,x ≠ "__name__"→mb x=bootBuiltins x
 nolimit:base.NoLimit
structure Cx where
 prog:Program
 w:World
 K:PySem.W.Frag
 mg:Str→Option Value
 base:Heap
 A:Around
 N:List Str
 s₀:Shared
 H₀:Hp
 env:Env
 outer:List Env
 stack:List Env
 ex:List Addr
 fn:Str→Bool
 calm:Bool
 pn:List (Addr × Obj)
 xe:Value→Shared→Prop
def frs (l:List Env):List Addr:=l.filterMap (·.frame)
abbrev Cx.fs (X:Cx):List Addr:=frs X.outer
def Vis (sc:Scope) (x:Str):Prop:=sc.names.lookup x=some .local∨sc.names.lookup x=some .cell∨sc.names.lookup x=some .free
def Loc (sc:Scope) (x:Str):Prop:=sc.names.lookup x=some .local∨sc.names.lookup x=some .cell
def Look (env:Env) (h:Heap) (m:Str→Option Value) (x:Str) (u:Value):Prop :=
 (env.kindOf x=some .local∧m x=some u)∨((env.kindOf x=some .cell∨env.kindOf x=some .free)∧∃ c,env.cells.lookup x=some c∧h.IsCell c (some u))
structure Cx.Ok (X:Cx):Prop where
 mod:Mod X.K X.mg X.base
 kind:X.env.scope.kind = .function
 glob:X.env.globals=mainGlobals
 blt:X.env.builtins=builtinsNs
 above:X.s₀.heap.objs.size≤X.env.locals
 inj:∀ x y c,X.env.cells.lookup x=some c→X.env.cells.lookup y=some c→x=y
 has:∀ x,(X.env.kindOf x=some .cell∨X.env.kindOf x=some .free)→∃ c,X.env.cells.lookup x=some c
 cab:∀ x c,X.fn x=true→X.env.cells.lookup x=some c→X.s₀.heap.objs.size≤c
 hd:X.calm=true→X.A.handled=none
 frames:X.A.frames=some X.stack
 stk:X.stack=X.outer∨(X.stack=X.env::X.outer∧X.env.frame=some X.env.locals)
 exf:∀ b∈X.ex,b≠X.env.locals∧∀ x c,X.env.cells.lookup x=some c→c≠b
 bs:∀ b o,X.base.get? b=some o→X.s₀.heap.get? b=some o∧X.H₀ b=none
 bsz:X.base.objs.size≤X.s₀.heap.objs.size
 noex:∀ b o,X.base.get? b=some o→b∉X.ex
 exfs:∀ b∈X.ex,b∉X.fs
 funs:X.s₀.heap.FunFrames X.base X.outer
 frf:∀ b∈X.fs,X.H₀ b=none
structure Inv (X:Cx) (pins:List (Addr × Obj)) (σ:List (Option V)) (H:Hp) (s:Shared):Prop where
 ok:X.Ok
 os:s.os=X.s₀.os
 bare:AllBare s.gens
 base:Un X.fs X.ex X.H₀ H X.s₀.heap s.heap
 loc:∃ m,s.heap.Ns X.env.locals m∧∀ (i:Nat) (x:Str) (v:V),X.N[i]? = some x→σ[i]? = some (some v)→Vis X.env.scope x→∃ u,RelV v u∧Look X.env s.heap m x u
 cell:∀ x c,X.env.cells.lookup x=some c→∃ v,s.heap.IsCell c v
 free:H X.env.locals=none
 freeC:∀ x c,X.env.cells.lookup x=some c→H c=none
 pin:∀ p∈X.pn ++ pins,s.heap.get? p.1=some p.2∧H p.1=none∧p.1≠X.env.locals∧p.1∉X.fs∧∀ v,p.2.data ≠ .cell v
 hok:HOk X.prog X.w H s.heap
 len:σ.length=X.N.length
section
variable {X:Cx}{pins:List (Addr × Obj)}{σ:List (Option V)}{H H':Hp}{s:Shared}{h':Heap}
theorem Cx.Ok.nofr (ok:X.Ok) {b:Addr}{o:Obj}(e:X.base.get? b=some o):b∉X.fs:=fun hb=>by
 have:=(ok.funs.mem hb).1
 rw [e] at this;cases this
theorem Inv.bs (I:Inv X pins σ H s):∀ b o,X.base.get? b=some o→s.heap.get? b=some o∧H b=none:=fun b o e =>
 ⟨I.base.keep b o (I.ok.bs b o e).1 (I.ok.bs b o e).2 (I.ok.nofr e) (I.ok.noex b o e),I.base.free b o (I.ok.bs b o e).1 (I.ok.bs b o e).2 (I.ok.noex b o e)⟩
theorem Inv.bk (I:Inv X pins σ H s):∀ b o,X.base.get? b=some o→s.heap.get? b=some o:=fun b o e=>(I.bs b o e).1
theorem Inv.mod (I:Inv X pins σ H s):Mod X.K X.mg X.base:=I.ok.mod
theorem Inv.kIn (I:Inv X pins σ H s):X.K.In s.heap:=I.ok.mod.kin.keeps I.bk
theorem Inv.lt (I:Inv X pins σ H s):X.env.locals < s.heap.objs.size:=let ⟨_,hn,_⟩:=I.loc;hn.lt
theorem Inv.sz (I:Inv X pins σ H s):X.s₀.heap.objs.size≤s.heap.objs.size:=Nat.le_trans I.ok.above (Nat.le_of_lt I.lt)
theorem Inv.nofs (I:Inv X pins σ H s) {a:Addr}(h:s.heap.objs.size≤a):a∉X.fs:=fun hb=>by
 obtain ⟨_,o,ho,_⟩:=I.ok.funs.mem hb
 exact absurd (Nat.lt_of_lt_of_le (Heap.lt_size ho) (Nat.le_trans I.sz h)) (Nat.lt_irrefl _)
theorem Inv.cne (I:Inv X pins σ H s):∀ x c,X.env.cells.lookup x=some c→c≠X.env.locals:=fun x c e z=>by
 obtain ⟨v,o,ho,hd⟩:=I.cell x c e
 obtain ⟨m,⟨o',es,ep,ho',hd',_⟩,_⟩:=I.loc
 rw [z,ho'] at ho;cases ho;rw [hd'] at hd;cases hd
theorem Inv.funs (I:Inv X pins σ H s):s.heap.FunFrames X.base X.outer:=by
 have all:∀ (l:List Env),(∀ b∈frs l,b∈X.fs)→X.s₀.heap.FunFrames X.base l→s.heap.FunFrames X.base l:=by
  intro l
  induction l with
  |nil=>intro _ _;trivial
  |cons env r ih =>
   intro hs hl
   obtain ⟨hk,⟨L,o,hf,hn,ho,hd⟩,hr⟩:=hl
   have hL:L∈X.fs:=hs L (by unfold frs;rw [List.filterMap_cons,hf];exact List.mem_cons_self)
   obtain ⟨sl,e⟩:=I.base.slot L o ho (I.ok.frf L hL) hL fun z=>I.ok.exfs L z hL
   exact ⟨hk,⟨L,_,hf,hn,e,hd⟩,ih (fun b hb=>hs b (by unfold frs;rw [List.filterMap_cons,hf];exact List.mem_cons_of_mem _ hb)) hr⟩
 exact all X.outer (fun _ hb=>hb) I.ok.funs
theorem Inv.stack (I:Inv X pins σ H s):s.heap.FunFrames X.base X.stack:=by
 rcases I.ok.stk with e|⟨e,hf⟩
 ·rw [e];exact I.funs
 ·rw [e]
  obtain ⟨m,hn,_⟩:=I.loc
  refine .cons (by rw [I.ok.kind];decide) hf hn ?_ I.funs
  exact Heap.get?_none_of_le (Nat.le_trans I.ok.bsz I.ok.above)
theorem Inv.stkSub (I:Inv X pins σ H s):∀ b∈frs X.stack,b∈X.env.locals::X.fs:=fun b hb=>by
 rcases I.ok.stk with e|⟨e,hf⟩
 ·rw [e] at hb;exact List.mem_cons_of_mem _ hb
 ·rw [e] at hb
  unfold frs at hb
  rw [List.filterMap_cons,hf] at hb
  exact hb
theorem Inv.stkFree (I:Inv X pins σ H s):∀ b∈frs X.stack,H b=none:=fun b hb=>by
 rcases List.mem_cons.mp (I.stkSub b hb) with e|hb
 ·rw [e];exact I.free
 ·obtain ⟨_,o,ho,_⟩:=I.ok.funs.mem hb
  exact I.base.free b o ho (I.ok.frf b hb) fun z=>I.ok.exfs b z hb
theorem Inv.step {g':Array GenState}{t':Nat}{d':Drawn}{ch:List Addr}(I:Inv X pins σ H s)
  (hch:∀ b∈ch,(b∈X.ex∨X.s₀.heap.objs.size≤b)∧b≠X.env.locals∧(∀ x c,X.env.cells.lookup x=some c→c≠b)∧∀ p∈X.pn ++ pins,p.1≠b)
  (keep:∀ b o,b≠X.env.locals→b∉X.fs→b∉ch→s.heap.get? b=some o→H b=none→h'.get? b=some o)
  (slot:∀ b o,b≠X.env.locals→b∈X.fs→b∉ch→s.heap.get? b=some o→H b=none→∃ sl,h'.get? b=some { o with slots:=sl }) (free:∀ b o,b∉ch→s.heap.get? b=some o→H b=none→H' b=none)
  (there:∀ b o,b∉ch→s.heap.get? b=some o→∃ o',h'.get? b=some o')
  (tups:∀ b xs,H b=some (.tup xs)→H' b=some (.tup xs)) (frzs:∀ b o u,H b=some (.frz o u)→H' b=some (.frz o u)) (tbls:∀ b ps,H b=some (.tbl ps)→∃ more,H' b=some (.tbl (ps ++ more)))
  (ns:∀ m,s.heap.Ns X.env.locals m→h'.Ns X.env.locals m) (hok:HOk X.prog X.w H' h') (hg:AllBare g') :
  Inv X pins σ H' { s with heap:=h',gens:=g',drawn:=d',toks:=t' }:=by
 have neL:∀ b o,X.s₀.heap.get? b=some o→b≠X.env.locals:=fun b o e=>Nat.ne_of_lt (Nat.lt_of_lt_of_le (Heap.lt_size e) I.ok.above)
 have neC:∀ b o,X.s₀.heap.get? b=some o→b∉X.ex→b∉ch:=fun b o e hx hb=>by
  rcases (hch b hb).1 with z|z
  ·exact hx z
  ·exact absurd (Nat.lt_of_lt_of_le (Heap.lt_size e) z) (Nat.lt_irrefl _)
 have cellK:∀ x c,X.env.cells.lookup x=some c→∀ v,s.heap.IsCell c v→h'.IsCell c v:=fun x c e v ⟨o,ho,hd⟩=>by
  have nch:c∉ch:=fun z=>(hch c z).2.2.1 x c e rfl
  by_cases hc:c∈X.fs
  ·obtain ⟨sl,q⟩:=slot c o (I.cne x c e) hc nch ho (I.freeC x c e)
   exact ⟨_,q,hd⟩
  ·exact ⟨o,keep c o (I.cne x c e) hc nch ho (I.freeC x c e),hd⟩
 refine ⟨I.ok,I.os,hg,⟨fun b o e n hb hx=>?_,fun b o e n hb hx=>?_,fun b o e n hx=>?_,fun b o e hx=>?_,fun b xs e=>tups b xs (I.base.tups b xs e),fun b o xs e=>frzs b o xs (I.base.frzs b o xs e),fun b ps e=>?_⟩,?_,fun x c e=>?_,?_,fun x c e=>?_,fun p hp=>?_,hok,I.len⟩
 ·exact keep b o (neL b o e) hb (neC b o e hx) (I.base.keep b o e n hb hx) (I.base.free b o e n hx)
 ·obtain ⟨sl,e1⟩:=I.base.slot b o e n hb hx
  obtain ⟨sl',e2⟩:=slot b _ (neL b o e) hb (neC b o e hx) e1 (I.base.free b o e n hx)
  exact ⟨sl',e2⟩
 ·obtain ⟨o',e1⟩:=I.base.there b o e hx
  exact free b o' (neC b o e hx) e1 (I.base.free b o e n hx)
 ·obtain ⟨o',e1⟩:=I.base.there b o e hx
  exact there b o' (neC b o e hx) e1
 ·obtain ⟨m1,e1⟩:=I.base.tbls b ps e
  obtain ⟨m2,e2⟩:=tbls b _ e1
  exact ⟨m1 ++ m2,by rw [e2,Array.append_assoc]⟩
 ·obtain ⟨m,hn,hl⟩:=I.loc
  refine ⟨m,ns m hn,fun i x v e1 e2 e3=>?_⟩
  obtain ⟨u,r,l⟩:=hl i x v e1 e2 e3
  refine ⟨u,r,?_⟩
  rcases l with l|⟨k,c,e,z⟩
  ·exact .inl l
  ·exact .inr ⟨k,c,e,cellK x c e _ z⟩
 ·obtain ⟨v,z⟩:=I.cell x c e
  exact ⟨v,cellK x c e v z⟩
 ·obtain ⟨m,⟨o,_,_,ho,_⟩,_⟩:=I.loc
  exact free _ o (fun z=>(hch _ z).2.1 rfl) ho I.free
 ·obtain ⟨v,o,ho,hd⟩:=I.cell x c e
  exact free c o (fun z=>(hch c z).2.2.1 x c e rfl) ho (I.freeC x c e)
 ·obtain ⟨e,n,ne,nf,d⟩:=I.pin p hp
  have nch:p.1∉ch:=fun z=>(hch p.1 z).2.2.2 p hp rfl
  exact ⟨keep p.1 p.2 ne nf nch e n,free p.1 p.2 nch e n,ne,nf,d⟩
theorem Inv.un {t':Nat}(I:Inv X pins σ H s) (u:Un X.fs [] H H' s.heap h') (hok:HOk X.prog X.w H' h'):Inv X pins σ H' { s with heap:=h',toks:=t' }:=by
 obtain ⟨m,⟨o,es,ep,ho,r⟩,_⟩:=id I.loc
 obtain ⟨sl,hL⟩:=u.any ho I.free (by simp)
 exact I.step (g':=s.gens) (d':=s.drawn) (ch:=[]) (fun _ z=>nomatch z) (fun b o _ hb _ e n=>u.keep b o e n hb (by simp)) (fun b o _ hb _ e n=>u.slot b o e n hb (by simp)) (fun b o _ e n=>u.free b o e n (by simp)) (fun b o _ e=>u.there b o e (by simp)) u.tups u.frzs u.tbls (fun m' hm=>by
  obtain ⟨o',es',ep',ho',r'⟩:=hm
  rw [ho] at ho';cases ho'
  exact ⟨_,es',ep',hL,r'⟩) hok I.bare
theorem Inv.call {g':Array GenState}{t':Nat}{d':Drawn}{ch:List Addr}(I:Inv X pins σ H s) (u:Un (frs X.stack) ch H H' s.heap h') (hok:HOk X.prog X.w H' h') (hg:AllBare g')
  (hch:∀ b∈ch,(b∈X.ex∨X.s₀.heap.objs.size≤b)∧b≠X.env.locals∧(∀ x c,X.env.cells.lookup x=some c→c≠b)∧∀ p∈X.pn ++ pins,p.1≠b) :
  Inv X pins σ H' { s with heap:=h',gens:=g',drawn:=d',toks:=t' }:=by
 obtain ⟨m,⟨o,es,ep,ho,r⟩,_⟩:=id I.loc
 obtain ⟨sl,hL⟩:=u.any ho I.free fun z=>(hch _ z).2.1 rfl
 exact I.step (ch:=ch) hch (fun b o hL hb hc e n=>u.keep b o e n (fun z=>(List.mem_cons.mp (I.stkSub b z)).elim hL hb) hc) (fun b o _ _ hc e n=>u.any e n hc) (fun b o hc e n=>u.free b o e n hc) (fun b o hc e=>u.there b o e hc) u.tups u.frzs u.tbls (fun m' hm=>by
  obtain ⟨o',es',ep',ho',r'⟩:=hm
  rw [ho] at ho';cases ho'
  exact ⟨_,es',ep',hL,r'⟩) hok hg
theorem Inv.turned {t':Nat}{it:Addr}(I:Inv X pins σ H s) (k:∀ b o,b≠it→s.heap.get? b=some o→h'.get? b=some o) (hn:H it=none) (hL:it≠X.env.locals)
  (h1:it∈X.ex∨X.s₀.heap.objs.size≤it) (h2:∀ x c,X.env.cells.lookup x=some c→c≠it) (h3:∀ p∈X.pn ++ pins,p.1≠it):Inv X pins σ H { s with heap:=h',toks:=t' }:=by
 have nit:∀ b u,H b=some u→b≠it:=fun b u e z=>by rw [z,hn] at e;cases e
 refine I.step (g':=s.gens) (d':=s.drawn) (ch:=[it]) (fun b hb=>?_) (fun b o _ _ hc e _=>k b o (fun z=>hc (by simp [z])) e) (fun b o _ _ hc e _=>⟨o.slots,k b o (fun z=>hc (by simp [z])) e⟩) (fun _ _ _ _ n=>n)
  (fun b o hc e=>⟨o,k b o (fun z=>hc (by simp [z])) e⟩) (fun _ _ e=>e) (fun _ _ _ e=>e) (fun b ps e=>⟨#[],by rw [e];simp⟩) (fun m hm=>?_) (fun b u e=>?_) I.bare
 ·have e:b=it:=by simpa using hb
  subst e
  exact ⟨h1,hL,h2,h3⟩
 ·obtain ⟨o,es,ep,ho,r⟩:=hm
  exact ⟨o,es,ep,k _ o (Ne.symm hL) ho,r⟩
 ·refine (I.hok b u e).stay (fun c v hc q=>k c v ?_ q) (fun _ q=>q) fun _ _ q=>q
  rcases hc with z|z
  ·rw [z];exact nit b u e
  ·exact nit c _ z
theorem Inv.tok (I:Inv X pins σ H s) (t:Nat):Inv X pins σ H { s with toks:=t }:=I.un (h':=s.heap) (t':=t) Un.refl I.hok
theorem Inv.kept {t':Nat}(I:Inv X pins σ H s) (k:∀ b u,s.heap.get? b=some u→h'.get? b=some u):Inv X pins σ H { s with heap:=h',toks:=t' }:=I.un (Un.kept k) (I.hok.kept k)
theorem Inv.laid {a:Addr}{o:HO}{t':Nat}(I:Inv X pins σ H s) (k:∀ b u,s.heap.get? b=some u→h'.get? b=some u) (hp:s.heap.objs.size≤a) (new:ObjOk X.prog X.w (upd H a o) h' a o) :
  Inv X pins σ (upd H a o) { s with heap:=h',toks:=t' }:=I.un (Un.laid k hp (I.hok.fresh hp)) (I.hok.laid k hp new)
theorem Inv.write {x e:Addr}{o:HO}{t':Nat}(I:Inv X pins σ H s) (mu:Mut (H x)) (he:e=x∨H e=some (.own x)) (k:∀ b u,b≠e→s.heap.get? b=some u→h'.get? b=some u) (heo:∃ u,h'.get? e=some u)
  (new:ObjOk X.prog X.w (upd H x o) h' x o):Inv X pins σ (upd H x o) { s with heap:=h',toks:=t' }:=I.un (Un.write mu he k heo) (I.hok.write mu he k heo new)
theorem Inv.pins_of {pins':List (Addr × Obj)}(I:Inv X pins σ H s) (h:∀ p∈pins',s.heap.get? p.1=some p.2∧H p.1=none∧p.1≠X.env.locals∧p.1∉X.fs∧∀ v,p.2.data ≠ .cell v):Inv X pins' σ H s :=
 ⟨I.ok,I.os,I.bare,I.base,I.loc,I.cell,I.free,I.freeC,fun p hp=>(List.mem_append.mp hp).elim (fun z=>I.pin p (List.mem_append_left _ z)) (h p),I.hok,I.len⟩
theorem nodup_ix {N:List Str}(hN:N.Nodup) {i j:Nat}{x:Str}(a:N[i]? = some x) (b:N[j]? = some x):i=j:=by
 obtain ⟨h1,e1⟩:=List.getElem?_eq_some_iff.mp a
 obtain ⟨h2,e2⟩:=List.getElem?_eq_some_iff.mp b
 exact (List.getElem_inj hN).mp (e1.trans e2.symm)
theorem store_ok2 {M:Model}{A:Around}{E:Value→Shared→Prop}{i:Nat}{x:Str}{v:V}{u:Value}{Q:Unit→Shared→Prop}(I:Inv X pins σ H s) (hN:X.N.Nodup) (hi:X.N[i]? = some x) (hx:Loc X.env.scope x) (r:RelV v u)
  (h:∀ s',Inv X pins (σ.set i (some v)) H s'→(∃ a,Heap.SameBut a s.heap s'.heap∧(a=X.env.locals∨X.env.cells.lookup x=some a))→Q () s') (hf:X.fn x=true∨X.env.scope.names.lookup x=some .local:=by first|exact .inl rfl|exact .inr rfl|assumption):wpAny M A (storeName X.env x u) Q E s:=by
 obtain ⟨m,hn,hl⟩:=id I.loc
 have hcls:(X.env.scope.kind == .class || (X.env.scope.kind == .module && X.env.locals != X.env.globals))=false:=by rw [I.ok.kind];rfl
 have hiσ:i < σ.length:=by rw [I.len];exact (List.getElem?_eq_some_iff.mp hi).1
 have cne:=I.cne
 have tracked:∀ {a:Addr}{h':Heap},(∃ o,s.heap.get? a=some o∧H a=none)→Heap.SameBut a s.heap h'→HOk X.prog X.w H h':=fun {a h'} ha hs b ob e=>by
  obtain ⟨_,_,hfree⟩:=ha
  refine (I.hok b ob e).stay (fun c w' hc q=>(hs.2 c ?_).trans q) (fun _ q=>q) fun _ _ q=>q
  rintro rfl
  rcases hc with rfl|hc
  ·rw [hfree] at e;cases e
  ·rw [hfree] at hc;cases hc
 rcases hx with hk|hk
 ·refine wpAny_storeName_local hk hn (fun h' hn' hs=>?_) hcls
  obtain ⟨oL,_,_,hoL,_⟩:=id hn
  refine h _ ⟨I.ok,I.os,I.bare,⟨fun b o e n hb hx=>?_,fun b o e n hb hx=>?_,I.base.free,fun b o e hx=>?_,I.base.tups,I.base.frzs,I.base.tbls⟩,⟨_,hn',fun j y v' e1 e2 e3=>?_⟩,fun y c e=>?_,I.free,I.freeC,fun p hp=>?_,tracked ⟨oL,hoL,I.free⟩ hs,by simpa using I.len⟩ ⟨_,hs,.inl rfl⟩
  ·exact (hs.2 b (Nat.ne_of_lt (Nat.lt_of_lt_of_le (Heap.lt_size e) I.ok.above))).trans (I.base.keep b o e n hb hx)
  ·obtain ⟨sl,e1⟩:=I.base.slot b o e n hb hx
   exact ⟨sl,(hs.2 b (Nat.ne_of_lt (Nat.lt_of_lt_of_le (Heap.lt_size e) I.ok.above))).trans e1⟩
  ·obtain ⟨o',e1⟩:=I.base.there b o e hx
   exact ⟨o',(hs.2 b (Nat.ne_of_lt (Nat.lt_of_lt_of_le (Heap.lt_size e) I.ok.above))).trans e1⟩
  ·by_cases hj:j=i
   ·subst hj
    rw [hi] at e1;cases e1
    rw [List.getElem?_set_self hiσ] at e2
    cases e2
    exact ⟨u,r,.inl ⟨hk,by simp⟩⟩
   ·rw [List.getElem?_set_ne (Ne.symm hj)] at e2
    obtain ⟨u',r',q⟩:=hl j y v' e1 e2 e3
    refine ⟨u',r',?_⟩
    rcases q with ⟨k,e⟩|⟨k,c,e,z⟩
    ·refine .inl ⟨k,?_⟩
     have:y≠x:=fun e=>hj (nodup_ix hN e1 (e ▸ hi))
     simp [this,e]
    ·exact .inr ⟨k,c,e,z.sameBut hs (cne y c e)⟩
  ·obtain ⟨w',z⟩:=I.cell y c e
   exact ⟨w',z.sameBut hs (cne y c e)⟩
  ·obtain ⟨e,n,ne,nf,d⟩:=I.pin p hp
   exact ⟨(hs.2 p.1 ne).trans e,n,ne,nf,d⟩
 ·have hfn:X.fn x=true:=by
   rcases hf with z|z
   ·exact z
   ·rw [z] at hk;cases hk
  obtain ⟨c,hc⟩:=I.ok.has x (.inl hk)
  obtain ⟨w',z⟩:=I.cell x c hc
  refine wpAny_storeName_cell I.ok.kind hk hc z (fun h' hc' hs=>?_)
  obtain ⟨oc,hoc,hocd⟩:=id z
  refine h { s with heap:=h' } ⟨I.ok,I.os,I.bare,⟨fun b o e n hb hx=>?_,fun b o e n hb hx=>?_,I.base.free,fun b o e hx=>?_,I.base.tups,I.base.frzs,I.base.tbls⟩,⟨m,hn.sameBut hs (Ne.symm (cne x c hc)),fun j y v' e1 e2 e3=>?_⟩,fun y c' e=>?_,I.free,I.freeC,fun p hp=>?_,tracked ⟨oc,hoc,I.freeC x c hc⟩ hs,by simpa using I.len⟩ ⟨c,hs,.inr hc⟩
  ·exact (hs.2 b (Nat.ne_of_lt (Nat.lt_of_lt_of_le (Heap.lt_size e) (I.ok.cab x c hfn hc)))).trans (I.base.keep b o e n hb hx)
  ·obtain ⟨sl,e1⟩:=I.base.slot b o e n hb hx
   exact ⟨sl,(hs.2 b (Nat.ne_of_lt (Nat.lt_of_lt_of_le (Heap.lt_size e) (I.ok.cab x c hfn hc)))).trans e1⟩
  ·obtain ⟨o',e1⟩:=I.base.there b o e hx
   exact ⟨o',(hs.2 b (Nat.ne_of_lt (Nat.lt_of_lt_of_le (Heap.lt_size e) (I.ok.cab x c hfn hc)))).trans e1⟩
  ·by_cases hj:j=i
   ·subst hj
    rw [hi] at e1;cases e1
    rw [List.getElem?_set_self hiσ] at e2
    cases e2
    exact ⟨u,r,.inr ⟨.inl hk,c,hc,hc'⟩⟩
   ·rw [List.getElem?_set_ne (Ne.symm hj)] at e2
    obtain ⟨u',r',q⟩:=hl j y v' e1 e2 e3
    refine ⟨u',r',?_⟩
    rcases q with q|⟨k,c',e,z'⟩
    ·exact .inl q
    ·refine .inr ⟨k,c',e,z'.sameBut hs ?_⟩
     rintro rfl
     exact hj (nodup_ix hN e1 (I.ok.inj _ _ _ e hc ▸ hi))
  ·by_cases hcc:c' = c
   ·subst hcc;exact ⟨_,hc'⟩
   ·obtain ⟨w2,z2⟩:=I.cell y c' e
    exact ⟨w2,z2.sameBut hs hcc⟩
  ·obtain ⟨e,n,ne,nf,d⟩:=I.pin p hp
   refine ⟨(hs.2 p.1 ?_).trans e,n,ne,nf,d⟩
   intro q
   rw [q,hoc] at e
   have q':oc=p.2:=Option.some.inj e
   exact d w' (by rw [← q'];exact hocd)
theorem store_ok {M:Model}{A:Around}{E:Value→Shared→Prop}{i:Nat}{x:Str}{v:V}{u:Value}{Q:Unit→Shared→Prop}(I:Inv X pins σ H s) (hN:X.N.Nodup) (hi:X.N[i]? = some x) (hx:Loc X.env.scope x) (r:RelV v u)
  (h:∀ s',Inv X pins (σ.set i (some v)) H s'→Q () s') (hf:X.fn x=true∨X.env.scope.names.lookup x=some .local:=by first|exact .inl rfl|exact .inr rfl|assumption):wpAny M A (storeName X.env x u) Q E s :=
 store_ok2 I hN hi hx r (fun s' I' _=>h s' I') hf
theorem Inv.call' {s':Shared}{ch:List Addr}(I:Inv X pins σ H s) (ho:s'.os=s.os) (u:Un (frs X.stack) ch H H' s.heap s'.heap) (hok:HOk X.prog X.w H' s'.heap) (hg:AllBare s'.gens)
  (hch:∀ b∈ch,(b∈X.ex∨X.s₀.heap.objs.size≤b)∧b≠X.env.locals∧(∀ x c,X.env.cells.lookup x=some c→c≠b)∧∀ p∈X.pn ++ pins,p.1≠b):Inv X pins σ H' s':=by
 obtain ⟨h',g',d',t',o'⟩:=s'
 have e:o' = s.os:=ho
 subst e
 exact I.call (g':=g') (t':=t') (d':=d') u hok hg hch
end
abbrev XK:=Value→Option Addr→Hp→Prop
abbrev St:=List (Option V)
abbrev VK:=V→Hp→Prop
abbrev TE:=St→Hp→VK→Prop
abbrev TT:=St→Hp→(Bool→Hp→Prop)→Prop
abbrev TA:=St→Hp→(List V→Hp→Prop)→Prop
structure Ends where
 nx:St→Hp→Prop
 rt:VK
 bk:St→Hp→Prop:=fun _ _=>False
 ct:St→Hp→Prop:=fun _ _=>False
abbrev TS:=Ends→St→Hp→Prop
def EP (X:Cx) (pins:List (Addr × Obj)) (σ:St) (Q:VK) (u:Value) (s':Shared):Prop:=∃ v H',Inv X pins σ H' s'∧RelV v u∧Q v H'
def TP (X:Cx) (pins:List (Addr × Obj)) (σ:St) (Q:Bool→Hp→Prop) (b:Bool) (s':Shared):Prop:=∃ H',Inv X pins σ H' s'∧Q b H'
def AP (X:Cx) (pins:List (Addr × Obj)) (σ:St) (Q:List V→Hp→Prop) (us:List Value) (s':Shared):Prop:=∃ vs H',Inv X pins σ H' s'∧Vals vs us∧Q vs H'
def SP (X:Cx) (pins:List (Addr × Obj)) (D:Ends) (f:Flow) (s':Shared):Prop :=
 match f with
 |.next=>∃ σ' H',Inv X pins σ' H' s'∧D.nx σ' H'
 |.brk=>∃ σ' H',Inv X pins σ' H' s'∧D.bk σ' H'
 |.cont=>∃ σ' H',Inv X pins σ' H' s'∧D.ct σ' H'
 |.ret u=>∃ v σ' H',Inv X pins σ' H' s'∧RelV v u∧D.rt v H'
def PE (X:Cx) (e:Expr) (t:TE):Prop :=
 ∀ (pins:List (Addr × Obj)) (s:Shared) (σ:St) (H:Hp) (Q:VK),Inv X pins σ H s→t σ H Q→wpAny (model X.prog X.w) X.A (eval e X.env) (EP X pins σ Q) X.xe s
def PT (X:Cx) (e:Expr) (t:TT):Prop :=
 ∀ (pins:List (Addr × Obj)) (s:Shared) (σ:St) (H:Hp) (Q:Bool→Hp→Prop),Inv X pins σ H s→t σ H Q→wpAny (model X.prog X.w) X.A (isTrue e X.env (eval e X.env)) (TP X pins σ Q) X.xe s
def PW (X:Cx) (e:Expr) (t:TT):Prop :=
 ∀ (whole:Sem Value) (pins:List (Addr × Obj)) (s:Shared) (σ:St) (H:Hp) (Q:Bool→Hp→Prop),Inv X pins σ H s→t σ H Q→wpAny (model X.prog X.w) X.A (isTrue e X.env whole) (TP X pins σ Q) X.xe s
theorem PW.pt {X:Cx}{e:Expr}{t:TT}(h:PW X e t):PT X e t:=h _
def PA (X:Cx) (es:List Expr) (t:TA):Prop :=
 ∀ (pos:Pos) (pins:List (Addr × Obj)) (s:Shared) (σ:St) (H:Hp) (Q:List V→Hp→Prop),Inv X pins σ H s→t σ H Q→wpAny (model X.prog X.w) X.A (spliced (backTo pos (starEach es X.env))) (AP X pins σ Q) X.xe s
def PS (X:Cx) (st:Stmt) (t:TS):Prop :=
 ∀ (pins:List (Addr × Obj)) (s:Shared) (σ:St) (H:Hp) (D:Ends),Inv X pins σ H s→t D σ H→wpAny (model X.prog X.w) X.A (exec st X.env) (SP X pins D) X.xe s
def PSs (X:Cx) (st:List Stmt) (t:TS):Prop :=
 ∀ (pins:List (Addr × Obj)) (s:Shared) (σ:St) (H:Hp) (D:Ends),Inv X pins σ H s→t D σ H→wpAny (model X.prog X.w) X.A (execs st X.env) (SP X pins D) X.xe s
theorem thn {α:Type}{t:Sem α}{Q Q':α→Shared→Prop}{M:Model}{A:Around}{E:Value→Shared→Prop}{s:Shared}(h:wpAny M A t Q E s) (hQ:∀ a s,Q a s→Q' a s):wpAny M A t Q' E s:=wpAny_mono h hQ fun _ _ x=>x
end L2
namespace L2
open PySem PySem.Spec PyProof.Rows
section
variable {X:Cx}
def tVar (i:Nat):TE:=fun σ H Q=>∃ v,σ[i]? = some (some v)∧Q v H
def tC (v:V):TE:=fun _ H Q=>Q v H
theorem pe_var {i:Nat}{x:Str}{pos:Pos}(hN:X.N[i]? = some x) (hv:Vis X.env.scope x) (hd:(x == ("__debug__":Str))=false:=by decide) (hcd:(x == ("__classdict__":Str))=false:=by decide):PE X (.Name x pos) (tVar i):=by
 intro pins s σ H Q I h
 obtain ⟨v,e,h⟩:=h
 obtain ⟨m,hn,hl⟩:=I.loc
 obtain ⟨u,r,l⟩:=hl i x v hN e hv
 have fin:EP X pins σ Q u s:=⟨v,H,I,r,h⟩
 rcases l with ⟨hk,hm⟩|⟨hk,c,hc,hcell⟩
 ·exact wpAny_Name (wpAny_loadName_local I.ok.kind hk hn hm fin) hd
 ·rcases hk with hk|hk
  ·exact wpAny_Name (wpAny_loadName_cell I.ok.kind hk hc hcell fin) hd
  ·exact wpAny_Name (wpAny_loadName_free I.ok.kind hk hc hcell fin hcd) hd
theorem z3j {i j pos}:PE X (.Constant (.int i) j pos) (tC (.int i)):=fun _ _ _ H _ I h=>wpAny_Constant_int ⟨.int i,H,I.tok _,⟨_,rfl⟩,h⟩
theorem pe_bl {b j pos}:PE X (.Constant (.bool b) j pos) (tC (.bl b)):=fun _ _ _ H _ I h=>Constant_bool ⟨.bl b,H,I,rfl,h⟩
theorem pe_str {x j pos}:PE X (.Constant (.str x) j pos) (tC (.str x)):=fun _ _ _ H _ I h=>Calls.Constant_str ⟨.str x,H,I.tok _,⟨_,rfl⟩,h⟩
def Gl (X:Cx) (x:Str):Prop:=X.env.kindOf x=some .globalImplicit
theorem ld_glob {E:Value→Shared→Prop}{pins:List (Addr × Obj)}{s:Shared}{σ:St}{H:Hp}{x:Str}{u:Value}{pos:Pos}{Q:Value→Shared→Prop}(I:Inv X pins σ H s) (hg:Gl X x) (hm:X.mg x=some u) (h:Q u s)
  (hd:(x == ("__debug__":Str))=false:=by decide):wpAny (model X.prog X.w) X.A (eval (.Name x pos) X.env) Q E s :=
 Calls.Name_function_global I.ok.kind hg (Calls.loadGlobal_global (by rw [I.ok.glob];exact I.mod.glob.keeps I.bk) hm h) hd
theorem z5s {E:Value→Shared→Prop}{pins:List (Addr × Obj)}{s:Shared}{σ:St}{H:Hp}{x:Str}{u:Value}{pos:Pos}{Q:Value→Shared→Prop}(I:Inv X pins σ H s) (hg:Gl X x) (hm:X.mg x=none) (hv:bootBuiltins x=some u) (h:Q u s)
  (hn:x ≠ "__name__":=by decide) (hd:(x == ("__debug__":Str))=false:=by decide):wpAny (model X.prog X.w) X.A (eval (.Name x pos) X.env) Q E s:=by
 obtain ⟨mb,h1,h2⟩:=I.mod.blt
 exact Calls.Name_function_global I.ok.kind hg (Calls.loadGlobal_builtin (by rw [I.ok.glob];exact I.mod.glob.keeps I.bk) hm (by rw [I.ok.blt];exact h1.keeps I.bk) ((h2 x hn).trans hv) h) hd
theorem pe_glob {x:Str}{v:V}{u:Value}{pos:Pos}(hg:Gl X x) (hm:X.mg x=some u) (r:RelV v u) (hd:(x == ("__debug__":Str))=false:=by decide):PE X (.Name x pos) (tC v) :=
 fun _ _ _ H _ I h=>ld_glob I hg hm ⟨v,H,I,r,h⟩ hd
theorem pe_bltn {x:Str}{v:V}{u:Value}{pos:Pos}(hg:Gl X x) (hm:X.mg x=none) (hv:bootBuiltins x=some u) (r:RelV v u) (hn:x ≠ "__name__":=by decide) (hd:(x == ("__debug__":Str))=false:=by decide):PE X (.Name x pos) (tC v) :=
 fun _ _ _ H _ I h=>z5s I hg hm hv ⟨v,H,I,r,h⟩ hn hd
variable {a b:Expr}{ta tb:TE}{pos:Pos}
def PC (X:Cx) (op:CmpOp) (a b:Expr) (t:TE):Prop :=
 ∀ (pins:List (Addr × Obj)) (s:Shared) (σ:St) (H:Hp) (Q:VK),Inv X pins σ H s→t σ H Q →
  wpAny (model X.prog X.w) X.A (eval a X.env) (fun v s₁=>wpAny (model X.prog X.w) X.A (eval b X.env) (fun u s₂=>wpAny (model X.prog X.w) X.A (compareOp op v u) (EP X pins σ Q) X.xe s₂) X.xe s₁) X.xe s
theorem nobehind (b:Expr) {op:CmpOp}(h:op ≠ .In) (h2:op ≠ .NotIn):behindInMarks op b=false:=by
 have e1:(op == CmpOp.In)=false:=by cases op <;> first|rfl|exact absurd rfl h
 have e2:(op == CmpOp.NotIn)=false:=by cases op <;> first|rfl|exact absurd rfl h2
 cases b <;> simp [behindInMarks,e1,e2]
def tB (t:TE):TT:=fun σ H Q=>t σ H fun x H1=>∃ c,x = .bl c∧Q c H1
theorem pe_cmp {op:CmpOp}{t:TE}(h:PC X op a b t) (h1:behindInMarks op b=false:=by first|exact nobehind _ (by decide) (by decide)|rfl):PE X (.Compare a [op] [b] pos) t:=fun pins s σ H Q I hw=>wpAny_Compare1 (h pins s σ H Q I hw) h1
theorem pt_cmp {op:CmpOp}{t:TE}(h:PC X op a b t) (h1:behindInMarks op b=false:=by first|exact nobehind _ (by decide) (by decide)|rfl):PT X (.Compare a [op] [b] pos) (tB t):=by
 intro pins s σ H Q I hw
 refine wpAny_isTrue_Compare1 (thn (h pins s σ H _ I hw) fun v s1 h1=>thn h1 fun u s2 h2=>thn h2 fun c s3 ⟨x,H1,I1,r1,q1⟩=>?_) h1
 obtain ⟨d,rfl,q⟩:=q1
 cases r1
 exact wpAny_truthy_bool ⟨H1,I1,q⟩
theorem y2j {e:Expr}{t:TE}(h:PE X e t) (he:∀ whole,isTrue e X.env whole=(do let v ← whole;standAt e.pos;holding [v] (truthy v)):=by intro _;rfl):PT X e (tB t):=by
 intro pins s σ H Q I hw
 refine isTrue_plain (thn (h pins s σ H _ I hw) fun v s1 ⟨x,H1,I1,r1,q1⟩=>?_) (he _)
 obtain ⟨d,rfl,q⟩:=q1
 cases r1
 exact wpAny_truthy_bool ⟨H1,I1,q⟩
variable {tA tB':TT}{rest:List Expr}
def tAnd (t u:TT):TT:=fun σ H Q=>t σ H fun c H1=>if c=true then u σ H1 Q else Q false H1
def tOr (t u:TT):TT:=fun σ H Q=>t σ H fun c H1=>if c=true then Q true H1 else u σ H1 Q
def tNot (t:TT):TT:=fun σ H Q=>t σ H fun c H1=>Q (!c) H1
theorem pw_and1 (ha:PT X a tA):PW X (.BoolOp .And [a] pos) tA:=by
 intro wh pins s σ H Q I h
 refine isTrue_and (thn (ha pins s σ H Q I h) fun c s1 e=>?_)
 cases c with
 |true=>exact isTrue_and_nil e
 |false=>exact e
theorem pw_or1 (ha:PT X a tA):PW X (.BoolOp .Or [a] pos) tA:=by
 intro wh pins s σ H Q I h
 refine isTrue_or (thn (ha pins s σ H Q I h) fun c s1 e=>?_)
 cases c with
 |false=>exact isTrue_or_nil e
 |true=>exact e
theorem pw_and (ha:PT X a tA) (hb:PW X (.BoolOp .And (b::rest) pos) tB'):PW X (.BoolOp .And (a::b::rest) pos) (tAnd tA tB'):=by
 intro wh pins s σ H Q I h
 refine isTrue_and (thn (ha pins s σ H _ I h) fun c s1 ⟨H1,I1,q1⟩=>?_)
 cases c with
 |true=>exact hb wh pins s1 σ H1 Q I1 q1
 |false=>exact ⟨H1,I1,q1⟩
theorem pw_or (ha:PT X a tA) (hb:PW X (.BoolOp .Or (b::rest) pos) tB'):PW X (.BoolOp .Or (a::b::rest) pos) (tOr tA tB'):=by
 intro wh pins s σ H Q I h
 refine isTrue_or (thn (ha pins s σ H _ I h) fun c s1 ⟨H1,I1,q1⟩=>?_)
 cases c with
 |true=>exact ⟨H1,I1,q1⟩
 |false=>exact hb wh pins s1 σ H1 Q I1 q1
theorem pt_not (ha:PT X a tA):PT X (.UnaryOp .Not a pos) (tNot tA):=by
 intro pins s σ H Q I h
 exact isTrue_not (ha pins s σ H (fun c H1=>Q (!c) H1) I h)
def tAndV (ta tb:TE):TE:=fun σ H Q=>ta σ H fun x H1=>∃ c,x = .bl c∧if c=true then tb σ H1 Q else Q (.bl false) H1
def tNotV (ta:TE):TE:=fun σ H Q=>ta σ H fun x H1=>∃ c,x = .bl c∧Q (.bl (!c)) H1
theorem pe_one {op} {t:TE}(h:PE X a t):PE X (.BoolOp op [a] pos) t:=fun pins s σ H Q I hw=>BoolOp_one (h pins s σ H Q I hw)
theorem pe_and (ha:PE X a ta) (hb:PE X (.BoolOp .And (b::rest) pos) tb):PE X (.BoolOp .And (a::b::rest) pos) (tAndV ta tb):=by
 intro pins s σ H Q I h
 refine BoolOp_and (thn (ha pins s σ H _ I h) fun v s1 ⟨x,H1,I1,r1,q1⟩=>?_)
 obtain ⟨c,rfl,q1⟩:=q1
 cases r1
 refine wpAny_truthy_bool ?_
 cases c with
 |true=>exact hb pins s1 σ H1 Q I1 q1
 |false=>exact ⟨.bl false,H1,I1,rfl,q1⟩
theorem pe_not (ha:PE X a ta):PE X (.UnaryOp .Not a pos) (tNotV ta):=by
 intro pins s σ H Q I h
 refine UnaryOp_ (thn (ha pins s σ H _ I h) fun v s1 ⟨x,H1,I1,r1,q1⟩=>?_)
 obtain ⟨c,rfl,q1⟩:=q1
 cases r1
 exact not_of (wpAny_truthy_bool ⟨.bl (!c),H1,I1,rfl,q1⟩)
def tIf (t:TT) (ta tb:TE):TE:=fun σ H Q=>t σ H fun c H1=>if c=true then ta σ H1 Q else tb σ H1 Q
theorem pe_ifExp {c:Expr}(hc:PT X c tA) (ha:PE X a ta) (hb:PE X b tb):PE X (.IfExp c a b pos) (tIf tA ta tb):=by
 intro pins s σ H Q I h
 refine wpAny_IfExp (thn (hc pins s σ H _ I h) fun d s1 ⟨H1,I1,q1⟩=>?_)
 cases d with
 |true=>exact ha pins s1 σ H1 Q I1 q1
 |false=>exact hb pins s1 σ H1 Q I1 q1
end
end L2
namespace L2
open PySem PySem.Spec PyProof.Rows
def SqL (K:PySem.W.Frag) (H:Hp) (a:Addr) (xs:List V):Prop :=
 Rd H a (.lst xs) ∨
  ∃ (o:Obj) (its:Array Value) (n:Nat),K.lookup a=some o∧o.cls = .type "list"∧o.dict=none∧o.data = .seq its n∧its.size≤sizeLine∧Vals xs its.toList
def SqT (K:PySem.W.Frag) (H:Hp) (a:Addr) (xs:List V):Prop :=
 Rd H a (.tup xs) ∨
  ∃ (o:Obj) (its:Array Value) (n:Nat),K.lookup a=some o∧o.cls = .type "tuple"∧o.data = .seq its n∧its.size≤sizeLine∧Vals xs its.toList
def absV:Value→Option V
 |.none=>some .non
 |.bool b=>some (.bl b)
 |.int i _=>some (.int i)
 |.str x _=>some (.str x)
 |.bytes b _=>some (.byt b)
 |.float b _=>some (.flt b)
 |.ref a=>some (.ref a)
 |.type n=>some (.ty n)
 |_=>none
theorem RelV.abs {x:V}{u:Value}(r:RelV x u):absV u=some x:=by
 cases x with
 |non=>cases r;rfl
 |bl _=>cases r;rfl
 |int _=>obtain ⟨t,rfl⟩:=r;rfl
 |str _=>obtain ⟨t,rfl⟩:=r;rfl
 |byt _=>obtain ⟨t,rfl⟩:=r;rfl
 |flt _=>obtain ⟨t,rfl⟩:=r;rfl
 |ref _=>cases r;rfl
 |ty _=>cases r;rfl
theorem RelV.inj {x y:V}{u:Value}(r:RelV x u) (q:RelV y u):x=y:=Option.some.inj (r.abs.symm.trans q.abs)
theorem Vals.inj:∀ {xs ys:List V}{us:List Value},Vals xs us→Vals ys us→xs=ys
 |_,_,_,.nil,.nil=>rfl
 |_,_,_,.cons r t,.cons r' t'=>by rw [r.inj r',Vals.inj t t']
section
variable {X:Cx}{pins:List (Addr × Obj)}{σ:St}{H:Hp}{s:Shared}{a:Addr}{xs ys:List V}
theorem SqL.of {K:PySem.W.Frag}(h:H a=some (.lst xs)):SqL K H a xs:=.inl (.inl h)
theorem SqT.of {K:PySem.W.Frag}(h:H a=some (.tup xs)):SqT K H a xs:=.inl (.inl h)
theorem Inv.list (I:Inv X pins σ H s) (h:SqL X.K H a xs):∃ its:List Value,Vals xs its∧PlainL s.heap a its.toArray∧xs.length≤sizeLine:=by
 rcases h with h|⟨o,its,n,hk,hc,hd,hs,hz,r⟩
 ·obtain ⟨z,its,n,r,e⟩:=h.ok I.hok
  exact ⟨its,r,⟨_,n,e,rfl,rfl,rfl⟩,z⟩
 ·refine ⟨its.toList,r,⟨o,n,I.kIn a o hk,hc,hd,by simpa using hs⟩,?_⟩
  have e:=r.length
  simp only [Array.length_toList] at e
  omega
theorem Inv.tuple (I:Inv X pins σ H s) (h:SqT X.K H a xs):∃ its:List Value,Vals xs its∧IsTup s.heap a its.toArray∧xs.length≤sizeLine:=by
 rcases h with h|⟨o,its,n,hk,hc,hs,hz,r⟩
 ·obtain ⟨z,its,r,p⟩:=h.ok I.hok
  exact ⟨its,r,p,z⟩
 ·refine ⟨its.toList,r,⟨o,I.kIn a o hk,hc,n,by simpa using hs⟩,?_⟩
  have e:=r.length
  simp only [Array.length_toList] at e
  omega
theorem Inv.list_inj (I:Inv X pins σ H s) (h:SqL X.K H a xs) (h':SqL X.K H a ys):xs=ys:=by
 obtain ⟨its,r,⟨o,n,e,_,_,d⟩,_⟩:=I.list h
 obtain ⟨its',r',⟨o',n',e',_,_,d'⟩,_⟩:=I.list h'
 rw [e] at e';cases e'
 rw [d] at d'
 injection d' with d1 _
 have:its=its':=by simpa using congrArg Array.toList d1
 subst this
 exact r.inj r'
end
abbrev Cx.wish (X:Cx) (E:Value→Shared→Prop):Cx:={ X with xe:=E }
abbrev Cx.nox (X:Cx):Cx:=X.wish fun _ _=>False
theorem Cx.Ok.wish {X:Cx}(ok:X.Ok) (E:Value→Shared→Prop):(X.wish E).Ok :=
 ⟨ok.mod,ok.kind,ok.glob,ok.blt,ok.above,ok.inj,ok.has,ok.cab,ok.hd,ok.frames,ok.stk,ok.exf,ok.bs,ok.bsz,ok.noex,ok.exfs,ok.funs,ok.frf⟩
theorem Cx.Ok.unwish {X:Cx}{E:Value→Shared→Prop}(ok:(X.wish E).Ok):X.Ok :=
 ⟨ok.mod,ok.kind,ok.glob,ok.blt,ok.above,ok.inj,ok.has,ok.cab,ok.hd,ok.frames,ok.stk,ok.exf,ok.bs,ok.bsz,ok.noex,ok.exfs,ok.funs,ok.frf⟩
section
variable {X:Cx}{pins:List (Addr × Obj)}{σ:St}{H:Hp}{s:Shared}{E:Value→Shared→Prop}
theorem Inv.wish (I:Inv X pins σ H s) (E:Value→Shared→Prop):Inv (X.wish E) pins σ H s:=⟨I.ok.wish E,I.os,I.bare,I.base,I.loc,I.cell,I.free,I.freeC,I.pin,I.hok,I.len⟩
theorem Inv.unwish (I:Inv (X.wish E) pins σ H s):Inv X pins σ H s:=⟨I.ok.unwish,I.os,I.bare,I.base,I.loc,I.cell,I.free,I.freeC,I.pin,I.hok,I.len⟩
theorem SP.unwish {D:Ends}{f:Flow}{s':Shared}(h:SP (X.wish E) pins D f s'):SP X pins D f s':=by
 cases f with
 |next=>obtain ⟨σ',H',I,q⟩:=h;exact ⟨σ',H',I.unwish,q⟩
 |brk=>obtain ⟨σ',H',I,q⟩:=h;exact ⟨σ',H',I.unwish,q⟩
 |cont=>obtain ⟨σ',H',I,q⟩:=h;exact ⟨σ',H',I.unwish,q⟩
 |ret u=>obtain ⟨v,σ',H',I,r,q⟩:=h;exact ⟨v,σ',H',I.unwish,r,q⟩
theorem PSs.nox {st:List Stmt}{t:TS}(h:PSs X.nox st t):PSs X st t:=fun pins s σ H D I hw =>
 wpAny_mono (h pins s σ H D (I.wish _) hw) (fun _ _ q=>q.unwish) fun _ _ z=>False.elim z
end
section
variable {X:Cx}{st:Stmt}{rest:List Stmt}{t u:TS}{e:Expr}{te:TE}{pos:Pos}
def tNext:TS:=fun D σ H=>D.nx σ H
def tSeq (t u:TS):TS:=fun D σ H=>t { D with nx:=u D } σ H
theorem y0t:PSs X [] tNext:=fun _ _ σ H _ I h=>wpAny_execs_nil ⟨σ,H,I,h⟩
theorem z1o (h1:PS X st t) (h2:PSs X rest u):PSs X (st::rest) (tSeq t u):=by
 intro pins s σ H D I h
 refine wpAny_execs_cons (thn (h1 pins s σ H { D with nx:=u D } I h) fun f s1 q=>?_)
 cases f with
 |next =>
  obtain ⟨σ',H',I',q⟩:=q
  exact h2 pins s1 σ' H' D I' q
 |ret v=>exact q
 |brk=>exact q
 |cont=>exact q
theorem z2m (h1:PS X st t):PSs X [st] t:=by
 intro pins s σ H D I h
 refine wpAny_execs_cons (thn (h1 pins s σ H D I h) fun f s1 q=>?_)
 cases f with
 |next=>exact wpAny_execs_nil q
 |ret v=>exact q
 |brk=>exact q
 |cont=>exact q
def tBreak:TS:=fun D σ H=>D.bk σ H
theorem ps_break:PS X (.Break pos) tBreak:=fun _ _ σ H _ I h=>wpAny_Break ⟨σ,H,I,h⟩
theorem Inv.quiet {pins:List (Addr × Obj)}{σ:St}{H:Hp}{s:Shared}(I:Inv X pins σ H s):interactive X.env=false:=by simp [interactive,I.ok.kind]
def tDrop (te:TE):TS:=fun D σ H=>te σ H fun _ H1=>D.nx σ H1
theorem z4e (he:PE X e te) (hs:swapsWith e none pos.line X.env=pure false:=by rfl):PS X (.Expr e pos) (tDrop te):=by
 intro pins s σ H D I h
 exact wpAny_Expr_any (thn (he pins s σ H _ I h) fun v s1 ⟨x,H1,I1,r1,q1⟩=>⟨σ,H1,I1,q1⟩) I.quiet hs
def tRet (te:TE):TS:=fun D σ H=>te σ H D.rt
theorem ps_ret (he:PE X e te):PS X (.Return (some e) pos) (tRet te):=by
 intro pins s σ H D I h
 exact wpAny_Return_some (thn (he pins s σ H _ I h) fun v s1 ⟨x,H1,I1,r1,q1⟩=>⟨x,σ,H1,I1,r1,q1⟩)
def tIfS (c:TT) (t u:TS):TS:=fun D σ H=>c σ H fun b H1=>if b=true then t D σ H1 else u D σ H1
theorem ps_if {c:Expr}{a b:List Stmt}{tc:TT}(hc:PT X c tc) (ha:PSs X a t) (hb:PSs X b u):PS X (.If c a b pos) (tIfS tc t u):=by
 intro pins s σ H D I h
 refine wpAny_If (thn (hc pins s σ H _ I h) fun d s1 ⟨H1,I1,q1⟩=>?_)
 cases d with
 |true=>exact ha pins s1 σ H1 D I1 q1
 |false=>exact hb pins s1 σ H1 D I1 q1
def tNever:TS:=fun _ _ _=>False
theorem ps_never:PS X st tNever:=fun _ _ _ _ _ _ h=>h.elim
end
abbrev TG:=V→St→Hp→(St→Hp→Prop)→Prop
abbrev TGs:=List V→St→Hp→(St→Hp→Prop)→Prop
def PG (X:Cx) (target:Expr) (t:TG):Prop :=
 ∀ (pins:List (Addr × Obj)) (s:Shared) (σ:St) (H:Hp) (v:V) (u:Value) (Q:St→Hp→Prop),Inv X pins σ H s→RelV v u→t v σ H Q →
  wpAny (model X.prog X.w) X.A (assign target X.env u) (fun _ s'=>∃ σ' H',Inv X pins σ' H' s'∧Q σ' H') X.xe s
def PGs (X:Cx) (ts:List Expr) (t:TGs):Prop :=
 ∀ (pins:List (Addr × Obj)) (s:Shared) (σ:St) (H:Hp) (vs:List V) (us:List Value) (Q:St→Hp→Prop),Inv X pins σ H s→Vals vs us→t vs σ H Q →
  wpAny (model X.prog X.w) X.A (assignInOrder ((assignEach ts X.env).map (·.2)) us) (fun _ s'=>∃ σ' H',Inv X pins σ' H' s'∧Q σ' H') X.xe s
abbrev TSet:=V→V→V→Hp→(Hp→Prop)→Prop
def PSet (X:Cx) (t:TSet):Prop :=
 ∀ (pins:List (Addr × Obj)) (s:Shared) (σ:St) (H:Hp) (o i v:V) (ov iv u:Value) (Q:Hp→Prop),Inv X pins σ H s→RelV o ov→RelV i iv→RelV v u→t o i v H Q →
  wpAny (model X.prog X.w) X.A (setItem ov iv u) (fun _ s'=>∃ H',Inv X pins σ H' s'∧Q H') X.xe s
section
variable {X:Cx}{pos:Pos}
def gName (i:Nat):TG:=fun v σ H Q=>Q (σ.set i (some v)) H
theorem z4o {i:Nat}{x:Str}(hN:X.N.Nodup) (hi:X.N[i]? = some x) (hx:Loc X.env.scope x) (hf:X.fn x=true∨X.env.scope.names.lookup x=some .local:=by first|exact .inl rfl|exact .inr rfl|assumption):PG X (.Name x pos) (gName i):=by
 intro pins s σ H v u Q I r h
 exact wpAny_assign_Name (store_ok I hN hi hx r (fun s' I'=>⟨_,H,I',h⟩) hf)
def gNil:TGs:=fun vs σ H Q=>vs=[]∧Q σ H
def gCons (t:TG) (u:TGs):TGs:=fun vs σ H Q=>∃ v r,vs=v::r∧t v σ H fun σ' H'=>u r σ' H' Q
theorem pgs_nil:PGs X [] gNil:=by
 intro pins s σ H vs us Q I r h
 obtain ⟨e,h⟩:=h
 subst e
 cases r
 exact assignInOrder_nil ⟨σ,H,I,h⟩
theorem z9m {e:Expr}{es:List Expr}{t:TG}{u:TGs}(h1:PG X e t) (h2:PGs X es u)
  (hs:(assignEach (e::es) X.env).map (·.2)=assign e X.env::(assignEach es X.env).map (·.2):=by rfl):PGs X (e::es) (gCons t u):=by
 intro pins s σ H vs us Q I r h
 obtain ⟨v,vr,e1,h⟩:=h
 subst e1
 cases r with
 |cons r rr =>
  rw [hs]
  refine assignInOrder_cons (thn (h1 pins s σ H _ _ _ I r h) fun _ s1 ⟨σ1,H1,I1,q1⟩=>?_)
  exact h2 pins s1 σ1 H1 _ _ Q I1 rr q1
def gTup (K:PySem.W.Frag) (n:Nat) (t:TGs):TG:=fun v σ H Q=>∃ a xs,v = .ref a∧SqT K H a xs∧xs.length=n∧t xs σ H Q
theorem pg_tup {es:List Expr}{k:Nat}{t:TGs}{n:Nat}(hc:X.calm=true) (h:PGs X es t)
  (hn:(assignEach es X.env).length=n:=by rfl) (hst:(assignEach es X.env).findIdx? (·.1)=none:=by rfl):PG X (.Tuple es k pos) (gTup X.K n t):=by
 intro pins s σ H v u Q I r hw
 obtain ⟨a,xs,e1,hq,hl,hw⟩:=hw
 subst e1
 cases r
 obtain ⟨its,rv,ht,hz⟩:=I.tuple hq
 refine assign_Tuple_tuple (I.ok.hd hc) ht (by simp [hn,← hl,rv.length]) hst fun h' hx=>?_
 have I1:Inv X pins σ H { s with heap:=h' }:=I.kept (t':=s.toks) fun b o e=>hx b o (Nat.ne_of_lt (Heap.lt_size e)) e
 exact h pins _ σ H xs _ Q I1 (by simpa using rv) hw
def gSub (to ti:TE) (t:TSet):TG:=fun v σ H Q=>to σ H fun o H1=>ti σ H1 fun i H2=>t o i v H2 fun H3=>Q σ H3
theorem pg_sub {o i:Expr}{to ti:TE}{t:TSet}(ho:PE X o to) (hi:PE X i ti) (hs:PSet X t)
  (ha:∀ v,assign (.Subscript o i pos) X.env v=(do
   let ov ← holding [v] (eval o X.env)
   let iv ← holding [v,ov] (eval i X.env)
   standAt pos
   holding [v,ov,iv] (setItem ov iv v)
   release [v,ov,iv] []):=by intro _;rfl):PG X (.Subscript o i pos) (gSub to ti t):=by
 intro pins s σ H v u Q I r h
 rw [ha]
 refine wpAny_bind (wpAny_holding (thn (ho pins s σ H _ I h) fun ov s1 ⟨x,H1,I1,r1,q1⟩=>?_))
 refine wpAny_bind (wpAny_holding (thn (hi pins s1 σ H1 _ I1 q1) fun iv s2 ⟨y,H2,I2,r2,q2⟩=>?_))
 refine wpAny_bind (wpAny_standAt (wpAny_bind (wpAny_holding (thn (hs pins s2 σ H2 x y v ov iv u _ I2 r1 r2 r q2) fun _ s3 ⟨H3,I3,q3⟩=>?_))))
 exact wpAny_release ⟨σ,H3,I3,q3⟩
def tAsg (te:TE) (g:TG):TS:=fun D σ H=>te σ H fun x H1=>g x σ H1 D.nx
theorem ps_asg {tg e:Expr}{te:TE}{g:TG}(he:PE X e te) (hg:PG X tg g) (hs:swapsWithSole [tg] e pos.line X.env=pure false:=by rfl) (hw:swappedStores [tg] e X.env=pure none:=by rfl)
  (h1:(assignEach [tg] X.env).map (·.2)=[assign tg X.env]:=by rfl):PS X (.Assign [tg] e pos) (tAsg te g):=by
 intro pins s σ H D I h
 refine wpAny_Assign_stores (thn (he pins s σ H _ I h) fun v s1 ⟨x,H1,I1,r1,q1⟩=>?_) hs hw
 rw [h1]
 exact thn (hg pins s1 σ H1 x v _ I1 r1 q1) fun _ s2 q=>q
theorem z5k {i:Nat}{x:Str}{e:Expr}{te:TE}{pos':Pos}(hN:X.N.Nodup) (hi:X.N[i]? = some x) (hx:Loc X.env.scope x) (he:PE X e te) (hs:swapsWith e (some (.Name x pos')) pos.line X.env=pure false:=by rfl) (hf:X.fn x=true∨X.env.scope.names.lookup x=some .local:=by first|exact .inl rfl|exact .inr rfl|assumption) :
  PS X (.Assign [.Name x pos'] e pos) (tAsg te (gName i)):=by
 intro pins s σ H D I h
 refine wpAny_Assign_Name (thn (he pins s σ H _ I h) fun v s1 ⟨y,H1,I1,r1,q1⟩=>?_) hs
 exact store_ok I1 hN hi hx r1 (fun s2 I2=>⟨_,H1,I2,q1⟩) hf
end
section
variable {X:Cx}{pos:Pos}
def tWhile (c:TT) (tb:TS):TS:=fun D σ H=>∃ W:Nat→St→Hp→Prop,(∃ m,W m σ H)∧∀ m σ H,W m σ H →
 c σ H fun b H1=>if b=true then ∃ N:St→Hp→Prop,(∀ σ' H',N σ' H'→∃ m',m' < m∧W m' σ' H')∧tb { D with nx:=N,ct:=N,bk:=D.nx } σ H1 else D.nx σ H1
theorem ps_while {c:Expr}{body:List Stmt}{tc:TT}{tb:TS}(hp:PassesOwn (model X.prog X.w) X.A X.env X.xe) (hc:PT X c tc) (hb:PSs X body tb):PS X (.While c body [] pos) (tWhile tc tb):=by
 intro pins s σ H D I h
 obtain ⟨W,⟨m0,w0⟩,turn⟩:=h
 refine wpAny_While (codeAny_whileLoop (fun n s'=>∃ σ' H',Inv X pins σ' H' s'∧W n σ' H') ?_ m0 ⟨σ,H,I,w0⟩)
 rintro n s1 ⟨σ1,H1,I1,w1⟩
 refine wpAny_passesOwn hp (thn (hc pins s1 σ1 H1 _ I1 (turn n σ1 H1 w1)) fun b s2 ⟨H2,I2,q2⟩=>?_)
 cases b with
 |true =>
  obtain ⟨N,hN,q2⟩:=q2
  rw [if_pos rfl]
  refine wpAny_passesOwn hp (thn (hb pins s2 σ1 H2 _ I2 q2) fun f s3 q3=>?_)
  cases f with
  |next =>
   obtain ⟨σ3,H3,I3,n3⟩:=q3
   obtain ⟨m',hm,w3⟩:=hN σ3 H3 n3
   exact ⟨m',hm,σ3,H3,I3,w3⟩
  |cont =>
   obtain ⟨σ3,H3,I3,n3⟩:=q3
   obtain ⟨m',hm,w3⟩:=hN σ3 H3 n3
   exact ⟨m',hm,σ3,H3,I3,w3⟩
  |brk=>exact q3
  |ret v=>exact q3
 |false =>
  rw [if_neg Bool.false_ne_true]
  exact wpAny_execs_nil ⟨σ1,H2,I2,q2⟩
end
structure It where
 go:Nat→Hp→Prop
 yld:Nat→Hp→V→Hp→Prop
 stop:Nat→Hp→Prop
def FpOk (X:Cx) (pins:List (Addr × Obj)) (H:Hp) (b:Addr):Prop :=
 H b=none∧b≠X.env.locals∧b∉X.fs∧(b∈X.ex∨X.s₀.heap.objs.size≤b)∧(∀ x c,X.env.cells.lookup x=some c→c≠b)∧∀ p∈X.pn ++ pins,p.1≠b
theorem Inv.fpOk {X:Cx}{pins:List (Addr × Obj)}{σ:St}{H H':Hp}{s:Shared}{b:Addr}(I:Inv X pins σ H s) (hb:s.heap.objs.size≤b) (hn:H' b=none):FpOk X pins H' b:=by
 refine ⟨hn,Nat.ne_of_gt (Nat.lt_of_lt_of_le I.lt hb),I.nofs hb,.inr (Nat.le_trans I.sz hb),fun x c e z=>?_,fun p hp z=>?_⟩
 ·obtain ⟨v,q⟩:=I.cell x c e
  exact absurd (Nat.lt_of_lt_of_le q.lt (by rw [z];exact hb)) (Nat.lt_irrefl _)
 ·exact absurd (Nat.lt_of_lt_of_le (Heap.lt_size (I.pin p hp).1) (by rw [z];exact hb)) (Nat.lt_irrefl _)
structure Turn (P:Program) (w:World) (K:PySem.W.Frag) (tg:Expr) (J:It) (fp:List Addr) (it:Addr) (tn:Nat→Heap→Prop):Prop where
 mem:it∈fp
 obj:∀ i h,tn i h→∀ b∈fp,∃ o,h.get? b=some o∧∀ v,o.data ≠ .cell v
 keep:∀ i h h',tn i h→(∀ b∈fp,∀ o,h.get? b=some o→h'.get? b=some o)→tn i h'
 item:∀ (X:Cx),X.prog=P→X.w=w→X.K=K→X.calm=true→∀ (i:Nat) (pins:List (Addr × Obj)) (s:Shared) (σ:St) (H:Hp) (E:Value→Shared→Prop),Inv X pins σ H s→(∀ b∈fp,FpOk X pins H b)→tn i s.heap→J.go i H →
  wpAny (model P w) X.A (pyNext (.ref it)) (fun r s1=>∃ u,r=some u ∧
   wpAny (model P w) X.A (letOwnedTupleGo tg (.ref it) u) (fun _ s2=>∃ x H',Inv X pins σ H' s2∧RelV x u∧J.yld i H x H'∧tn (i+1) s2.heap∧∀ b∈fp,H' b=none) E s1) E s
 done:∀ (X:Cx),X.prog=P→X.w=w→X.K=K→X.calm=true→∀ (i:Nat) (pins:List (Addr × Obj)) (s:Shared) (σ:St) (H:Hp) (E:Value→Shared→Prop),Inv X pins σ H s→(∀ b∈fp,FpOk X pins H b)→tn i s.heap→J.stop i H →
  wpAny (model P w) X.A (pyNext (.ref it)) (fun r s1=>r=none∧Inv X pins σ H s1) E s
 self:∀ (A:Around) (i:Nat) (s:Shared) (Q:Value→Shared→Prop) (E:Value→Shared→Prop),tn i s.heap→Q (.ref it) s→wpAny (model P w) A (pyIter (.ref it)) Q E s
abbrev TI:=St→Hp→(It→Hp→Prop)→Prop
def PIE (X:Cx) (pins:List (Addr × Obj)) (σ:St) (tg:Expr) (R:It→Hp→Prop) (itv:Value) (s2:Shared):Prop :=
 ∃ (it:Addr) (fp:List Addr) (tn:Nat→Heap→Prop) (J:It) (H':Hp),itv = .ref it∧Inv X pins σ H' s2∧Turn X.prog X.w X.K tg J fp it tn∧tn 0 s2.heap∧(∀ b∈fp,FpOk X pins H' b)∧R J H'
def PI (X:Cx) (tg iter:Expr) (wi:TI):Prop :=
 ∀ (pins:List (Addr × Obj)) (s:Shared) (σ:St) (H:Hp) (R:It→Hp→Prop),Inv X pins σ H s→wi σ H R →
  wpAny (model X.prog X.w) X.A (eval iter X.env) (fun v s1=>wpAny (model X.prog X.w) X.A (pyIter v) (PIE X pins σ tg R) X.xe s1) X.xe s
theorem go_of {M:Model}{A:Around}{E:Value→Shared→Prop}{s:Shared}{tg:Expr}{it:Addr}{u:Value}{o:Obj}{n:String}{vs:Array Value}{Q:Unit→Shared→Prop}(ho:s.heap.get? it=some o) (hc:o.cls = .type n) (hd:o.data = .fields vs)
  (hn:["enumerate","zip","dict_itemiterator","dict_reverseitemiterator","odict_iterator","itertools.zip_longest","itertools.pairwise"].contains n=false) (hQ:Q () s):wpAny M A (letOwnedTupleGo tg (.ref it) u) Q E s:=by
 unfold letOwnedTupleGo
 cases tg <;> first
  |exact wpAny_pure hQ
  |(cases u <;> first
    |exact wpAny_pure hQ
    |(refine wpAny_bind (wpAny_load ho ?_)
      rw [hc,hd]
      show wpAny M A (if (["enumerate","zip","dict_itemiterator","dict_reverseitemiterator","odict_iterator","itertools.zip_longest","itertools.pairwise"].contains n && vs[0]? == some (rawInt _))=true then _ else _) Q E s
      rw [if_neg (by intro h;rw [hn,Bool.false_and] at h;cases h)]
      exact wpAny_pure hQ))
def Itl (K:PySem.W.Frag) (a:Addr):It :=
 ⟨fun i H=>∃ xs x,SqL K H a xs∧xs[i]? = some x,fun i H x H'=>H' = H∧∀ xs,SqL K H a xs→xs[i]? = some x,fun i H=>∃ xs,SqL K H a xs∧xs.length≤i⟩
def Itr (lo:Int) (n:Nat):It:=⟨fun i _=>i < n,fun i H x H'=>H' = H∧x = .int (lo+i),fun i _=>n≤i⟩
theorem turn_list {P:Program}{w:World}{K:PySem.W.Frag}{tg:Expr}(a it:Addr):Turn P w K tg (Itl K a) [it] it (fun i h=>h.IsListIter it a i) where
 mem:=by simp
 obj:=fun i h st b hb=>by
  have e:b=it:=by simpa using hb
  subst e
  obtain ⟨o,e,c,d⟩:=st
  exact ⟨o,e,fun v z=>by rw [d] at z;cases z⟩
 keep:=fun i h h' st k=>st.at fun o e=>k it (by simp) o e
 item:=by
  intro X hP hw hK hc i pins s σ H E I hf st hg
  subst hP hw hK
  obtain ⟨xs,x,hq,hx⟩:=hg
  obtain ⟨its,rv,p,hz⟩:=I.list hq
  obtain ⟨u,hu,ru⟩:=rv.get hx
  obtain ⟨f0,f1,f2,f3,f4,f5⟩:=hf it (by simp)
  refine wpAny_pyNext_list_item st p.isList (x:=u) (by simpa using hu) fun h' st' sb=>?_
  have I1:Inv X pins σ H { s with heap:=h' }:=I.turned (t':=s.toks) (fun b o hb e=>(sb.2 b hb).trans e) f0 f1 f3 f4 f5
  obtain ⟨o,e,c,d⟩:=id st'
  exact ⟨u,rfl,go_of (s:={ s with heap:=h' }) e c d (by decide) ⟨x,H,I1,ru,⟨rfl,fun ys hy=>by rw [I.list_inj hy hq];exact hx⟩,st',fun b hb=>(hf b hb).1⟩⟩
 done:=by
  intro X hP hw hK hc i pins s σ H E I hf st hg
  subst hP hw hK
  obtain ⟨xs,hq,hx⟩:=hg
  obtain ⟨its,rv,p,hz⟩:=I.list hq
  obtain ⟨f0,f1,f2,f3,f4,f5⟩:=hf it (by simp)
  have hl:=rv.length
  exact wpAny_pyNext_list_end (I.ok.hd hc) st p.isList (by simp;omega) fun h' eb=>⟨rfl,I.turned (t':=s.toks) (fun b o hb e=>eb b o hb e) f0 f1 f3 f4 f5⟩
 self:=fun _ _ _ _ _ st h=>wpAny_pyIter_listiter st h
theorem turn_range {P:Program}{w:World}{K:PySem.W.Frag}{tg:Expr}(it:Addr) (lo:Int) (n:Nat):Turn P w K tg (Itr lo n) [it] it (fun i h=>IsRangeIter h it (lo+(i:Nat) * 1) ((n:Int) - (i:Nat)) 1) where
 mem:=by simp
 obj:=fun i h st b hb=>by
  have e:b=it:=by simpa using hb
  subst e
  exact ⟨_,st,fun v z=>by
   have z':Data.fields _=Data.cell v:=z
   cases z'⟩
 keep:=fun i h h' st k=>k it (by simp) _ st
 item:=by
  intro X hP hw hK hc i pins s σ H E I hf st hg
  subst hP hw hK
  obtain ⟨f0,f1,f2,f3,f4,f5⟩:=hf it (by simp)
  have W:=Walks.range (prog:=X.prog) (w:=X.w) (I.ok.hd hc) it lo 1 n
  refine W.item i s _ _ hg st fun v h' tk hv st' kk=>?_
  obtain ⟨t,rfl⟩:=hv
  have I1:Inv X pins σ H { s with heap:=h',toks:=tk }:=I.turned (fun b o hb e=>kk b o (by simpa using hb) e) f0 f1 f3 f4 f5
  refine ⟨_,rfl,go_of (s:={ s with heap:=h',toks:=tk }) (n:="range_iterator") st' rfl rfl (by decide) ⟨.int (lo+i),H,I1,⟨t,?_⟩,⟨rfl,rfl⟩,st',fun b hb=>(hf b hb).1⟩⟩
  rw [Int.mul_one]
 done:=by
  intro X hP hw hK hc i pins s σ H E I hf st hg
  subst hP hw hK
  obtain ⟨f0,f1,f2,f3,f4,f5⟩:=hf it (by simp)
  exact wpAny_pyNext_range_end (I.ok.hd hc) st (by have:n≤i:=hg;omega) fun h' eb=>⟨rfl,I.turned (t':=s.toks) (fun b o hb e=>eb b o hb e) f0 f1 f3 f4 f5⟩
 self:=fun _ _ _ _ _ st h=>wpAny_pyIter_rangeiter st h
end L2
namespace L2
open PySem PySem.Spec PyProof.Rows
section
variable {X:Cx}{tg:Expr}
def iList (K:PySem.W.Frag) (tl:TE):TI:=fun σ H R=>tl σ H fun x H1=>∃ a,x = .ref a∧(∃ xs,SqL K H1 a xs)∧R (Itl K a) H1
theorem z5n {l:Expr}{tl:TE}(hl:PE X l tl):PI X tg l (iList X.K tl):=by
 intro pins s σ H R I h
 refine thn (hl pins s σ H _ I h) fun v s1 ⟨x,H1,I1,r1,q1⟩=>?_
 obtain ⟨a,e,⟨xs,hq⟩,q⟩:=q1
 subst e
 cases r1
 obtain ⟨its,rv,p,hz⟩:=I1.list hq
 refine wpAny_pyIter_list p.isList ?_
 refine ⟨s1.heap.objs.size,[s1.heap.objs.size],_,_,H1,rfl,I1.kept (t':=s1.toks) fun b o e=>Heap.get?_push_of_some _ e,turn_list a _,⟨_,Heap.get?_push_size _ rfl,rfl,rfl⟩,fun b hb=>?_,q⟩
 have e:b=s1.heap.objs.size:=by simpa using hb
 subst e
 exact I1.fpOk (Nat.le_refl _) (I1.hok.fresh (Nat.le_refl _))
theorem range_it {pins:List (Addr × Obj)}{σ:St}{H:Hp}{s:Shared}{R:It→Hp→Prop}{E:Value→Shared→Prop}{lo hi:Int}{t u v:Tok}{tk:Nat}(I:Inv X pins σ H s) (h1:-(2 ^ 62)≤lo) (h2:lo < 2 ^ 62) (h3:-(2 ^ 62)≤hi) (h4:hi < 2 ^ 62)
  (q:R (Itr lo (hi - lo).toNat) H):wpAny (model X.prog X.w) X.A (pyIter (.ref s.heap.objs.size)) (PIE X pins σ tg R) E { s with heap:=s.heap.push { cls:=.type "range",data:=.fields #[.int lo t,.int hi u,.int 1 v] },toks:=tk }:=by
 refine wpAny_pyIter_range (IsRange.new ..) (small_one h1 h2 h3 h4) ?_
 have I1:Inv X pins σ H { s with heap:=s.heap.push { cls:=.type "range",data:=.fields #[.int lo t,.int hi u,.int 1 v] },toks:=tk }:=I.kept fun b o e=>Heap.get?_push_of_some _ e
 refine ⟨(s.heap.push { cls:=.type "range",data:=.fields #[.int lo t,.int hi u,.int 1 v] }).objs.size,[(s.heap.push { cls:=.type "range",data:=.fields #[.int lo t,.int hi u,.int 1 v] }).objs.size],_,_,H,rfl,
  I1.kept (t':=tk) fun b o e=>Heap.get?_push_of_some _ e,turn_range _ lo (hi - lo).toNat,?_,fun b hb=>?_,q⟩
 ·have e1:lo+((0:Nat):Int) * 1=lo:=by simp
  have e2:(((hi - lo).toNat:Nat):Int) - ((0:Nat):Int)=Builtin.Range.rangeSize lo hi 1:=by rw [rangeSize_one];split <;> omega
  show IsRangeIter _ _ (lo+((0:Nat):Int) * 1) ((((hi - lo).toNat:Nat):Int) - ((0:Nat):Int)) 1
  rw [e1,e2]
  exact Heap.get?_push_size _ rfl
 ·have e:b=(s.heap.push { cls:=.type "range",data:=.fields #[.int lo t,.int hi u,.int 1 v] }).objs.size:=by simpa using hb
  subst e
  exact I1.fpOk (Nat.le_refl _) (I1.hok.fresh (Nat.le_refl _))
def iRng1 (ta:TA):TI:=fun σ H R=>ta σ H fun vs H1=>∃ j:Int,vs=[.int j]∧-(2 ^ 62)≤j∧j < 2 ^ 62∧R (Itr 0 j.toNat) H1
theorem pi_range1 {a:Expr}{ta:TA}{p pos:Pos}(hg:Gl X "range") (hm:X.mg "range" = none) (ha:PA X [a] ta) (hs:starEach [a] X.env=[(false,eval a X.env)]:=by rfl):PI X tg (.Call (.Name "range" p) [a] [] pos) (iRng1 ta):=by
 intro pins s σ H R I h
 refine Call_ (z5s I hg hm boot_range (PyProof.Rows.callWith_type1 (thn (ha pos pins s σ H _ I h) fun us s1 ⟨vs,H1,I1,r1,q1⟩=>?_) hs rfl))
 obtain ⟨j,e,q1,q2,q⟩:=q1
 subst e
 cases r1 with
 |cons r rr =>
  cases rr
  obtain ⟨t,rfl⟩:=r
  exact call_range_1 (range_it I1 (by omega) (by omega) q1 q2 (by simpa using q))
def tFor (wi:TI) (g:TG) (tb:TS):TS:=fun D σ H=>wi σ H fun J H1=>∃ W:Nat→Nat→St→Hp→Prop,(∃ m,W 0 m σ H1)∧∀ i m σ H,W i m σ H →
 (J.stop i H∧D.nx σ H)∨(J.go i H∧∃ N:St→Hp→Prop,(∀ σ' H',N σ' H'→∃ m',m' < m∧W (i+1) m' σ' H')∧∀ x H',J.yld i H x H'→g x σ H' fun σ2 H2=>tb { D with nx:=N,ct:=N,bk:=D.nx } σ2 H2)
def y2g (fp:List Addr) (h:Heap):List (Addr × Obj):=fp.filterMap fun b=>(h.get? b).map fun o=>(b,o)
theorem z6a {fp:List Addr}{h:Heap}{b:Addr}{o:Obj}(hb:b∈fp) (e:h.get? b=some o):(b,o)∈y2g fp h:=List.mem_filterMap.mpr ⟨b,hb,by rw [e];rfl⟩
theorem of_pinsAt {fp:List Addr}{h:Heap}{p:Addr × Obj}(hp:p∈y2g fp h):p.1∈fp∧h.get? p.1=some p.2:=by
 obtain ⟨b,hb,e⟩:=List.mem_filterMap.mp hp
 cases q:h.get? b with
 |none=>rw [q] at e;cases e
 |some o =>
  rw [q] at e
  have e':(b,o)=p:=Option.some.inj e
  subst e'
  exact ⟨hb,q⟩
theorem Inv.pinned {pins:List (Addr × Obj)}{σ:St}{H:Hp}{s:Shared}{fp:List Addr}(I:Inv X pins σ H s) (hf:∀ b∈fp,FpOk X pins H b) (ho:∀ b∈fp,∃ o,s.heap.get? b=some o∧∀ v,o.data ≠ .cell v):Inv X (pins ++ y2g fp s.heap) σ H s :=
 I.pins_of fun p hp=>(List.mem_append.mp hp).elim (fun z=>I.pin p (List.mem_append_right _ z)) fun z=>by
  obtain ⟨hb,e⟩:=of_pinsAt z
  obtain ⟨f0,f1,f2,_⟩:=hf p.1 hb
  obtain ⟨o,e',d⟩:=ho p.1 hb
  rw [e] at e';cases e'
  exact ⟨e,f0,f1,f2,d⟩
theorem Inv.unpinned {pins pl:List (Addr × Obj)}{σ:St}{H:Hp}{s:Shared}(I:Inv X (pins ++ pl) σ H s):Inv X pins σ H s:=I.pins_of fun p hp=>I.pin p (List.mem_append_right _ (List.mem_append_left _ hp))
theorem z7p {iter:Expr}{body:List Stmt}{wi:TI}{g:TG}{tb:TS}{pos:Pos}(hp:PassesOwn (model X.prog X.w) X.A X.env X.xe) (hc:X.calm=true) (hi:PI X tg iter wi) (hg:PG X tg g) (hb:PSs X body tb)
  (hs:∀ x,foldedSetIterable iter X.env x=pure x:=by intro _;rfl):PS X (.For tg iter body [] pos) (tFor wi g tb):=by
 intro pins s σ H D I h
 refine wpAny_For (thn (hi pins s σ H _ I h) fun v s1 h1=>thn h1 fun itv s2 h2=>?_) hs
 obtain ⟨it,fp,tn,J,H2,e,I2,T,st2,f2,W,⟨m0,w0⟩,turn⟩:=h2
 subst e
 have stat:∀ {H':Hp},(∀ b∈fp,H' b=none)→∀ b∈fp,FpOk X pins H' b:=fun hn b hb=>⟨hn b hb,(f2 b hb).2⟩
 refine codeAny_forLoop_any (fun n s'=>∃ i σ' H',Inv X pins σ' H' s'∧tn i s'.heap∧(∀ b∈fp,H' b=none)∧W i n σ' H') ?_ m0 ⟨0,σ,H2,I2,st2,fun b hb=>(f2 b hb).1,w0⟩
 rintro n s3 ⟨i,σ3,H3,I3,st3,fr3,w3⟩
 rcases turn i n σ3 H3 w3 with ⟨stop,qn⟩|⟨go,N,hN,step⟩
 ·refine wpAny_passesOwn hp (thn (T.done X rfl rfl rfl hc i pins s3 σ3 H3 X.xe I3 (stat fr3) st3 stop) fun r s4 ⟨hr,I4⟩=>?_)
  subst hr
  exact wpAny_execs_nil ⟨σ3,H3,I4,qn⟩
 ·refine wpAny_passesOwn hp (thn (T.item X rfl rfl rfl hc i pins s3 σ3 H3 X.xe I3 (stat fr3) st3 go) fun r s4 ⟨u,hr,h4⟩=>?_)
  subst hr
  refine wpAny_passesOwn hp (thn h4 fun _ s5 ⟨x,H5,I5,r5,y5,st5,fr5⟩=>?_)
  have I5':=I5.pinned (stat fr5) (T.obj _ _ st5)
  refine wpAny_passesOwn hp (thn (hg _ s5 σ3 H5 x u _ I5' r5 (step x H5 y5)) fun _ s6 ⟨σ6,H6,I6,q6⟩=>?_)
  refine wpAny_passesOwn hp (thn (hb _ s6 σ6 H6 _ I6 q6) fun f s7 q7=>?_)
  have again:∀ {σ7:St}{H7:Hp},Inv X (pins ++ y2g fp s5.heap) σ7 H7 s7→N σ7 H7→∃ m,m < n∧∃ i σ' H',Inv X pins σ' H' s7∧tn i s7.heap∧(∀ b∈fp,H' b=none)∧W i m σ' H':=fun {σ7 H7} I7 n7=>by
   obtain ⟨m',hm,w7⟩:=hN σ7 H7 n7
   refine ⟨m',hm,i+1,σ7,H7,I7.unpinned,T.keep _ _ _ st5 fun b hb o e=>(I7.pin (b,o) (List.mem_append_right _ (List.mem_append_right _ (z6a hb e)))).1,fun b hb=>?_,w7⟩
   obtain ⟨o,e,d⟩:=T.obj _ _ st5 b hb
   exact (I7.pin (b,o) (List.mem_append_right _ (List.mem_append_right _ (z6a hb e)))).2.1
  cases f with
  |next=>obtain ⟨σ7,H7,I7,n7⟩:=q7;exact again I7 n7
  |cont=>obtain ⟨σ7,H7,I7,n7⟩:=q7;exact again I7 n7
  |brk=>obtain ⟨σ7,H7,I7,q7⟩:=q7;exact ⟨σ7,H7,I7.unpinned,q7⟩
  |ret v=>obtain ⟨x7,σ7,H7,I7,r7,q7⟩:=q7;exact ⟨x7,σ7,H7,I7.unpinned,r7,q7⟩
end
theorem for_list {K:PySem.W.Frag}{a:Addr}{xs:List V}{g:TG}{tb:TS}{D:Ends}{σ:St}{H:Hp}(Pv:Nat→St→Hp→Prop) (h0:Pv 0 σ H) (hl:∀ i σ H,i≤xs.length→Pv i σ H→SqL K H a xs)
  (hs:∀ i x σ H,xs[i]? = some x→Pv i σ H→g x σ H fun σ2 H2=>tb { D with nx:=Pv (i+1),ct:=Pv (i+1),bk:=D.nx } σ2 H2) (hd:∀ σ H,Pv xs.length σ H→D.nx σ H) :
  ∃ W:Nat→Nat→St→Hp→Prop,(∃ m,W 0 m σ H)∧∀ i m σ H,W i m σ H →
   ((Itl K a).stop i H∧D.nx σ H)∨((Itl K a).go i H∧∃ N:St→Hp→Prop,(∀ σ' H',N σ' H'→∃ m',m' < m∧W (i+1) m' σ' H')∧∀ x H',(Itl K a).yld i H x H'→g x σ H' fun σ2 H2=>tb { D with nx:=N,ct:=N,bk:=D.nx } σ2 H2):=by
 refine ⟨fun i m σ H=>m=xs.length - i∧i≤xs.length∧Pv i σ H,⟨xs.length,by simp,Nat.zero_le _,h0⟩,?_⟩
 rintro i m σ H ⟨rfl,hi,p⟩
 have q:=hl i σ H hi p
 by_cases hlt:i < xs.length
 ·refine .inr ⟨⟨xs,xs[i],q,by simp [hlt]⟩,Pv (i+1),fun σ' H' p'=>⟨xs.length - (i+1),by omega,rfl,hlt,p'⟩,fun x H' y=>?_⟩
  obtain ⟨e,y⟩:=y
  subst e
  exact hs i x σ _ (y xs q) p
 ·have e:i=xs.length:=by omega
  subst e
  exact .inl ⟨⟨xs,q,Nat.le_refl _⟩,hd σ H p⟩
theorem for_range {lo:Int}{n:Nat}{g:TG}{tb:TS}{D:Ends}{σ:St}{H:Hp}(Pv:Nat→St→Hp→Prop) (h0:Pv 0 σ H)
  (hs:∀ i σ H,i < n→Pv i σ H→g (.int (lo+i)) σ H fun σ2 H2=>tb { D with nx:=Pv (i+1),ct:=Pv (i+1),bk:=D.nx } σ2 H2) (hd:∀ σ H,Pv n σ H→D.nx σ H) :
  ∃ W:Nat→Nat→St→Hp→Prop,(∃ m,W 0 m σ H)∧∀ i m σ H,W i m σ H →
   ((Itr lo n).stop i H∧D.nx σ H)∨((Itr lo n).go i H∧∃ N:St→Hp→Prop,(∀ σ' H',N σ' H'→∃ m',m' < m∧W (i+1) m' σ' H')∧∀ x H',(Itr lo n).yld i H x H'→g x σ H' fun σ2 H2=>tb { D with nx:=N,ct:=N,bk:=D.nx } σ2 H2):=by
 refine ⟨fun i m σ H=>m=n - i∧i≤n∧Pv i σ H,⟨n,by simp,Nat.zero_le _,h0⟩,?_⟩
 rintro i m σ H ⟨rfl,hi,p⟩
 by_cases hlt:i < n
 ·refine .inr ⟨hlt,Pv (i+1),fun σ' H' p'=>⟨n - (i+1),by omega,rfl,hlt,p'⟩,fun x H' y=>?_⟩
  obtain ⟨e,y⟩:=y
  subst e y
  exact hs i σ _ hlt p
 ·have e:i=n:=by omega
  subst e
  exact .inl ⟨Nat.le_refl _,hd σ H p⟩
end L2
namespace L2
open PySem PySem.Spec PyProof.Rows
abbrev R2:=V→V→Hp→VK→Prop
def OpR (X:Cx) (f:Value→Value→Sem Value) (r:R2):Prop :=
 ∀ (pins:List (Addr × Obj)) (s:Shared) (σ:St) (H:Hp) (x y:V) (v u:Value) (Q:VK),Inv X pins σ H s→RelV x v→RelV y u→r x y H Q →
  wpAny (model X.prog X.w) X.A (f v u) (EP X pins σ Q) X.xe s
def UnR (X:Cx) (f:Value→Sem Value) (r:V→Hp→VK→Prop):Prop :=
 ∀ (pins:List (Addr × Obj)) (s:Shared) (σ:St) (H:Hp) (x:V) (v:Value) (Q:VK),Inv X pins σ H s→RelV x v→r x H Q →
  wpAny (model X.prog X.w) X.A (f v) (EP X pins σ Q) X.xe s
def z6j (X:Cx) (f:Value) (r:List V→Hp→VK→Prop):Prop :=
 ∀ (pins:List (Addr × Obj)) (s:Shared) (σ:St) (H:Hp) (xs:List V) (us:List Value) (Q:VK),Inv X pins σ H s→Vals xs us→r xs H Q →
  wpAny (model X.prog X.w) X.A (call f us) (EP X pins σ Q) X.xe s
def TruR (X:Cx) (r:V→Hp→(Bool→Hp→Prop)→Prop):Prop :=
 ∀ (pins:List (Addr × Obj)) (s:Shared) (σ:St) (H:Hp) (x:V) (v:Value) (Q:Bool→Hp→Prop),Inv X pins σ H s→RelV x v→r x H Q →
  wpAny (model X.prog X.w) X.A (truthy v) (TP X pins σ Q) X.xe s
def tOp (r:R2) (ta tb:TE):TE:=fun σ H Q=>ta σ H fun x H1=>tb σ H1 fun y H2=>r x y H2 Q
def tUn (r:V→Hp→VK→Prop) (ta:TE):TE:=fun σ H Q=>ta σ H fun x H1=>r x H1 Q
def rI (C:Int→Int→Prop) (g:Int→Int→V):R2:=fun x y H Q=>∃ i j,x = .int i∧y = .int j∧C i j∧Q (g i j) H
def rI0 (g:Int→Int→V):R2:=fun x y H Q=>∃ i j,x = .int i∧y = .int j∧Q (g i j) H
def rU (g:Int→V):V→Hp→VK→Prop:=fun x H Q=>∃ i,x = .int i∧Q (g i) H
section
variable {X:Cx}{a b c:Expr}{ta tb tc:TE}{pos:Pos}
theorem binT (ha:PE X a ta) (hb:PE X b tb) {pins:List (Addr × Obj)}{s:Shared}{σ:St}{H:Hp}{R:V→V→Hp→Prop}(I:Inv X pins σ H s)
  (h:ta σ H fun x H1=>tb σ H1 fun y H2=>R x y H2) {Q:Value→Shared→Prop}{f:Value→Value→Sem Value}
  (hf:∀ v u s2 x y H2,Inv X pins σ H2 s2→RelV x v→RelV y u→R x y H2→wpAny (model X.prog X.w) X.A (f v u) Q X.xe s2) :
  wpAny (model X.prog X.w) X.A (eval a X.env) (fun v s₁=>wpAny (model X.prog X.w) X.A (eval b X.env) (fun u s₂=>wpAny (model X.prog X.w) X.A (f v u) Q X.xe s₂) X.xe s₁) X.xe s:=by
 refine thn (ha pins s σ H _ I h) fun v s1 ⟨x,H1,I1,r1,q1⟩=>?_
 refine thn (hb pins s1 σ H1 _ I1 q1) fun u s2 ⟨y,H2,I2,r2,q2⟩=>?_
 exact hf v u s2 x y H2 I2 r1 r2 q2
theorem pe_op {op:Operator}{r:R2}(ho:OpR X (binaryOp op) r) (ha:PE X a ta) (hb:PE X b tb):PE X (.BinOp a op b pos) (tOp r ta tb):=by
 intro pins s σ H Q I h
 exact wpAny_BinOp (binT ha hb I h fun v u s2 x y H2 I2 rx ry q=>ho pins s2 σ H2 x y v u Q I2 rx ry q)
theorem pe_un {op:UnaryOp}{r:V→Hp→VK→Prop}(ho:UnR X (unaryOp op) r) (ha:PE X a ta):PE X (.UnaryOp op a pos) (tUn r ta):=by
 intro pins s σ H Q I h
 exact UnaryOp_ (thn (ha pins s σ H _ I h) fun v s1 ⟨x,H1,I1,r1,q1⟩=>ho pins s1 σ H1 x v Q I1 r1 q1)
theorem opI {f:Value→Value→Sem Value}{C:Int→Int→Prop}{g:Int→Int→Int}
  (rule:∀ (i j:Int) (t u:Tok) (s:Shared) (Q:Value→Shared→Prop) (E:Value→Shared→Prop),C i j→Q (.int (g i j) s.toks) { s with toks:=s.toks+1 }→wpAny (model X.prog X.w) X.A (f (.int i t) (.int j u)) Q E s) :
  OpR X f (rI C fun i j=>.int (g i j)):=by
 intro pins s σ H x y v u Q I rx ry h
 obtain ⟨i,j,rfl,rfl,hc,q⟩:=h
 obtain ⟨t,rfl⟩:=rx
 obtain ⟨t',rfl⟩:=ry
 exact rule i j t t' s _ _ hc ⟨.int (g i j),H,I.tok _,⟨_,rfl⟩,q⟩
theorem opI0 {f:Value→Value→Sem Value}{g:Int→Int→Int}
  (rule:∀ (i j:Int) (t u:Tok) (s:Shared) (Q:Value→Shared→Prop) (E:Value→Shared→Prop),Q (.int (g i j) s.toks) { s with toks:=s.toks+1 }→wpAny (model X.prog X.w) X.A (f (.int i t) (.int j u)) Q E s) :
  OpR X f (rI0 fun i j=>.int (g i j)):=by
 intro pins s σ H x y v u Q I rx ry h
 obtain ⟨i,j,rfl,rfl,q⟩:=h
 obtain ⟨t,rfl⟩:=rx
 obtain ⟨t',rfl⟩:=ry
 exact rule i j t t' s _ _ ⟨.int (g i j),H,I.tok _,⟨_,rfl⟩,q⟩
theorem opB0 {f:Value→Value→Sem Value}{g:Int→Int→Bool}
  (rule:∀ (i j:Int) (t u:Tok) (s:Shared) (Q:Value→Shared→Prop) (E:Value→Shared→Prop),Q (.bool (g i j)) s→wpAny (model X.prog X.w) X.A (f (.int i t) (.int j u)) Q E s) :
  OpR X f (rI0 fun i j=>.bl (g i j)):=by
 intro pins s σ H x y v u Q I rx ry h
 obtain ⟨i,j,rfl,rfl,q⟩:=h
 obtain ⟨t,rfl⟩:=rx
 obtain ⟨t',rfl⟩:=ry
 exact rule i j t t' s _ _ ⟨.bl (g i j),H,I,rfl,q⟩
def CMul (i j:Int):Prop:=(-(2 ^ 64) < i∧i < 2 ^ 64)∨(-(2 ^ 64) < j∧j < 2 ^ 64)
theorem CMul.ok {i j:Int}(h:CMul i j):IntMulOk i j:=by
 rcases h with ⟨h1,h2⟩|⟨h1,h2⟩
 ·exact .of_left (intBits_le_64 h1 h2)
 ·exact .of_right (intBits_le_64 h1 h2)
theorem z2n:OpR X (binaryOp .Add) (rI0 fun i j=>.int (i+j)):=opI0 fun _ _ _ _ _ _ _ q=>add_int q
theorem op_sub:OpR X (binaryOp .Sub) (rI0 fun i j=>.int (i - j)):=opI0 fun _ _ _ _ _ _ _ q=>sub_int q
theorem z7t:OpR X (binaryOp .Mult) (rI CMul fun i j=>.int (i * j)):=opI fun _ _ _ _ _ _ _ hc q=>mul_int q hc.ok
theorem z1p:OpR X (binaryOp .Mod) (rI (fun _ j=>0 < j) fun i j=>.int (i % j)):=opI fun i j _ _ _ _ _ hc q=>by
 have h1:(0:Int) < j:=hc
 exact mod_int' (by omega) (by rw [Int.fmod_eq_emod_of_nonneg i (by omega)];exact q)
theorem unI {f:Value→Sem Value}{g:Int→Int}
  (rule:∀ (i:Int) (t:Tok) (s:Shared) (Q:Value→Shared→Prop) (E:Value→Shared→Prop),Q (.int (g i) s.toks) { s with toks:=s.toks+1 }→wpAny (model X.prog X.w) X.A (f (.int i t)) Q E s) :
  UnR X f (rU fun i=>.int (g i)):=by
 intro pins s σ H x v Q I rx h
 obtain ⟨i,rfl,q⟩:=h
 obtain ⟨t,rfl⟩:=rx
 exact rule i t s _ _ ⟨.int (g i),H,I.tok _,⟨_,rfl⟩,q⟩
theorem un_neg:UnR X (unaryOp .USub) (rU fun i=>.int (-i)):=unI fun _ _ _ _ _ q=>neg_int q
end
def scal:V→V→Bool
 |.non,.non=>true | .non,.int _=>true | .int _,.non=>true | .non,.bl _=>true | .bl _,.non=>true | .non,.str _=>true | .str _,.non=>true
 |.int _,.int _=>true | .bl _,.bl _=>true | .str _,.str _=>true | .byt _,.byt _=>true
 |.int _,.str _=>true | .str _,.int _=>true | .bl _,.str _=>true | .str _,.bl _=>true
 |_,_=>false
def rEq:R2:=fun x y H Q=>scal x y=true∧Q (.bl (decide (x=y))) H
def rNe:R2:=fun x y H Q=>scal x y=true∧Q (.bl (!decide (x=y))) H
theorem dec_int {i j:Int}:decide (V.int i=V.int j)=(i == j):=by
 rw [Bool.eq_iff_iff]
 simp
theorem dec_bl {i j:Bool}:decide (V.bl i=V.bl j)=(i == j):=by
 rw [Bool.eq_iff_iff]
 simp
theorem dec_str {i j:Str}:decide (V.str i=V.str j)=(i == j):=by
 rw [Bool.eq_iff_iff]
 simp
theorem dec_byt {i j:Array UInt8}:decide (V.byt i=V.byt j)=(i.toList == j.toList):=by
 rw [Bool.eq_iff_iff]
 cases i
 cases j
 simp
section
variable {X:Cx}{a b c:Expr}{ta tb tc:TE}{pos:Pos}
theorem z2c {pins:List (Addr × Obj)}{σ:St}{H:Hp}{s:Shared}{Q:VK}{k k':Bool}(I:Inv X pins σ H s) (q:Q (.bl k) H) (e:k=k'):EP X pins σ Q (.bool k') s:=by
 subst e
 exact ⟨.bl k,H,I,rfl,q⟩
theorem z3a:OpR X (compareOp .Eq) rEq:=by
 intro pins s σ H x y v u Q I rx ry h
 obtain ⟨hs,q⟩:=h
 cases x with
 |non =>
  cases rx
  cases y with
  |non=>cases ry;exact PySem.EqNone.eq_none_none (z2c I q (by simp))
  |bl j=>cases ry;exact PySem.EqNone.eq_none_bool (z2c I q (by simp))
  |int j=>obtain ⟨t',rfl⟩:=ry;exact PySem.EqNone.eq_none_int (z2c I q (by simp))
  |str j=>obtain ⟨t',rfl⟩:=ry;exact PySem.EqNone.eq_none_str (z2c I q (by simp))
  |_=>exact absurd (show false=true from hs) Bool.false_ne_true
 |bl i =>
  cases rx
  cases y with
  |non=>cases ry;exact PySem.EqNone.eq_bool_none (z2c I q (by simp))
  |bl j=>cases ry;exact eq_bool (z2c I q dec_bl)
  |str j=>obtain ⟨t',rfl⟩:=ry;exact PySem.EqMixed.eq_bool_str (z2c I q (by simp))
  |_=>exact absurd (show false=true from hs) Bool.false_ne_true
 |int i =>
  obtain ⟨t,rfl⟩:=rx
  cases y with
  |non=>cases ry;exact PySem.EqNone.eq_int_none (z2c I q (by simp))
  |int j=>obtain ⟨t',rfl⟩:=ry;exact eq_int (z2c I q dec_int)
  |str j=>obtain ⟨t',rfl⟩:=ry;exact PySem.EqMixed.eq_int_str (z2c I q (by simp))
  |_=>exact absurd (show false=true from hs) Bool.false_ne_true
 |str i =>
  obtain ⟨t,rfl⟩:=rx
  cases y with
  |non=>cases ry;exact PySem.EqNone.eq_str_none (z2c I q (by simp))
  |bl j=>cases ry;exact PySem.EqMixed.eq_str_bool (z2c I q (by simp))
  |int j=>obtain ⟨t',rfl⟩:=ry;exact PySem.EqMixed.eq_str_int (z2c I q (by simp))
  |str j=>obtain ⟨t',rfl⟩:=ry;exact eq_str (z2c I q dec_str)
  |_=>exact absurd (show false=true from hs) Bool.false_ne_true
 |byt i =>
  obtain ⟨t,rfl⟩:=rx
  cases y with
  |byt j=>obtain ⟨t',rfl⟩:=ry;exact PySem.W.eq_bytes (z2c I q dec_byt)
  |_=>exact absurd (show false=true from hs) Bool.false_ne_true
 |_=>cases y <;> exact absurd (show false=true from hs) Bool.false_ne_true
theorem op_ne:OpR X (compareOp .NotEq) rNe:=by
 intro pins s σ H x y v u Q I rx ry h
 obtain ⟨hs,q⟩:=h
 cases x with
 |non =>
  cases rx
  cases y with
  |non=>cases ry;exact PySem.EqNone.ne_none_none (z2c I q (by simp))
  |bl j=>cases ry;exact PySem.EqNone.ne_none_bool (z2c I q (by simp))
  |int j=>obtain ⟨t',rfl⟩:=ry;exact PySem.EqNone.ne_none_int (z2c I q (by simp))
  |str j=>obtain ⟨t',rfl⟩:=ry;exact PySem.EqNone.ne_none_str (z2c I q (by simp))
  |_=>exact absurd (show false=true from hs) Bool.false_ne_true
 |bl i =>
  cases rx
  cases y with
  |non=>cases ry;exact PySem.EqNone.ne_bool_none (z2c I q (by simp))
  |bl j=>cases ry;exact ne_bool (z2c I q (congrArg not dec_bl))
  |str j=>obtain ⟨t',rfl⟩:=ry;exact PySem.EqMixed.ne_bool_str (z2c I q (by simp))
  |_=>exact absurd (show false=true from hs) Bool.false_ne_true
 |int i =>
  obtain ⟨t,rfl⟩:=rx
  cases y with
  |non=>cases ry;exact PySem.EqNone.ne_int_none (z2c I q (by simp))
  |int j=>obtain ⟨t',rfl⟩:=ry;exact ne_int (z2c I q (congrArg not dec_int))
  |str j=>obtain ⟨t',rfl⟩:=ry;exact PySem.EqMixed.ne_int_str (z2c I q (by simp))
  |_=>exact absurd (show false=true from hs) Bool.false_ne_true
 |str i =>
  obtain ⟨t,rfl⟩:=rx
  cases y with
  |non=>cases ry;exact PySem.EqNone.ne_str_none (z2c I q (by simp))
  |bl j=>cases ry;exact PySem.EqMixed.ne_str_bool (z2c I q (by simp))
  |int j=>obtain ⟨t',rfl⟩:=ry;exact PySem.EqMixed.ne_str_int (z2c I q (by simp))
  |str j=>obtain ⟨t',rfl⟩:=ry;exact ne_str (z2c I q (congrArg not dec_str))
  |_=>exact absurd (show false=true from hs) Bool.false_ne_true
 |byt i =>
  obtain ⟨t,rfl⟩:=rx
  cases y with
  |byt j=>obtain ⟨t',rfl⟩:=ry;exact PySem.W.ne_bytes (z2c I q (congrArg not dec_byt))
  |_=>exact absurd (show false=true from hs) Bool.false_ne_true
 |_=>cases y <;> exact absurd (show false=true from hs) Bool.false_ne_true
theorem op_lt:OpR X (compareOp .Lt) (rI0 fun i j=>.bl (decide (i < j))):=opB0 fun _ _ _ _ _ _ _ q=>lt_int q
theorem op_gt:OpR X (compareOp .Gt) (rI0 fun i j=>.bl (decide (j < i))):=opB0 fun _ _ _ _ _ _ _ q=>gt_int q
theorem op_ge:OpR X (compareOp .GtE) (rI0 fun i j=>.bl (decide (j≤i))):=opB0 fun _ _ _ _ _ _ _ q=>ge_int q
theorem z1a (b:Expr) {op:CmpOp}(h:op ≠ .In:=by decide) (h2:op ≠ .NotIn:=by decide):behindInMarks op b=false:=by
 have e1:(op == CmpOp.In)=false:=by cases op <;> first|rfl|exact absurd rfl h
 have e2:(op == CmpOp.NotIn)=false:=by cases op <;> first|rfl|exact absurd rfl h2
 cases b <;> simp [behindInMarks,e1,e2]
theorem z8l {op:CmpOp}{r:R2}(ho:OpR X (compareOp op) r) (ha:PE X a ta) (hb:PE X b tb) (hm:behindInMarks op b=false):PE X (.Compare a [op] [b] pos) (tOp r ta tb):=by
 intro pins s σ H Q I h
 exact wpAny_Compare1 (binT ha hb I h fun v u s2 x y H2 I2 rx ry q=>ho pins s2 σ H2 x y v u Q I2 rx ry q) hm
def tTest (t:TE):TT:=fun σ H Q=>t σ H fun x H'=>∃ k,x = .bl k∧Q k H'
theorem z8s {op:CmpOp}{r:R2}(ho:OpR X (compareOp op) r) (ha:PE X a ta) (hb:PE X b tb) (hm:behindInMarks op b=false):PT X (.Compare a [op] [b] pos) (tTest (tOp r ta tb)):=by
 intro pins s σ H Q I h
 refine wpAny_isTrue_Compare1 (thn (ha pins s σ H _ I h) fun v s1 ⟨x,H1,I1,r1,q1⟩=>thn (hb pins s1 σ H1 _ I1 q1) fun u s2 ⟨y,H2,I2,r2,q2⟩ =>
  thn (ho pins s2 σ H2 x y v u _ I2 r1 r2 q2) fun c s3 ⟨z,H3,I3,r3,k,e,q3⟩=>?_) hm
 subst e
 cases r3
 exact wpAny_truthy_bool ⟨H3,I3,q3⟩
def TruV (K:PySem.W.Frag) (x:V) (H:Hp) (k:Bool):Prop :=
 match x with
 |.non=>k=false
 |.bl b=>k=b
 |.int i=>k=(i != 0)
 |.str y=>y.length≤sizeLine∧k=((y.length:Int) != 0)
 |.byt y=>y.size≤sizeLine∧k=((y.size:Int) != 0)
 |.ref p=>(∃ xs,SqL K H p xs∧k = !xs.isEmpty)∨(∃ xs,SqT K H p xs∧k = !xs.isEmpty) ∨ ∃ kvs,H p=some (.dK kvs)∧k = !kvs.isEmpty
 |_=>False
theorem isEmpty_kv {κ:Type}{kvs:List (κ × V)}{vs:List (κ × Value)}(r:KV kvs vs):(!vs.isEmpty) = !kvs.isEmpty:=by
 cases r <;> rfl
theorem y2m {xs:List V}{its:List Value}(r:Vals xs its):(!its.toArray.isEmpty) = !xs.isEmpty:=by
 cases r <;> simp
theorem y1h:(sizeLine:Nat) < 2 ^ 63:=by rw [sizeLine_eq];decide
theorem tru_ok:TruR X (fun x H Q=>∃ k,TruV X.K x H k∧Q k H):=by
 intro pins s σ H x v Q I rx h
 obtain ⟨k,e,q⟩:=h
 have hl:=y1h
 have hs:sizeLine=16777216:=sizeLine_eq
 cases x with
 |non =>
  cases rx
  have e':k=false:=e
  subst e'
  exact truthy_none ⟨H,I,q⟩
 |bl b =>
  cases rx
  have e':k=b:=e
  subst e'
  exact wpAny_truthy_bool ⟨H,I,q⟩
 |int i =>
  obtain ⟨t,rfl⟩:=rx
  have e':k=(i != 0):=e
  subst e'
  exact PySem.P.truthy_int ⟨H,I,q⟩
 |str y =>
  obtain ⟨t,rfl⟩:=rx
  obtain ⟨hy,e'⟩:y.length≤sizeLine∧k=((y.length:Int) != 0):=e
  subst e'
  exact PySem.P.truthy_str (by omega) ⟨H,I.tok _,q⟩
 |byt y =>
  obtain ⟨t,rfl⟩:=rx
  obtain ⟨hy,e'⟩:y.size≤sizeLine∧k=((y.size:Int) != 0):=e
  subst e'
  exact PySem.W.truthy_bytes (by omega) ⟨H,I.tok _,q⟩
 |ref p =>
  cases rx
  have e':(∃ xs,SqL X.K H p xs∧k = !xs.isEmpty)∨(∃ xs,SqT X.K H p xs∧k = !xs.isEmpty) ∨ ∃ kvs,H p=some (.dK kvs)∧k = !kvs.isEmpty:=e
  rcases e' with ⟨xs,hx,e'⟩|⟨xs,hx,e'⟩|⟨kvs,hx,e'⟩
  ·subst e'
   obtain ⟨its,r,pl,hz⟩:=I.list hx
   have hlen:=r.length
   exact wpAny_truthy_list pl.isList (by simp only [List.size_toArray];omega) ⟨H,I.tok _,by rw [y2m r];exact q⟩
  ·subst e'
   obtain ⟨its,r,pl,hz⟩:=I.tuple hx
   have hlen:=r.length
   exact truthy_tuple pl (by simp only [List.size_toArray];omega) ⟨H,I.tok _,by rw [y2m r];exact q⟩
  ·subst e'
   obtain ⟨hz,hS,vs,r,m⟩:kvs.length≤sizeLine∧(p == sysModules)=false∧∃ vs,KV kvs vs∧s.heap.DictOf (z2l X.prog X.w) p vs:=I.hok p _ hx
   have hlen:kvs.length=vs.length:=Paired.length r
   exact wpAny_truthy_dict hS m (by omega) ⟨H,I.tok _,by rw [isEmpty_kv r];exact q⟩
 |_=>exact (show False from e).elim
theorem pt_truth (ha:PE X a ta) (he:∀ whole,isTrue a X.env whole=(do let v ← whole;standAt a.pos;holding [v] (truthy v))) :
  PT X a (fun σ H Q=>ta σ H fun x H'=>∃ k,TruV X.K x H' k∧Q k H'):=by
 intro pins s σ H Q I h
 exact isTrue_plain (thn (ha pins s σ H _ I h) fun v s1 ⟨x,H1,I1,r1,q1⟩=>tru_ok pins s1 σ H1 x v Q I1 r1 q1) (he _)
theorem y2n:OpR X (binaryOp .Add) (fun x y H Q=>∃ i j,x = .str i∧y = .str j∧i.length+j.length≤sizeLine∧Q (.str (i ++ j)) H):=by
 intro pins s σ H x y v u Q I rx ry h
 obtain ⟨i,j,rfl,rfl,hz,q⟩:=h
 obtain ⟨t,rfl⟩:=rx
 obtain ⟨t',rfl⟩:=ry
 exact add_str (fun t' tk=>⟨.str (i ++ j),H,I.tok _,⟨_,rfl⟩,q⟩) hz
theorem z8j {x:V}{us:List Value}(r:Vals [x] us):∃ u,us=[u]∧RelV x u:=by
 cases r with
 |cons r1 r2=>cases r2;exact ⟨_,rfl,r1⟩
theorem vals2 {x y:V}{us:List Value}(r:Vals [x,y] us):∃ u w',us=[u,w']∧RelV x u∧RelV y w':=by
 cases r with
 |cons r1 r2 =>
  cases r2 with
  |cons r3 r4=>cases r4;exact ⟨_,_,rfl,r1,r3⟩
theorem call_max2 (hc:X.calm=true):z6j X (.builtin "max") (fun xs H Q=>∃ i j,xs=[.int i,.int j]∧Q (.int (if j > i then j else i)) H):=by
 intro pins s σ H xs us Q I r h
 obtain ⟨i,j,rfl,q⟩:=h
 obtain ⟨u,w',rfl,⟨t,rfl⟩,⟨t',rfl⟩⟩:=vals2 r
 refine max_two_ints (I.ok.hd hc) fun h' tk k=>⟨_,H,I.kept k,?_,q⟩
 by_cases hj:j > i
 ·rw [if_pos hj,if_pos hj];exact ⟨_,rfl⟩
 ·rw [if_neg hj,if_neg hj];exact ⟨_,rfl⟩
theorem call_int1:z6j X (.type "int") (fun xs H Q=>(∃ i,xs=[.int i]∧Q (.int i) H) ∨ ∃ k,xs=[.bl k]∧Q (.int (if k then 1 else 0)) H):=by
 intro pins s σ H xs us Q I r h
 rcases h with ⟨i,rfl,q⟩|⟨k,rfl,q⟩
 ·obtain ⟨u,rfl,t,rfl⟩:=z8j r
  exact call_int_int ⟨.int i,H,I,⟨_,rfl⟩,q⟩
 ·obtain ⟨u,rfl,r1⟩:=z8j r
  cases r1
  exact call_int_bool ⟨.int (if k then 1 else 0),H,I.tok _,⟨_,rfl⟩,q⟩
end
end L2
namespace L2
open PySem PySem.Spec PyProof.Rows
structure ObjM (h:Heap) (x dx C:Addr) (mA:Str→Option Value):Prop where
 obj:h.get? x=some (PySem.W.instObj C dx)
 ns:h.Ns1 dx mA
 ne:dx≠x
theorem lookIn_ns {h:Heap}{dx:Addr}{mA:Str→Option Value}(n:h.Ns1 dx mA):∃ od,h.get? dx=some od∧∀ name,PySem.W.lookIn name od=some (mA name):=by
 obtain ⟨o,es,ep,ho,hd,hk,_,hm⟩:=n
 refine ⟨o,ho,fun name=>?_⟩
 have e:=hm name
 unfold nsFind findBy at e
 rw [← Array.find?_toList] at e
 unfold PySem.W.lookIn
 rw [hd]
 dsimp only
 split
 ·rename_i y q
  rw [q] at e
  exact congrArg some e
 ·rename_i q
  rw [q] at e
  have a:es.toList.any (·.refKey)=false:=by
   rw [List.any_eq_false]
   intro y hy
   obtain ⟨z,t,hkey⟩:=hk y (Array.mem_toList_iff.mp hy)
   simp [DictEntry.refKey,hkey]
  have a':¬ es.toList.any (·.refKey)=true:=by rw [a];exact Bool.false_ne_true
  rw [if_neg a']
  exact congrArg some e
theorem ObjM.look {h:Heap}{x dx C:Addr}{mA:Str→Option Value}(I:ObjM h x dx C mA):∃ od,PySem.W.InstAt h x (PySem.W.instObj C dx) C (some od)∧∀ name,PySem.W.lookIn name od=some (mA name) :=
 let ⟨od,ho,hl⟩:=lookIn_ns I.ns
 ⟨od,⟨I.obj,rfl,rfl,ho⟩,hl⟩
section
variable {prog:Program}{w:World}{A:Around}{E:Value→Shared→Prop}{s:Shared}{K:PySem.W.Frag}{x dx C f:Addr}{mA:Str→Option Value}{name:Str}{v:Value}
end
theorem RelO.some_of {v:V}{o:Option Value}(r:RelO (some v) o):∃ u,o=some u∧RelV v u:=by
 cases o with
 |none=>exact (show False from r).elim
 |some u=>exact ⟨u,rfl,r⟩
section
variable {P:Program}{w:World}{H H':Hp}{h h':Heap}{a C dx:Addr}{fs fs':List (Str × V)}
theorem ins_get (hok:HOk P w H h) (e:H a=some (.ins C dx fs)):∃ mA,ObjM h a dx C mA∧(∀ f,RelO (fs.lookup f) (mA f))∧PySem.Within mA (fs.map (·.1))∧fs.length≤1000∧H dx=some (.own a):=by
 obtain ⟨d,z,ne,ob,mA,n,r,q⟩:=(show ObjOk P w H h a (.ins C dx fs) from hok a _ e)
 exact ⟨mA,⟨ob,n,ne⟩,r,q,z,d⟩
end
structure Cls (K:PySem.W.Frag) (C:Addr):Prop where
 pg:PySem.W.plainGet K C Str.empty=true
 hd:PySem.W.hasDictIn K C=true
 po:PySem.W.plainOver K C=true
 sa:PySem.W.findIn K (.ref C) "__setattr__" = some (some (.builtin "object.__setattr__"))
theorem Cls.get {K:PySem.W.Frag}{C:Addr}(c:Cls K C) (f:Str):PySem.W.plainGet K C f=true:=c.pg
structure Con (K:PySem.W.Frag) (C:Addr) (f:Str) (v:V) (u:Value):Prop where
 at_:PySem.W.findIn K (.ref C) f=some (some u)
 rel:RelV v u
 get:PySem.W.specialIn K u "__get__" = some none
 cp:PySem.W.copiedNames.contains f=false
structure Meth (K:PySem.W.Frag) (C:Addr) (m:Str) (f:Addr):Prop where
 at_:PySem.W.findIn K (.ref C) m=some (some (.ref f))
 fn:PySem.W.isFn K (.ref f)=true
 kp:PySem.W.keepIn K (.ref f)=true
section
variable {X:Cx}{pins:List (Addr × Obj)}{σ:St}{H:Hp}{s:Shared}{a C dx:Addr}{fs:List (Str × V)}{f:Str}{v:V}{A:Around}{E:Value→Shared→Prop}
end
section
variable {X:Cx}{o e value:Expr}{f:Str}{pos pos' tpos:Pos}{ta tv:TE}
end
section
variable {X:Cx}{pins:List (Addr × Obj)}{σ:St}{H:Hp}{s:Shared}{A:Around}{E:Value→Shared→Prop}{Q:Value→Shared→Prop}{c:Value}{b:Bool}
inductive TyOf (K:PySem.W.Frag) (H:Hp):V→Value→Prop where
 |non:TyOf K H .non (.type "NoneType")
 |bl (x:Bool):TyOf K H (.bl x) (.type "bool")
 |int (i:Int):TyOf K H (.int i) (.type "int")
 |str (x:Str):TyOf K H (.str x) (.type "str")
 |flt (x:UInt64):TyOf K H (.flt x) (.type "float")
 |lst {a:Addr}{xs:List V}(e:H a=some (.lst xs)):TyOf K H (.ref a) (.type "list")
 |frz {a:Addr}{o:Obj}{xs:List V}(e:H a=some (.frz o (.lst xs))):TyOf K H (.ref a) (.type "list")
 |tup {a:Addr}{xs:List V}(e:H a=some (.tup xs)):TyOf K H (.ref a) (.type "tuple")
 |dK {a:Addr}{kvs:List (Key × V)}(e:H a=some (.dK kvs)):TyOf K H (.ref a) (.type "dict")
 |dT {a:Addr}{kvs:List (List Key × V)}(e:H a=some (.dT kvs)):TyOf K H (.ref a) (.type "dict")
 |ins {a C dx:Addr}{fs:List (Str × V)}(e:H a=some (.ins C dx fs)) (cl:Cls K C) (ha:PySem.W.findIn K (.ref C) "__class__" = some (some (.builtin "object.__class__")))
   (hn:PySem.W.specialIn K (.builtin "object.__class__") "__get__" = some (some (.builtin "getset_descriptor.__get__"))) (htk:PySem.W.takesIn K (.builtin "object.__class__")=some true)
   (hm:PySem.W.mroIn K C (.type "object")=some true):TyOf K H (.ref a) (.ref C)
theorem isinst_ok {x:V}{u t:Value}(I:Inv X pins σ H s) (rx:RelV x u) (ty:TyOf X.K H x t) (e:PySem.W.kitOne X.K t c=some b) (h:∀ tk,Q (.bool b) { s with toks:=tk }) :
  wpAny (model X.prog X.w) A (call (.builtin "isinstance") [u,c]) Q E s:=by
 cases ty with
 |non=>cases (show u=Value.none from rx);exact PySem.W.kia_one PySem.W.kitx_none I.kIn True.intro e (fun z=>nomatch z) h
 |bl y=>cases (show u=Value.bool y from rx);exact PySem.W.kia_one PySem.W.kitx_bool I.kIn True.intro e (fun z=>nomatch z) h
 |int i=>obtain ⟨t,q⟩:=(show ∃ t,u=Value.int i t from rx);cases q;exact PySem.W.kia_one PySem.W.kitx_int I.kIn True.intro e (fun z=>nomatch z) h
 |str y=>obtain ⟨t,q⟩:=(show ∃ t,u=Value.str y t from rx);cases q;exact PySem.W.kia_one PySem.W.kitx_str I.kIn True.intro e (fun z=>nomatch z) h
 |flt y=>obtain ⟨t,q⟩:=(show ∃ t,u=Value.float y t from rx);cases q;exact PySem.W.kia_one PySem.W.kitx_float I.kIn True.intro e (fun z=>nomatch z) h
 | @lst a xs ea =>
  cases (show u=Value.ref a from rx)
  obtain ⟨_,_,n,_,h1⟩:=(show ObjOk X.prog X.w H s.heap a (.lst xs) from I.hok a _ ea)
  exact PySem.W.kia_one PySem.W.kitx_list I.kIn ⟨_,h1,rfl⟩ e (fun z=>nomatch z) h
 | @frz a ob xs ea =>
  cases (show u=Value.ref a from rx)
  obtain ⟨_,_,_,n,_,h1⟩:=(show ObjOk X.prog X.w H s.heap a (.frz ob (.lst xs)) from I.hok a _ ea)
  exact PySem.W.kia_one PySem.W.kitx_list I.kIn ⟨_,h1,rfl⟩ e (fun z=>nomatch z) h
 | @tup a xs ea =>
  cases (show u=Value.ref a from rx)
  obtain ⟨_,_,_,p⟩:=(show ObjOk X.prog X.w H s.heap a (.tup xs) from I.hok a _ ea)
  obtain ⟨o,h1,h2,_⟩:=p
  exact PySem.W.kia_one PySem.W.kitx_tuple I.kIn ⟨o,h1,h2⟩ e (fun z=>nomatch z) h
 | @dK a kvs ea =>
  cases (show u=Value.ref a from rx)
  obtain ⟨_,_,vs,_,p⟩:=(show ObjOk X.prog X.w H s.heap a (.dK kvs) from I.hok a _ ea)
  obtain ⟨o,es,ep,h1,h2,_⟩:=p
  exact PySem.W.kia_one PySem.W.kitx_dict I.kIn ⟨o,h1,h2.1⟩ e (fun z=>nomatch z) h
 | @dT a kvs ea =>
  cases (show u=Value.ref a from rx)
  obtain ⟨_,_,xs,_,o,es,ep,h1,h2,_⟩:=(show ObjOk X.prog X.w H s.heap a (.dT kvs) from I.hok a _ ea)
  exact PySem.W.kia_one PySem.W.kitx_dict I.kIn ⟨o,h1,h2.1⟩ e (fun z=>nomatch z) h
 | @ins a C dx fs ea cl ha hn htk hm =>
  cases (show u=Value.ref a from rx)
  obtain ⟨mA,O,_⟩:=ins_get I.hok ea
  obtain ⟨od,J,_⟩:=O.look
  exact PySem.W.kia_one (PySem.W.kitx_own (cl.get _) cl.hd ha hn htk hm) I.kIn J e (fun z=>nomatch z) h
end
end L2
namespace L2
open PySem PySem.Spec PyProof.Rows
structure Room (k:Nat) (A:Around):Prop where
 hd:A.handled=none
 dp:A.depth+3 * k+5 < recursionLimit
 un:A.units+16 * k+200 < cLine
theorem Room.mono {j k:Nat}{A:Around}(r:Room k A) (h:j≤k):Room j A:=⟨r.hd,by have:=r.dp;omega,by have:=r.un;omega⟩
theorem Room.deeper {k:Nat}{A:Around}(r:Room (k+1) A) (env:Env):Room k (A.deeper env) :=
 ⟨r.hd,by have:=r.dp;show A.depth+1+3 * k+5 < _;omega,by have:=r.un;show A.units+3+16 * k+200 < _;omega⟩
theorem Room.depth {k:Nat}{A:Around}(r:Room k A):A.depth < recursionLimit:=by have:=r.dp;omega
def tNil:TA:=fun _ H Q=>Q [] H
def y1p (ta:TE) (tr:TA):TA:=fun σ H Q=>ta σ H fun x H1=>tr σ H1 fun xs H2=>Q (x::xs) H2
section
variable {X:Cx}{e:Expr}{es:List Expr}{te:TE}{t:TA}{pos:Pos}
theorem z1g:PA X [] tNil:=fun _ _ _ _ H Q I h=>Calls.spliced_nil ⟨[],H,I,.nil,h⟩
theorem z0k (ha:PE X e te) (hr:PA X es t) (hs:starEach (e::es) X.env=(false,eval e X.env)::starEach es X.env:=by rfl):PA X (e::es) (y1p te t):=by
 intro pos pins s σ H Q I h
 rw [hs]
 show wpAny _ _ (spliced ((false,eval e X.env)::backTo pos (starEach es X.env))) _ _ s
 refine Calls.spliced_cons (thn (ha pins s σ H _ I h) fun u s1 ⟨x,H1,I1,r1,q1⟩=>?_)
 exact thn (hr pos pins s1 σ H1 _ I1 q1) fun us s2 ⟨xs,H2,I2,r2,q2⟩=>⟨x::xs,H2,I2,.cons r1 r2,q2⟩
def tTup (t:TA):TE:=fun σ H Q=>t σ H fun xs H1=>xs.length≤sizeLine∧∀ p,H1 p=none→Q (.ref p) (upd H1 p (.tup xs))
def tLst (t:TA):TE:=fun σ H Q=>t σ H fun xs H1=>xs.length≤sizeLine∧∀ p,H1 p=none→Q (.ref p) (upd H1 p (.lst xs))
theorem pe_tup {x1} (h:PA X es t):PE X (.Tuple es x1 pos) (tTup t):=by
 intro pins s σ H Q I hq
 refine wpAny_Tuple_spliced (thn (h pos pins s σ H _ I hq) fun us s1 ⟨xs,H1,I1,r,z,q⟩=>⟨by rw [← r.length];exact z,?_⟩)
 have hf:H1 s1.heap.objs.size=none:=I1.hok.fresh (Nat.le_refl _)
 refine ⟨.ref s1.heap.objs.size,upd H1 s1.heap.objs.size (.tup xs),I1.laid (t':=s1.toks) (fun b u e=>Heap.get?_push_of_some _ e) (Nat.le_refl _) ?_,rfl,q _ hf⟩
 exact ⟨z,us,r,⟨_,Heap.get?_push_size _ rfl,rfl,_,rfl⟩⟩
theorem z5y (h:PA X es t):PE X (.List es pos) (tLst t):=by
 intro pins s σ H Q I hq
 refine wpAny_List_spliced (thn (h pos pins s σ H _ I hq) fun us s1 ⟨xs,H1,I1,r,z,q⟩=>⟨by rw [← r.length];exact z,?_⟩)
 have hf:H1 s1.heap.objs.size=none:=I1.hok.fresh (Nat.le_refl _)
 refine ⟨.ref s1.heap.objs.size,upd H1 s1.heap.objs.size (.lst xs),I1.laid (t':=s1.toks) (fun b u e=>Heap.get?_push_of_some _ e) (Nat.le_refl _) ?_,rfl,q _ hf⟩
 exact ⟨z,us,0,r,Heap.get?_push_size _ rfl⟩
end
abbrev Sp:=List V→Hp→VK→XK→Prop
abbrev CXT:=List Env→Hp→Shared→XK→Value→Shared→Prop
structure Env0 (P:Program) (w:World) (K:PySem.W.Frag) (mg:Str→Option Value) (base:Heap) (A:Around) (outer:List Env) (s:Shared) (H:Hp):Prop where
 frames:A.frames=some outer
 mod:Mod K mg base
 bs:∀ b o,base.get? b=some o→s.heap.get? b=some o∧H b=none
 bsz:base.objs.size≤s.heap.objs.size
 funs:s.heap.FunFrames base outer
 frf:∀ b∈frs outer,H b=none
 hok:HOk P w H s.heap
 bare:AllBare s.gens
def CE (outer:List Env) (P:Program) (w:World) (H:Hp) (s:Shared) (Q:VK) (u:Value) (s':Shared):Prop :=
 ∃ v H',s'.os=s.os∧AllBare s'.gens∧Un (frs outer) [] H H' s.heap s'.heap∧HOk P w H' s'.heap∧RelV v u∧Q v H'
def CR (CX:CXT) (outer:List Env) (P:Program) (w:World) (H:Hp) (s:Shared) (Q:VK) (E:XK) (r:Result) (s':Shared):Prop :=
 match r with
 |.ok (.ret u)=>CE outer P w H s Q u s'
 |.ok _=>False
 |.error e=>CX outer H s E e s'
structure FnOk (P:Program) (w:World) (K:PySem.W.Frag) (mg:Str→Option Value) (base:Heap) (CX:CXT) (k:Nat) (f:Addr) (fd:FuncData) (ps:List Str) (sp:Sp):Prop where
 len:∀ vs H Q E,sp vs H Q E→vs.length=ps.length
 run:∀ (A:Around) (outer:List Env) (s:Shared) (H:Hp) (args:Args) (us:List Value) (vs:List V) (Q:VK) (E:XK),Room k A→Env0 P w K mg base A outer s H→BindsTo s fd args (ps.zip us)→Vals vs us→sp vs H Q E →
  codeAny (model P w) A (.call (.ref f) args) (CR CX outer P w H s Q E) s
section
variable {X:Cx}{pins:List (Addr × Obj)}{σ:St}{H:Hp}{s s':Shared}
theorem Inv.env0 (I:Inv X pins σ H s):Env0 X.prog X.w X.K X.mg X.base X.A X.stack s H :=
 ⟨I.ok.frames,I.ok.mod,I.bs,Nat.le_trans I.ok.bsz I.sz,I.stack,I.stkFree,I.hok,I.bare⟩
theorem Inv.after {Q:VK}{u:Value}(I:Inv X pins σ H s) (h:CE X.stack X.prog X.w H s Q u s'):EP X pins σ Q u s':=by
 obtain ⟨v,H',os,bare,un,hok,r,q⟩:=h
 obtain ⟨hh,g,d,t,os'⟩:=s'
 obtain rfl:os' = s.os:=os
 exact ⟨v,H',I.call (h':=hh) (g':=g) (d':=d) (t':=t) (ch:=[]) un hok bare (fun b z=>absurd z (by simp)),r,q⟩
end
def y1x (sp:Sp) (dvs:List V) (E:XK) (t:TA):TE:=fun σ H Q=>t σ H fun vs H1=>sp (vs ++ dvs) H1 Q E
def Binds (K:PySem.W.Frag) (fd:FuncData) (ps:List Str) (ds:List Value):Prop :=
 ∀ (s:Shared) (us:List Value),K.In s.heap→(us ++ ds).length=ps.length→BindsTo s fd ⟨us,[]⟩ (ps.zip (us ++ ds))
theorem Binds.all {K:PySem.W.Frag}{fd:FuncData}{ps:List Str}(h:∀ us:List Value,us.length=ps.length→bindArgs fd ⟨us,[]⟩=pure (ps.zip us)):Binds K fd ps []:=fun s us _ hl=>by
 rw [List.append_nil] at hl ⊢
 exact .of_eq (h us hl)
def z7x (CX:CXT) (X:Cx) (E:XK):Prop:=∀ (pins:List (Addr × Obj)) (σ:St) (H:Hp) (s:Shared) (e:Value) (s':Shared),Inv X pins σ H s→CX X.stack H s E e s'→X.xe e s'
section
variable {X:Cx}{CX:CXT}{k:Nat}{f C:Addr}{fd:FuncData}{ps:List Str}{sp:Sp}{dvs:List V}{ds:List Value}{E:XK}{x m:Str}{p pos apos:Pos}{e o:Expr}{es:List Expr}{ta:TE}{t:TA}
theorem run_fn {pins:List (Addr × Obj)}{σ:St}{H:Hp}{s:Shared}{Q:VK}{us:List Value}{vs:List V}(F:FnOk X.prog X.w X.K X.mg X.base CX k f fd ps sp) (hr:Room k X.A) (hb:Binds X.K fd ps ds) (hd:Vals dvs ds) (hx:z7x CX X E)
  (I:Inv X pins σ H s) (r:Vals vs us) (h:sp (vs ++ dvs) H Q E):wpAny (model X.prog X.w) X.A (call (.ref f) us) (EP X pins σ Q) X.xe s:=by
 have r2:Vals (vs ++ dvs) (us ++ ds):=r.append hd
 have hl:(us ++ ds).length=ps.length:=by rw [← r2.length];exact F.len _ _ _ _ h
 refine wpAny_call (codeAny_mono (F.run X.A X.stack s H ⟨us,[]⟩ (us ++ ds) (vs ++ dvs) Q E hr I.env0 (hb s us I.kIn hl) r2 h) fun r s' hq=>?_)
 cases r with
 |error e=>exact hx pins σ H s e s' I hq
 |ok fl =>
  cases fl with
  |ret u=>exact I.after hq
  |next=>exact False.elim hq
  |brk=>exact False.elim hq
  |cont=>exact False.elim hq
theorem z1t (F:FnOk X.prog X.w X.K X.mg X.base CX k f fd ps sp) (hr:Room k X.A) (hg:Gl X x) (hm:X.mg x=some (.ref f)) (hk:PySem.W.keepIn X.K (.ref f)=true) (hb:Binds X.K fd ps ds) (hd:Vals dvs ds) (hx:z7x CX X E)
  (ha:PA X (e::es) t) (hdb:(x == ("__debug__":Str))=false:=by decide) (he:starEach (e::es) X.env=(false,eval e X.env)::starEach es X.env:=by rfl) (hpl:(backTo pos (starEach es X.env)).any (·.1)=false:=by rfl) :
  PE X (.Call (.Name x p) (e::es) [] pos) (y1x sp dvs E t):=by
 intro pins s σ H Q I h
 refine wpAny_Call_Name_kw (ld_glob I hg hm ?_ hdb)
 refine PySem.W.callWith_K (h₀:=X.base) I.ok.mod.kin hk (thn (ha pos pins s σ H _ I h) fun us s1 ⟨vs,H1,I1,r,q⟩=>⟨I1.kIn,?_⟩) he hpl
 exact run_fn F hr hb hd hx I1 r q
structure Mk (K:PySem.W.Frag) (C f:Addr):Prop where
 makes:PySem.W.makesIn K C=true
 init:PySem.W.findIn K (.ref C) "__init__" = some (some (.ref f))
 fn:PySem.W.isFn K (.ref f)=true
 kp:PySem.W.keepIn K (.ref C)=true
end
section
variable {X:Cx}{CX:CXT}{k:Nat}{f C:Addr}{fd:FuncData}{ps ks:List Str}{sp:Sp}{E:XK}{x m:Str}{p pos apos kpos:Pos}{e o:Expr}{es:List Expr}{kws:List Keyword}{te ta:TE}{t tk:TA}{nm:Option Str}
structure KBinds (K:PySem.W.Frag) (fd:FuncData) (ps ks:List Str) (g:List Value→List Value→List Value) (gV:List V→List V→List V):Prop where
 to:∀ (s:Shared) (us ws:List Value),K.In s.heap→(g us ws).length=ps.length→BindsTo s fd ⟨us,ks.zip ws⟩ (ps.zip (g us ws))
 rel:∀ {vs:List V}{us:List Value}{zs:List V}{ws:List Value},Vals vs us→Vals zs ws→Vals (gV vs zs) (g us ws)
variable {g:List Value→List Value→List Value}{gV:List V→List V→List V}
end
structure FnScope (N P:List Str) (sc:Scope):Prop where
 kind:sc.kind = .function
 co:sc.isCoroutine=false
 gen:sc.isGenerator=false
 nd:N.Nodup
 pre:N.take P.length=P
 par:∀ x∈P,sc.names.lookup x=some .local∨sc.names.lookup x=some .cell
 nofree:∀ y∈sc.names,y.2 ≠ .free
theorem bindL_out {kindOf:Str→Option NameKind}{x:Str}:∀ {binds:List (Str × Value)}{m:Str→Option Value},(∀ v,(x,v)∉binds)→bindL kindOf binds m x=m x
 | [],_,_=>rfl
 |(n,v)::r,m,h=>by
  unfold bindL
  rw [bindL_out fun w hw=>h w (List.mem_cons_of_mem _ hw)]
  split
  ·have:x≠n:=by rintro rfl;exact h v List.mem_cons_self
   simp [this]
  ·rfl
theorem bindC_out {kindOf:Str→Option NameKind}{x:Str}:∀ {binds:List (Str × Value)}{m:Str→Option Value},(∀ v,(x,v)∉binds)→bindC kindOf binds m x=m x
 | [],_,_=>rfl
 |(n,v)::r,m,h=>by
  unfold bindC
  rw [bindC_out fun w hw=>h w (List.mem_cons_of_mem _ hw)]
  split
  ·rfl
  ·have:x≠n:=by rintro rfl;exact h v List.mem_cons_self
   simp [this]
theorem bindL_get {kindOf:Str→Option NameKind}{x:Str}{v:Value}:∀ {P:List Str}{vs:List Value}{i:Nat}{m:Str→Option Value},P.Nodup→P[i]? = some x→vs[i]? = some v→kindOf x=some .local →
  bindL kindOf (P.zip vs) m x=some v
 | [],_,_,_,_,h,_,_=>by simp at h
 |_::_,[],_,_,_,_,h,_=>by simp at h
 |p::P,w::vs,0,m,nd,h1,h2,hk=>by
  simp at h1 h2;subst h1;subst h2
  show bindL kindOf ((p,w)::P.zip vs) m p=_
  unfold bindL
  rw [bindL_out fun v hv=>(List.nodup_cons.mp nd).1 (List.of_mem_zip hv).1,if_pos hk]
  simp
 |p::P,w::vs,i+1,m,nd,h1,h2,hk=>by
  show bindL kindOf ((p,w)::P.zip vs) m x=_
  unfold bindL
  exact bindL_get (i:=i) (List.nodup_cons.mp nd).2 (by simpa using h1) (by simpa using h2) hk
theorem bindC_get {kindOf:Str→Option NameKind}{x:Str}{v:Value}:∀ {P:List Str}{vs:List Value}{i:Nat}{m:Str→Option Value},P.Nodup→P[i]? = some x→vs[i]? = some v→kindOf x≠some .local →
  bindC kindOf (P.zip vs) m x=some v
 | [],_,_,_,_,h,_,_=>by simp at h
 |_::_,[],_,_,_,_,h,_=>by simp at h
 |p::P,w::vs,0,m,nd,h1,h2,hk=>by
  simp at h1 h2;subst h1;subst h2
  show bindC kindOf ((p,w)::P.zip vs) m p=_
  unfold bindC
  rw [bindC_out fun v hv=>(List.nodup_cons.mp nd).1 (List.of_mem_zip hv).1,if_neg hk]
  simp
 |p::P,w::vs,i+1,m,nd,h1,h2,hk=>by
  show bindC kindOf ((p,w)::P.zip vs) m x=_
  unfold bindC
  exact bindC_get (i:=i) (List.nodup_cons.mp nd).2 (by simpa using h1) (by simpa using h2) hk
def start (N:List Str) (vs:List V):St:=vs.map some ++ List.replicate (N.length - vs.length) none
def cxOf (CX:CXT) (P:Program) (w:World) (K:PySem.W.Frag) (mg:Str→Option Value) (base:Heap) (N:List Str) (qual:Str) (scope:Scope) (f:Addr) (cd:Value) (A:Around) (outer:List Env) (s:Shared) (H:Hp) (E:XK):Cx where
 prog:=P
 w:=w
 K:=K
 mg:=mg
 base:=base
 A:=A.deeper (envOfC qual scope s.heap.objs.size f cd)
 N:=N
 s₀:=s
 H₀:=H
 env:=envOfC qual scope s.heap.objs.size f cd
 outer:=outer
 stack:=envOfC qual scope s.heap.objs.size f cd::outer
 ex:=[]
 calm:=true
 fn:=fun _=>true
 pn:=[]
 xe:=fun e s'=>wpAny (model P w) (A.deeper (envOfC qual scope s.heap.objs.size f cd)) (leaving (envOfC qual scope s.heap.objs.size f cd) e) (fun _ s''=>CX outer H s E e s'') (fun e' s''=>CX outer H s E e' s'') s'
theorem cell_has {sc:Scope}{n:Nat}{x:Str}(h:sc.names.lookup x=some .cell):∃ c,(cellsFrom n sc.names []).lookup x=some c:=by
 have q:=PySem.W.cellsFrom_some sc.names n [] (.inl h)
 exact Option.isSome_iff_exists.mp q
theorem inv_start {CX:CXT}{P:Program}{w:World}{K:PySem.W.Frag}{mg:Str→Option Value}{base:Heap}{N ps:List Str}{qual:Str}{scope:Scope}{f:Addr}{cd:Value}{A:Around}{outer:List Env}{s s1:Shared}{H:Hp}{E:XK}{us:List Value}{vs:List V}
  (S:FnScope N ps scope) (hd:A.handled=none) (e0:Env0 P w K mg base A outer s H) (hl:vs.length=ps.length) (r:Vals vs us)
  (x:InCallC s s.heap.objs.size (bindL (envOfC qual scope s.heap.objs.size f cd).kindOf (ps.zip us) fun _=>none) (cellsFrom (s.heap.objs.size+1) scope.names []) (bindC (envOfC qual scope s.heap.objs.size f cd).kindOf (ps.zip us) fun _=>none) s1) :
  Inv (cxOf CX P w K mg base N qual scope f cd A outer s H E) [] (start N vs) H s1:=by
 have hpl:ps.length≤N.length:=by have:=congrArg List.length S.pre;rw [List.length_take] at this;omega
 obtain ⟨h1,tk,rfl,hk⟩:=x.done
 have noA:∀ b:Addr,b∉(cxOf CX P w K mg base N qual scope f cd A outer s H E).ex:=fun b z=>absurd (show b∈([]:List Addr) from z) (by simp)
 refine ⟨⟨e0.mod,S.kind,rfl,rfl,Nat.le_refl _,fun y z c h1 h2=>?_,fun y hy=>?_,fun y c _ h=>?_,fun _=>hd,Around.frames_deeper e0.frames,.inr ⟨rfl,rfl⟩,fun b z=>absurd z (noA b),e0.bs,e0.bsz,fun b _ _=>noA b,fun b z=>absurd z (noA b),e0.funs,e0.frf⟩,
  rfl,e0.bare,Un.kept hk,⟨_,x.toInCall.ns,fun i y v h1 h2 h3=>?_⟩,fun y c h=>⟨_,x.cell y c h⟩,e0.hok.fresh (Nat.le_refl _),fun y c h=>?_,fun p hp=>absurd (show p∈([]:List (Addr × Obj)) from hp) (by simp),e0.hok.kept hk,?_⟩
 ·exact name_of_addr x.apart (PySem.mem_of_lookup h1) (PySem.mem_of_lookup h2)
 ·have hy:scope.names.lookup y=some .cell∨scope.names.lookup y=some .free:=hy
  rcases hy with hy|hy
  ·exact cell_has hy
  ·exact absurd rfl (S.nofree _ (PySem.mem_of_lookup hy))
 ·exact Nat.le_of_lt (x.above y c (PySem.mem_of_lookup h))
 ·have hi:i < vs.length:=by
   unfold start at h2
   by_cases hi:i < vs.length
   ·exact hi
   ·rw [List.getElem?_append_right (by simpa using hi)] at h2
    rw [List.getElem?_replicate] at h2
    split at h2 <;> cases h2
  have ha:vs[i]? = some v:=by
   unfold start at h2
   rw [List.getElem?_append_left (by simpa using hi),List.getElem?_map] at h2
   cases e:vs[i]? with
   |none=>rw [e] at h2;cases h2
   |some a=>rw [e] at h2;cases h2;rfl
  obtain ⟨u,hu,rv⟩:=r.get ha
  have hp:ps[i]? = some y:=by
   rw [← S.pre,List.getElem?_take_of_lt (by omega)];exact h1
  have ndP:ps.Nodup:=by rw [← S.pre];exact S.nd.sublist (List.take_sublist _ _)
  refine ⟨u,rv,?_⟩
  rcases S.par y (List.mem_of_getElem? hp) with k|k
  ·exact .inl ⟨k,bindL_get ndP hp hu k⟩
  ·obtain ⟨c,e⟩:=cell_has (n:=s.heap.objs.size+1) k
   refine .inr ⟨.inl k,c,e,?_⟩
   have q:=x.cell y c e
   rw [bindC_get ndP hp hu (by show scope.names.lookup y≠_;rw [k];decide)] at q
   exact q
 ·exact e0.hok.fresh (Nat.le_of_lt (x.above y c (PySem.mem_of_lookup h)))
 ·unfold start
  show _=N.length
  rw [List.length_append,List.length_map,List.length_replicate]
  omega
theorem fn_of {CX:CXT}{P:Program}{w:World}{K:PySem.W.Frag}{mg:Str→Option Value}{base:Heap}{k:Nat}{f:Addr}{name qual:Str}{params:Arguments}{body:List Stmt}{scope:Scope}{dV kV doc pm cdv ct oc:Value}{an od:Option Addr}
  {osl:Array (Option Value)}{N ps:List Str}{sp:Sp}(lk:K.lookup f=some ⟨oc,od,.func (PySem.W.fnOf name qual params body scope dV kV doc pm an cdv ct),osl⟩) (hcd:PySem.W.codeIn K cdv qual=true) (S:FnScope N ps scope)
  (len:∀ vs H Q E,sp vs H Q E→vs.length=ps.length)
  (hbody:∀ (A:Around) (outer:List Env) (s:Shared) (H:Hp) (vs:List V) (Q:VK) (E:XK),Room k (A.deeper (envOfC qual scope s.heap.objs.size f cdv))→sp vs H Q E →
   ∃ t,PSs (cxOf CX P w K mg base N qual scope f cdv A outer s H E) body t∧t { nx:=fun _ H'=>Q .non H',rt:=Q } (start N vs) H) :
  FnOk P w K mg base CX (k+1) f (PySem.W.fnOf name qual params body scope dV kV doc pm an cdv ct) ps sp:=by
 refine ⟨len,fun A outer s H args us vs Q E hr e0 hb r hsp=>?_⟩
 have hl:=len _ _ _ _ hsp
 have KX:K.In s.heap:=e0.mod.kin.keeps fun b o e=>(e0.bs b o e).1
 have lim:s.heap.NoLimit:=e0.mod.nolimit.keeps fun b o e=>(e0.bs b o e).1
 have hkind:∀ y∈ps.zip us,scope.names.lookup y.1=some .local∨(scope.names.lookup y.1=some .cell∧((cellsFrom (s.heap.objs.size+1) scope.names []).lookup y.1).isSome=true):=fun ⟨n,v⟩ hy=>by
  rcases S.par n (List.of_mem_zip hy).1 with q|q
  ·exact .inl q
  ·exact .inr ⟨q,PySem.W.cellsFrom_some _ _ _ (.inl q)⟩
 refine codeAny_call_function hr.depth (KX _ _ lk) rfl S.co S.gen rfl (PySem.W.codeRec_of KX hcd) (hb _ _ _ _ ?_)
 refine wpAny_newFunctionEnv_cells S.kind hkind fun env he s1 x=>?_
 subst he
 refine ⟨lim.keeps x.toInCall.keep,codeAny_func ?_⟩
 obtain ⟨t,ht,hq⟩:=hbody A outer s H vs Q E (hr.deeper _) hsp
 have I:Inv (cxOf CX P w K mg base N qual scope f cdv A outer s H E) [] (start N vs) H s1:=inv_start S hr.hd e0 hl r x
 refine wpAny_mono (ht [] s1 (start N vs) H _ I hq) (fun fl s' hs=>?_) fun e s' hs=>hs
 have fin:∀ {σ':St}{H':Hp}{v:V}{u:Value},Inv (cxOf CX P w K mg base N qual scope f cdv A outer s H E) [] σ' H' s'→RelV v u→Q v H'→CE outer P w H s Q u s' :=
  fun {σ' H' v u} J rv q=>⟨v,H',J.os,J.bare,J.base,J.hok,rv,q⟩
 cases fl with
 |ret u =>
  obtain ⟨v,σ',H',J,rv,q⟩:=hs
  exact fin J rv q
 |next =>
  obtain ⟨σ',H',J,q⟩:=hs
  exact fin (v:=V.non) (u:=Value.none) J rfl q
 |brk =>
  obtain ⟨_,_,_,q⟩:=hs
  exact False.elim q
 |cont =>
  obtain ⟨_,_,_,q⟩:=hs
  exact False.elim q
end L2
namespace L2
open PySem PySem.Spec PyProof.Rows
section
variable {X:Cx}{x:Str}{p pos:Pos}{e:Expr}{es:List Expr}{t:TA}{id T:String}{r:List V→Hp→VK→Prop}
def tCB (r:List V→Hp→VK→Prop) (t:TA):TE:=fun σ H Q=>t σ H fun vs H1=>r vs H1 Q
theorem z9y (hc:z6j X (.builtin id) r) (hg:Gl X x) (hm:X.mg x=none) (hv:bootBuiltins x=some (.builtin id)) (ha:PA X (e::es) t) (hn:x ≠ "__name__":=by decide) (hdb:(x == ("__debug__":Str))=false:=by decide)
  (he:starEach (e::es) X.env=(false,eval e X.env)::starEach es X.env:=by rfl) (hpl:(backTo pos (starEach es X.env)).any (·.1)=false:=by rfl):PE X (.Call (.Name x p) (e::es) [] pos) (tCB r t):=by
 intro pins s σ H Q I h
 refine wpAny_Call_Name_kw (z5s I hg hm hv ?_ hn hdb)
 exact PyProof.Rows.callWith_builtin1 (thn (ha pos pins s σ H _ I h) fun us s1 ⟨vs,H1,I1,r1,q1⟩=>hc pins s1 σ H1 vs us Q I1 r1 q1) he hpl
theorem pe_callTy (hc:z6j X (.type T) r) (hg:Gl X x) (hm:X.mg x=none) (hv:bootBuiltins x=some (.type T)) (ha:PA X (e::es) t) (hn:x ≠ "__name__":=by decide) (hdb:(x == ("__debug__":Str))=false:=by decide)
  (he:starEach (e::es) X.env=(false,eval e X.env)::starEach es X.env:=by rfl) (hpl:(backTo pos (starEach es X.env)).any (·.1)=false:=by rfl):PE X (.Call (.Name x p) (e::es) [] pos) (tCB r t):=by
 intro pins s σ H Q I h
 refine wpAny_Call_Name_kw (z5s I hg hm hv ?_ hn hdb)
 exact PyProof.Rows.callWith_type1 (thn (ha pos pins s σ H _ I h) fun us s1 ⟨vs,H1,I1,r1,q1⟩=>hc pins s1 σ H1 vs us Q I1 r1 q1) he hpl
end
end L2
namespace HT
open PySem PyProof.Rows
section
open PySem.SeqAt
open PySem.AutoSeq1 (wpAny_loadPart')
open PySem.MeetsSeq PySem.MeetsSeq2 PySem.MeetsSeq3
end
section
variable {prog:Program}{w:World}{A:Around}{E:Value→Shared→Prop}{s:Shared}
def sIx (n d:Nat):Option Int→Nat
 |none=>d
 |some v=>if v < 0 then (v+(n:Int)).toNat else min v.toNat n
theorem sIx_none (n d:Nat):sIx n d none=d:=rfl
theorem sIx_nat (n d k:Nat):sIx n d (some (k:Int))=min k n:=by
 show (if (k:Int) < 0 then ((k:Int)+(n:Int)).toNat else min (k:Int).toNat n)=min k n
 rw [if_neg (by omega),Int.toNat_natCast]
end
end HT
namespace L2
open PySem PySem.Spec PyProof.Rows
abbrev TO:=St→Hp→(Option Int→Hp→Prop)→Prop
def PO (X:Cx) (e:Option Expr) (t:TO):Prop :=
 ∀ (pins:List (Addr × Obj)) (s:Shared) (σ:St) (H:Hp) (Q:Option Int→Hp→Prop),Inv X pins σ H s→t σ H Q →
  wpAny (model X.prog X.w) X.A (evalPart e X.env) (fun u s'=>∃ o H',Inv X pins σ H' s'∧IsPart u o∧Q o H') X.xe s
def tNoPart:TO:=fun _ H Q=>Q none H
def tPart (t:TE):TO:=fun σ H Q=>t σ H fun x H1=>∃ i,x = .int i∧Q (some i) H1
section
variable {X:Cx}{e:Expr}{te:TE}{lo hi:Option Expr}{tl th:TO}{pos p2:Pos}
theorem po_none:PO X none tNoPart:=by
 intro pins s σ H Q I h
 rw [evalPart_none]
 exact wpAny_pure ⟨none,H,I,.none,h⟩
theorem po_some (h:PE X e te):PO X (some e) (tPart te):=by
 intro pins s σ H Q I hw
 rw [evalPart_some]
 refine thn (h pins s σ H _ I hw) fun u s1 ⟨x,H1,I1,r1,q1⟩=>?_
 obtain ⟨i,rfl,q⟩:=q1
 obtain ⟨t,rfl⟩:=r1
 exact ⟨some i,H1,I1,.int i t,q⟩
def SlR (X:Cx) (r:V→Option Int→Option Int→Hp→VK→Prop):Prop :=
 ∀ (pins:List (Addr × Obj)) (s:Shared) (σ:St) (H:Hp) (x:V) (v vl vu:Value) (lo hi:Option Int) (sl:Addr) (Q:VK),Inv X pins σ H s→RelV x v→s.heap.IsSliceOf sl vl vu .none→IsPart vl lo→IsPart vu hi→r x lo hi H Q →
  ∃ T id,typeLookup (.type T) "__getitem__" = pure (some (.builtin id))∧s.TypeIs v T∧wpAny (model X.prog X.w) X.A (getItem v (.ref sl)) (EP X pins σ Q) X.xe s
def tSl (r:V→Option Int→Option Int→Hp→VK→Prop) (te:TE) (tl th:TO):TE:=fun σ H Q=>te σ H fun x H1=>tl σ H1 fun l H2=>th σ H2 fun u H3=>r x l u H3 Q
theorem pe_slice {r:V→Option Int→Option Int→Hp→VK→Prop}(hr:SlR X r) (he:PE X e te) (hl:PO X lo tl) (hu:PO X hi th):PE X (.Subscript e (.Slice lo hi none p2) pos) (tSl r te tl th):=by
 intro pins s σ H Q I h
 refine Subscript_ (thn (he pins s σ H _ I h) fun v s1 ⟨x,H1,I1,r1,q1⟩=>?_)
 refine wpAny_Slice (thn (hl pins s1 σ H1 _ I1 q1) fun vl s2 ⟨l,H2,I2,pl,q2⟩=>thn (hu pins s2 σ H2 _ I2 q2) fun vu s3 ⟨u,H3,I3,pu,q3⟩=>?_)
 rw [evalPart_none]
 refine wpAny_pure ?_
 have I4:Inv X pins σ H3 { s3 with heap:=s3.heap.push { cls:=.type "slice",data:=.fields #[vl,vu,.none] } }:=I3.kept (t':=s3.toks) fun b ob q=>Heap.get?_push_of_some _ q
 obtain ⟨T,id,hT,ht,hg⟩:=hr pins { s3 with heap:=s3.heap.push { cls:=.type "slice",data:=.fields #[vl,vu,.none] } } σ H3 x v vl vu l u s3.heap.objs.size Q I4 r1 (Heap.IsSliceOf.new ..) pl pu q3
 show wpAny (model X.prog X.w) X.A (subscriptTail e (.Slice lo hi none p2) v (.ref s3.heap.objs.size)) (EP X pins σ Q) X.xe { s3 with heap:=s3.heap.push { cls:=.type "slice",data:=.fields #[vl,vu,.none] } }
 exact tail_any (ops:=[.ref s3.heap.objs.size,v]) ht hT hg (by with_unfolding_all rfl)
def cutV (xs:List V) (lo hi:Option Int):List V:=(xs.drop (HT.sIx xs.length 0 lo)).take (HT.sIx xs.length xs.length hi - HT.sIx xs.length 0 lo)
theorem cutV_length (xs:List V) (lo hi:Option Int):(cutV xs lo hi).length≤xs.length:=by
 unfold cutV
 rw [List.length_take,List.length_drop]
 omega
end
end L2
namespace L2
open PySem PySem.Spec PyProof.Rows
def ixN (n:Nat) (i:Int):Option Nat:=if 0≤i then (if i < n then some i.toNat else none) else if -(n:Int)≤i then some (i+n).toNat else none
def atI {α:Type}(xs:List α) (i:Int):Option α:=(ixN xs.length i).bind fun j=>xs[j]?
theorem ixN_seq {n:Nat}{i:Int}{j:Nat}(h:ixN n i=some j):seqIndex? i n=some j∧j < n∧-(n:Int)≤i∧i < n:=by
 unfold ixN at h
 by_cases h0:0≤i
 ·rw [if_pos h0] at h
  by_cases h1:i < n
  ·rw [if_pos h1] at h
   have e:i.toNat=j:=Option.some.inj h
   exact ⟨by rw [seqIndex_of h0 h1,e],by omega,by omega,h1⟩
  ·rw [if_neg h1] at h;cases h
 ·rw [if_neg h0] at h
  by_cases h1:-(n:Int)≤i
  ·rw [if_pos h1] at h
   have e:(i+n).toNat=j:=Option.some.inj h
   exact ⟨by rw [seqIndex_neg (by omega) h1,e],by omega,h1,by omega⟩
  ·rw [if_neg h1] at h;cases h
theorem atI_get {α:Type}{xs:List α}{i:Int}{v:α}(h:atI xs i=some v):∃ j,seqIndex? i xs.length=some j∧xs[j]? = some v∧j < xs.length∧-(xs.length:Int)≤i∧i < xs.length:=by
 unfold atI at h
 cases e:ixN xs.length i with
 |none=>rw [e] at h;cases h
 |some j =>
  rw [e] at h
  obtain ⟨h1,h2,h3,h4⟩:=ixN_seq e
  exact ⟨j,h1,h,h2,h3,h4⟩
theorem z3x {α:Type}{xs:List α}{j:Nat}{v:α}(h:xs[j]? = some v):atI xs (j:Int)=some v:=by
 have hj:j < xs.length:=(List.getElem?_eq_some_iff.mp h).1
 have e:ixN xs.length (j:Int)=some j:=by
  unfold ixN
  rw [if_pos (by omega),if_pos (by omega)];simp
 unfold atI;rw [e];exact h
theorem atI_last {α:Type}(xs:List α) (v:α):atI (xs ++ [v]) (-1)=some v:=by
 have hl:(xs ++ [v]).length=xs.length+1:=by simp
 have e:ixN (xs ++ [v]).length (-1)=some xs.length:=by
  unfold ixN
  rw [hl,if_neg (by decide),if_pos (by omega)]
  congr 1
  omega
 unfold atI
 rw [e]
 show (xs ++ [v])[xs.length]? = some v
 simp
def PlainIx (b:Expr):Prop:=∀ o i,subscripted b false o i=operate [o,i] (getItem o i)
def IxR (X:Cx) (r:R2):Prop :=
 ∀ (value slice:Expr) (pins:List (Addr × Obj)) (s:Shared) (σ:St) (H:Hp) (x y:V) (v u:Value) (Q:VK),Inv X pins σ H s→RelV x v→RelV y u→r x y H Q →
  subscripted slice false v u=operate [v,u] (getItem v u)→wpAny (model X.prog X.w) X.A (subscriptTail value slice v u) (EP X pins σ Q) X.xe s
def MtR (X:Cx) (id:String) (r:V→List V→Hp→VK→Prop):Prop :=
 ∀ (pins:List (Addr × Obj)) (s:Shared) (σ:St) (H:Hp) (x:V) (xs:List V) (v:Value) (us:List Value) (Q:VK),Inv X pins σ H s→RelV x v→Vals xs us→r x xs H Q →
  wpAny (model X.prog X.w) X.A (call (.builtin id) (v::us)) (EP X pins σ Q) X.xe s
section
variable {X:Cx}{a b:Expr}{ta tb:TE}{pos:Pos}
theorem IxR.or {r r':R2}(h:IxR X r) (h':IxR X r'):IxR X (fun x y H Q=>r x y H Q∨r' x y H Q):=by
 intro value slice pins s σ H x y v u Q I rx ry q hs
 rcases q with q|q
 ·exact h value slice pins s σ H x y v u Q I rx ry q hs
 ·exact h' value slice pins s σ H x y v u Q I rx ry q hs
theorem z5z {r:R2}(hr:IxR X r) (ha:PE X a ta) (hb:PE X b tb) (hs:PlainIx b):PE X (.Subscript a b pos) (tOp r ta tb):=by
 intro pins s σ H Q I h
 exact Subscript_ (binT ha hb I h fun v u s2 x y H2 I2 rx ry q=>hr a b pins s2 σ H2 x y v u Q I2 rx ry q (hs _ _))
def rIxL (K:PySem.W.Frag):R2:=fun x y H Q=>∃ p xs i v,x = .ref p∧y = .int i∧SqL K H p xs∧atI xs i=some v∧Q v H
def rIxT (K:PySem.W.Frag):R2:=fun x y H Q=>∃ p xs i v,x = .ref p∧y = .int i∧SqT K H p xs∧atI xs i=some v∧Q v H
def rIxS:R2:=fun x y H Q=>∃ z i c,x = .str z∧y = .int i∧z.length≤sizeLine∧atI z.cps.toList i=some c∧Q (.str ⟨#[c]⟩) H
theorem ix_list:IxR X (rIxL X.K):=by
 intro value slice pins s σ H x y v u Q I rx ry h hs
 obtain ⟨p,xs,i,z,rfl,rfl,hq,he,q⟩:=h
 cases rx
 obtain ⟨t,rfl⟩:=ry
 obtain ⟨its,r,pl,hz⟩:=I.list hq
 obtain ⟨j,h1,h2,h3,h4,h5⟩:=atI_get he
 obtain ⟨w,ew,rw'⟩:=r.get h2
 have hl:=r.length
 have hn:=y1h
 have fin:EP X pins σ Q w s:=⟨z,H,I,rw',q⟩
 by_cases h0:0≤i
 ·have hj:i.toNat=j:=by
   rw [seqIndex_of h0 h5] at h1
   exact Option.some.inj h1
  exact item_listR pl.isList h0 (by omega) (by rw [hj];simpa using ew) fin hs
 ·have hj:(i+(its.toArray.size:Int)).toNat=j:=by
   rw [seqIndex_neg (by omega) h4] at h1
   rw [List.size_toArray,← hl]
   exact Option.some.inj h1
  exact subscriptTail_builtinR (x:=w) pl.isList.typeIs slot_list_getitem.lookup
   (wpAny_getItem_list_neg (Q:=fun r s'=>r=w∧EP X pins σ Q r s') pl.isList (by omega) (by rw [List.size_toArray] <;> omega) (by omega) (by rw [hj];simpa using ew) ⟨rfl,fin⟩) hs
theorem ix_tup:IxR X (rIxT X.K):=by
 intro value slice pins s σ H x y v u Q I rx ry h hs
 obtain ⟨p,xs,i,z,rfl,rfl,hq,he,q⟩:=h
 cases rx
 obtain ⟨t,rfl⟩:=ry
 obtain ⟨its,r,pl,hz⟩:=I.tuple hq
 obtain ⟨j,h1,h2,h3,h4,h5⟩:=atI_get he
 obtain ⟨w,ew,rw'⟩:=r.get h2
 have hl:=r.length
 have hn:=y1h
 have fin:EP X pins σ Q w s:=⟨z,H,I,rw',q⟩
 exact subscriptTail_builtinR (x:=w) pl.typeIs slot_tuple_getitem.lookup
  (getItem_tuple (j:=j) (Q:=fun r s'=>r=w∧EP X pins σ Q r s') pl (by omega) (by omega) (by rw [List.size_toArray,← hl];exact h1) (by simpa using ew) ⟨rfl,fin⟩) hs
theorem ix_str:IxR X rIxS:=by
 intro value slice pins s σ H x y v u Q I rx ry h hs
 obtain ⟨z,i,c,rfl,rfl,hz,he,q⟩:=h
 obtain ⟨t,rfl⟩:=rx
 obtain ⟨t',rfl⟩:=ry
 obtain ⟨j,h1,h2,h3,h4,h5⟩:=atI_get he
 have hl:z.cps.toList.length=z.length:=by simp [Str.length]
 rw [hl] at h1 h4 h5
 have hn:=y1h
 exact tail_any (typeIs_str s z t) slot_str_getitem.lookup (getItem_str (c:=c) (by
  have e1:decide (i < -(2 ^ 63:Int))=false:=decide_eq_false (by omega)
  have e2:decide (i ≥ 2 ^ 63)=false:=decide_eq_false (by omega)
  rw [e1,e2,Bool.or_false]) (by rw [h1];simpa using h2) ⟨.str ⟨#[c]⟩,H,I.tok _,⟨_,rfl⟩,q⟩) hs
def rIx (K:PySem.W.Frag):R2:=fun x y H Q=>rIxL K x y H Q∨rIxT K x y H Q∨rIxS x y H Q
theorem ix_seq:IxR X (rIx X.K):=ix_list.or (ix_tup.or ix_str)
theorem mapSeq_set (its:List Value) (n j:Nat) (u:Value):Obj.mapSeq (·.setIfInBounds j u) { cls:=.type "list",data:=.seq its.toArray n } = { cls:=.type "list",data:=.seq (its.set j u).toArray n }:=by
 simp [Obj.mapSeq]
theorem Inv.lst {pins:List (Addr × Obj)}{σ:St}{H:Hp}{s:Shared}{p:Addr}{xs:List V}(I:Inv X pins σ H s) (h:H p=some (.lst xs)) :
  ∃ (its:List Value) (n:Nat),Vals xs its∧s.heap.get? p=some { cls:=.type "list",data:=.seq its.toArray n }∧xs.length≤sizeLine:=by
 obtain ⟨z,its,n,r,e⟩:=I.hok p _ h
 exact ⟨its,n,r,e,z⟩
theorem Inv.lstUpd {pins:List (Addr × Obj)}{σ:St}{H:Hp}{s:Shared}{p:Addr}{xs ys:List V}{its its':List Value}{n n':Nat}{f:Obj→Obj}(I:Inv X pins σ H s) (h:H p=some (.lst xs))
  (ho:s.heap.get? p=some { cls:=.type "list",data:=.seq its.toArray n }) (hf:f { cls:=.type "list",data:=.seq its.toArray n } = { cls:=.type "list",data:=.seq its'.toArray n' }) (r:Vals ys its') (hz:ys.length≤sizeLine) (t:Nat) :
  Inv X pins σ (upd H p (.lst ys)) { s with heap:=s.heap.update p f,toks:=t }:=by
 have e:(s.heap.update p f).get? p=some { cls:=.type "list",data:=.seq its'.toArray n' }:=by
  rw [Heap.get?_update_self f ho (by rw [hf] <;> rfl),hf]
 refine I.write (x:=p) (e:=p) (by rw [h];trivial) (.inl rfl) (fun b u hb q=>(Heap.get?_update_other _ _ (Ne.symm hb)).trans q) ⟨_,e⟩ ?_
 exact ⟨hz,its',n',r,e⟩
def rSetL:V→V→V→Hp→(Hp→Prop)→Prop:=fun o i v H Q=>∃ p xs k j,o = .ref p∧i = .int k∧H p=some (.lst xs)∧ixN xs.length k=some j∧Q (upd H p (.lst (xs.set j v)))
theorem set_list:PSet X rSetL:=by
 intro pins s σ H o i v ov iv u Q I ro ri rv h
 obtain ⟨p,xs,k,j,rfl,rfl,hp,hj,q⟩:=h
 cases ro
 obtain ⟨t,rfl⟩:=ri
 obtain ⟨its,n,r,ho,hz⟩:=I.lst hp
 obtain ⟨h1,h2,h3,h4⟩:=ixN_seq hj
 have hl:=r.length
 have hn:=y1h
 have I':Inv X pins σ (upd H p (.lst (xs.set j v))) { s with heap:=s.heap.update p (Obj.mapSeq (·.setIfInBounds j u)) } :=
  I.lstUpd hp ho (mapSeq_set its n j u) (r.set rv j) (by rw [List.length_set];exact hz) s.toks
 by_cases h0:0≤k
 ·have hk:k.toNat=j:=by
   rw [seqIndex_of h0 h4] at h1
   exact Option.some.inj h1
  exact PySem.W.ki_setAt ho h0 (by omega) (by rw [List.size_toArray,← hl];exact h4) (by rw [hk];exact ⟨_,I',q⟩)
 ·have hk:(k+(its.toArray.size:Int)).toNat=j:=by
   rw [seqIndex_neg (by omega) h3] at h1
   rw [List.size_toArray,← hl]
   exact Option.some.inj h1
  exact PySem.W.ki_setBack ho (by omega) (by rw [List.size_toArray,← hl];exact h3) (by omega) (by rw [hk];exact ⟨_,I',q⟩)
theorem slice_bounds (lo hi:Option Int) (n:Nat):(sliceBounds lo hi none n).1=((HT.sIx n 0 lo:Nat):Int)∧(sliceBounds lo hi none n).2.1=((HT.sIx n n hi:Nat):Int)∧(sliceBounds lo hi none n).2.2=1:=by
 refine ⟨?_,?_,rfl⟩
 ·cases lo with
  |none=>simp [sliceBounds,HT.sIx]
  |some i =>
   simp only [sliceBounds,HT.sIx,Option.getD_none,show (1:Int) > 0 by decide,if_true]
   by_cases h:i < 0
   ·simp only [h,if_true] <;> omega
   ·simp only [h,if_false] <;> omega
 ·cases hi with
  |none=>simp [sliceBounds,HT.sIx]
  |some i =>
   simp only [sliceBounds,HT.sIx,Option.getD_none,show (1:Int) > 0 by decide,if_true]
   by_cases h:i < 0
   ·simp only [h,if_true] <;> omega
   ·simp only [h,if_false] <;> omega
theorem slicePick_cut (its:List Value) (lo hi:Option Int):slicePick its.toArray lo hi none=((its.drop (HT.sIx its.length 0 lo)).take (HT.sIx its.length its.length hi - HT.sIx its.length 0 lo)).toArray:=by
 obtain ⟨h1,h2,h3⟩:=slice_bounds lo hi its.toArray.size
 unfold slicePick
 rw [h1,h2,h3]
 simp only [sliceRange_one,pick_run,List.size_toArray] <;> rfl
def rSlL (K:PySem.W.Frag):V→Option Int→Option Int→Hp→VK→Prop:=fun x lo hi H Q=>∃ a xs,x = .ref a∧SqL K H a xs∧∀ p,H p=none→Q (.ref p) (upd H p (.lst (cutV xs lo hi)))
theorem sl_list:SlR X (rSlL X.K):=by
 intro pins s σ H x v vl vu lo hi sl Q I rx hs pl pu h
 obtain ⟨a,xs,rfl,hx,q⟩:=h
 cases rx
 obtain ⟨its,r,ht,hz⟩:=I.list hx
 have hlen:=r.length
 refine ⟨"list",_,slot_list_getitem.lookup,ht.isList.typeIs,?_⟩
 refine wpAny_getItem_list_slice ht.isList hs pl pu .none (by simp) ?_ (by rw [List.size_toArray] <;> omega)
 rw [slicePick_cut,← hlen]
 refine ⟨.ref s.heap.objs.size,_,I.laid (t':=s.toks) (o:=.lst (cutV xs lo hi)) (fun b ob q=>Heap.get?_push_of_some _ q) (Nat.le_refl _) ?_,rfl,q _ (I.hok.fresh (Nat.le_refl _))⟩
 exact ⟨Nat.le_trans (cutV_length xs lo hi) hz,_,0,(r.drop (HT.sIx xs.length 0 lo)).take (HT.sIx xs.length xs.length hi - HT.sIx xs.length 0 lo),Heap.get?_push_size _ rfl⟩
def z4f:V→Bool
 |.non=>true
 |.bl _=>true
 |.int _=>true
 |.str _=>true
 |_=>false
def eqV:V→V→Bool
 |.non,.non=>true
 |.bl a,.bl b=>a == b
 |.bl a,.int b=>(if a then 1 else 0) == b
 |.int a,.bl b=>a == (if b then 1 else 0)
 |.int a,.int b=>a == b
 |.str a,.str b=>a == b
 |_,_=>false
theorem eqAt_V {A:Around}{s:Shared}{y x:V}{u v:Value}(ry:RelV y u) (rx:RelV x v) (fy:z4f y=true) (fx:z4f x=true):SeqAt.EqAt A s u v (eqV y x):=by
 cases y with
 |non =>
  cases ry
  cases x with
  |non=>cases rx;exact SeqAt.EqAt.same _
  |bl b=>cases rx;exact SeqAt.EqAt.none_bool b
  |int b=>obtain ⟨t,rfl⟩:=rx;exact SeqAt.EqAt.none_int b t
  |str b=>obtain ⟨t,rfl⟩:=rx;exact SeqAt.EqAt.none_str b t
  |_=>exact absurd (show false=true from fx) Bool.false_ne_true
 |bl a =>
  cases ry
  cases x with
  |non=>cases rx;exact SeqAt.EqAt.bool_none a
  |bl b=>cases rx;exact SeqAt.EqAt.bool_bool a b
  |int b=>obtain ⟨t,rfl⟩:=rx;exact SeqAt.EqAt.bool_int a b t
  |str b=>obtain ⟨t,rfl⟩:=rx;exact SeqAt.EqAt.bool_str a b t
  |_=>exact absurd (show false=true from fx) Bool.false_ne_true
 |int a =>
  obtain ⟨t',rfl⟩:=ry
  cases x with
  |non=>cases rx;exact SeqAt.EqAt.int_none a t'
  |bl b=>cases rx;exact SeqAt.EqAt.int_bool a t' b
  |int b=>obtain ⟨t,rfl⟩:=rx;exact SeqAt.EqAt.int_int a t' b t
  |str b=>obtain ⟨t,rfl⟩:=rx;exact SeqAt.EqAt.int_str a t' b t
  |_=>exact absurd (show false=true from fx) Bool.false_ne_true
 |str a =>
  obtain ⟨t',rfl⟩:=ry
  cases x with
  |non=>cases rx;exact SeqAt.EqAt.str_none a t'
  |bl b=>cases rx;exact SeqAt.EqAt.str_bool a t' b
  |int b=>obtain ⟨t,rfl⟩:=rx;exact SeqAt.EqAt.str_int a t' b t
  |str b=>obtain ⟨t,rfl⟩:=rx;exact SeqAt.EqAt.str_str a t' b t
  |_=>exact absurd (show false=true from fx) Bool.false_ne_true
 |_=>exact absurd (show false=true from fy) Bool.false_ne_true
def eqU (x:V) (u:Value):Bool:=match u with
 |.none=>eqV .non x
 |.bool b=>eqV (.bl b) x
 |.int i _=>eqV (.int i) x
 |.str z _=>eqV (.str z) x
 |_=>false
theorem eqU_of {x y:V}{u:Value}(r:RelV y u) (f:z4f y=true):eqU x u=eqV y x:=by
 cases y with
 |non=>cases r;rfl
 |bl b=>cases r;rfl
 |int i=>obtain ⟨t,rfl⟩:=r;rfl
 |str z=>obtain ⟨t,rfl⟩:=r;rfl
 |_=>exact absurd (show false=true from f) Bool.false_ne_true
theorem y0p {x:V}:∀ {xs:List V}{us:List Value},Vals xs us→xs.all z4f=true→us.any (eqU x)=xs.any fun y=>eqV y x
 |_,_,.nil,_=>rfl
 |y::xs,u::us,.cons r t,f=>by
  rw [List.all_cons,Bool.and_eq_true] at f
  rw [List.any_cons,List.any_cons,eqU_of r f.1,y0p t f.2]
theorem z7d {A:Around}{s:Shared}{x:V}{v:Value}(rx:RelV x v) (fx:z4f x=true):∀ {xs:List V}{us:List Value},Vals xs us→xs.all z4f=true→∀ u∈us,SeqAt.EqAt A s u v (eqU x u)
 |_,_,.nil,_=>fun u hu=>by cases hu
 |y::xs,u::us,.cons r t,f=>fun u' hu=>by
  rw [List.all_cons,Bool.and_eq_true] at f
  rcases List.mem_cons.mp hu with rfl|hu
  ·rw [eqU_of r f.1];exact eqAt_V r rx f.1 fx
  ·exact z7d rx fx t f.2 u' hu
def inV (x:V) (xs:List V):Bool:=xs.any fun y=>eqV y x
def rIn (K:PySem.W.Frag) (neg:Bool):R2:=fun x y H Q=>∃ p xs,y = .ref p∧(SqL K H p xs∨SqT K H p xs)∧z4f x=true∧xs.all z4f=true∧Q (.bl (if neg then !inV x xs else inV x xs)) H
theorem op_in_seq:OpR X (compareOp .In) (rIn X.K false):=by
 intro pins s σ H x y v u Q I rx ry h
 obtain ⟨p,xs,rfl,hq,fx,fs,q⟩:=h
 cases ry
 rcases hq with hq|hq
 ·obtain ⟨its,r,pl,hz⟩:=I.list hq
  refine SeqAt.in_listAt (eqU x) pl.isList (fun w hw=>z7d rx fx r fs w (by simpa using hw)) ⟨.bl _,H,I,rfl,?_⟩
  rw [show its.toArray.any (eqU x)=its.any (eqU x) by simp,y0p r fs]
  exact q
 ·obtain ⟨its,r,pl,hz⟩:=I.tuple hq
  refine SeqAt.in_tupleAt (eqU x) pl (fun w hw=>z7d rx fx r fs w (by simpa using hw)) ⟨.bl _,H,I,rfl,?_⟩
  rw [show its.toArray.any (eqU x)=its.any (eqU x) by simp,y0p r fs]
  exact q
theorem op_notIn_seq:OpR X (compareOp .NotIn) (rIn X.K true):=by
 intro pins s σ H x y v u Q I rx ry h
 obtain ⟨p,xs,rfl,hq,fx,fs,q⟩:=h
 cases ry
 rcases hq with hq|hq
 ·obtain ⟨its,r,pl,hz⟩:=I.list hq
  refine SeqAt.notIn_listAt (eqU x) pl.isList (fun w hw=>z7d rx fx r fs w (by simpa using hw)) ⟨.bl _,H,I,rfl,?_⟩
  rw [show its.toArray.any (eqU x)=its.any (eqU x) by simp,y0p r fs]
  exact q
 ·obtain ⟨its,r,pl,hz⟩:=I.tuple hq
  refine SeqAt.notIn_tupleAt (eqU x) pl (fun w hw=>z7d rx fx r fs w (by simpa using hw)) ⟨.bl _,H,I,rfl,?_⟩
  rw [show its.toArray.any (eqU x)=its.any (eqU x) by simp,y0p r fs]
  exact q
theorem z4d:z6j X (.builtin "len") (fun xs H Q=>∃ p ys,xs=[.ref p]∧(SqL X.K H p ys∨SqT X.K H p ys)∧Q (.int ys.length) H):=by
 intro pins s σ H xs us Q I r h
 obtain ⟨p,ys,rfl,hq,q⟩:=h
 obtain ⟨u,rfl,rx⟩:=z8j r
 cases rx
 have hn:=y1h
 rcases hq with hq|hq
 ·obtain ⟨its,r',pl,hz⟩:=I.list hq
  have hlen:=r'.length
  exact Calls.call_len_list pl.isList (by simp only [List.size_toArray] <;> omega) ⟨.int ys.length,H,I.tok _,⟨s.toks+1,by rw [List.size_toArray,hlen]⟩,q⟩
 ·obtain ⟨its,r',pl,hz⟩:=I.tuple hq
  have hlen:=r'.length
  exact len_tuple pl (by simp only [List.size_toArray] <;> omega) ⟨.int ys.length,H,I.tok _,⟨s.toks+1,by rw [List.size_toArray,hlen]⟩,q⟩
theorem call_len_str:z6j X (.builtin "len") (fun xs H Q=>∃ z,xs=[.str z]∧z.length≤sizeLine∧Q (.int z.length) H):=by
 intro pins s σ H xs us Q I r h
 obtain ⟨z,rfl,hz,q⟩:=h
 obtain ⟨u,rfl,t,rfl⟩:=z8j r
 have hn:=y1h
 exact len_str (by omega) ⟨.int z.length,H,I.tok _,⟨_,rfl⟩,q⟩
theorem call_list_of:z6j X (.type "list") (fun xs H Q=>∃ p ys,xs=[.ref p]∧(SqL X.K H p ys∨SqT X.K H p ys)∧∀ l,H l=none→Q (.ref l) (upd H l (.lst ys))):=by
 intro pins s σ H xs us Q I r h
 obtain ⟨p,ys,rfl,hq,q⟩:=h
 obtain ⟨u,rfl,rx⟩:=z8j r
 cases rx
 have fin:∀ (its:List Value),Vals ys its→ys.length≤sizeLine→∀ (h':Heap) (c':Nat),(∀ b o',s.heap.get? b=some o'→h'.get? b=some o') →
   h'.get? s.heap.objs.size=some { cls:=.type "list",dict:=none,data:=.seq its.toArray c',slots:=#[] }→EP X pins σ Q (.ref s.heap.objs.size) { s with heap:=h' }:=fun its r' hz h' c' kp e =>
  ⟨.ref s.heap.objs.size,_,I.laid (t':=s.toks) kp (Nat.le_refl _) (show ObjOk X.prog X.w _ h' _ (.lst ys) from ⟨hz,its,c',r',e⟩),rfl,q _ (I.hok.fresh (Nat.le_refl _))⟩
 rcases hq with hq|hq
 ·obtain ⟨its,r',pl,hz⟩:=I.list hq
  have hlen:=r'.length
  obtain ⟨o,ho,hc,n,hd⟩:=pl.isList
  exact call_list_seq p (.inl rfl) ho hc hd (fun h' c' kp e=>fin its r' hz h' c' kp e) (by simp only [List.size_toArray] <;> omega)
 ·obtain ⟨its,r',pl,hz⟩:=I.tuple hq
  have hlen:=r'.length
  obtain ⟨o,ho,hc,n,hd⟩:=pl
  exact call_list_seq p (.inr rfl) ho hc hd (fun h' c' kp e=>fin its r' hz h' c' kp e) (by simp only [List.size_toArray] <;> omega)
def tyV (K:PySem.W.Frag) (T:String) (x:V) (H:Hp):Prop:=match x with
 |.str _=>T = "str"
 |.int _=>T = "int"
 |.ref p=>(T = "list"∧∃ xs,SqL K H p xs)∨(T = "tuple"∧∃ o,K.lookup p=some o∧o.cls = .type "tuple"∧o.dict=none) ∨
   (T = "dict"∧((∃ kvs,H p=some (.dK kvs)) ∨ ∃ kvs,H p=some (.dT kvs)))∨(T = "set"∧∃ S n,H p=some (.set S n))
 |_=>False
theorem tyV_is {pins:List (Addr × Obj)}{σ:St}{H:Hp}{s:Shared}{T:String}{x:V}{v:Value}(I:Inv X pins σ H s) (r:RelV x v) (ty:tyV X.K T x H) :
  s.TypeIs v T∧∀ a,v = .ref a→∃ ob,s.heap.get? a=some ob∧ob.dict=none:=by
 cases x with
 |str z =>
  obtain ⟨t,rfl⟩:=r
  cases (show T = "str" from ty)
  exact ⟨typeIs_str s z t,fun _ e=>nomatch e⟩
 |int i =>
  obtain ⟨t,rfl⟩:=r
  cases (show T = "int" from ty)
  exact ⟨typeIs_int s i t,fun _ e=>nomatch e⟩
 |ref p =>
  cases r
  rcases ty with ⟨rfl,xs,hq⟩|⟨rfl,o,hk,hc,hd⟩|⟨rfl,hk⟩|⟨rfl,S,n,hk⟩
  ·obtain ⟨its,_,pl,_⟩:=I.list hq
   refine ⟨pl.isList.typeIs,fun a e=>?_⟩
   cases e
   obtain ⟨o,n,e,c,hd,_⟩:=pl
   exact ⟨o,e,hd⟩
  ·refine ⟨⟨o,I.kIn p o hk,hc⟩,fun a e=>?_⟩
   cases e
   exact ⟨o,I.kIn _ o hk,hd⟩
  ·have z:∃ o,s.heap.get? p=some o∧o.ExactDict:=by
    rcases hk with ⟨kvs,hk⟩|⟨kvs,hk⟩
    ·obtain ⟨_,_,_,_,o,_,_,e,ex,_⟩:=I.hok p _ hk
     exact ⟨o,e,ex⟩
    ·obtain ⟨_,_,_,_,o,_,_,e,ex,_⟩:=I.hok p _ hk
     exact ⟨o,e,ex⟩
   obtain ⟨o,e,ex⟩:=z
   refine ⟨⟨o,e,ex.1⟩,fun a e2=>?_⟩
   cases e2
   exact ⟨o,e,ex.2.1⟩
  ·obtain ⟨o,_,_,_,e,ex,_⟩:=I.hok p _ hk
   refine ⟨⟨o,e,ex.1⟩,fun a e2=>?_⟩
   cases e2
   exact ⟨o,e,ex.2.1⟩
 |_=>exact False.elim ty
def tBM (K:PySem.W.Frag) (T:String) (r:V→List V→Hp→VK→Prop) (to:TE) (t:TA):TE:=fun σ H Q=>to σ H fun x H1=>tyV K T x H1∧t σ H1 fun xs H2=>r x xs H2 Q
variable {o e:Expr}{es:List Expr}{to:TE}{t:TA}{name:Str}{apos cpos:Pos}{T id:String}{r:V→List V→Hp→VK→Prop}
theorem pe_bm (pa:PlainAttrs T) (slot:Slot T name id) (hty:typeOf (.builtin id)=pure (.type "method_descriptor")) (hm:MtR X id r) (ho:PE X o to) (ha:PA X (e::es) t)
  (hbase:attributeBase o name X.env (eval o X.env)=eval o X.env:=by rfl)
  (hfew:((backTo cpos (starEach (e::es) X.env)).all (fun x=>!x.1) && (backToKw cpos (keywordEach [] X.env)).all (fun x=>x.1.isSome)
   && decide ((e::es).length+([]:List Keyword).length+(if ([]:List Keyword).isEmpty then 0 else 1) < 30))=true:=by rfl)
  (hline:(apos.endLine == cpos.line)=true:=by rfl) (hs:starEach (e::es) X.env=(false,eval e X.env)::starEach es X.env:=by rfl) (hplain:(backTo cpos (starEach es X.env)).any (·.1)=false:=by rfl) :
  PE X (.Call (.Attribute o name apos) (e::es) [] cpos) (tBM X.K T r to t):=by
 intro pins s σ H Q I h
 refine wpAny_Call_method_late hbase hfew hline rfl (thn (ho pins s σ H _ I h) fun v s1 ⟨x,H1,I1,r1,ty,q1⟩=>?_)
 obtain ⟨h1,h2⟩:=tyV_is I1 r1 ty
 refine ⟨T,id,pa,slot,hty,h1,h2,?_⟩
 have hA:=ha cpos pins s1 σ H1 _ I1 q1
 rw [hs] at hA ⊢
 refine Calls.callWith_builtin (by show (false || (backTo cpos (starEach es X.env)).any (·.1))=false;rw [hplain] <;> rfl) (Calls.evalArgs_plain ?_)
 exact thn hA fun us s2 ⟨vs,H2,I2,r2,q2⟩=>hm pins s2 σ H2 x vs v us Q I2 r1 r2 q2
end
end L2
namespace L2
open PySem PySem.Spec PyProof.Rows
def MtM (X:Cx) (id:String) (r:V→List V→Hp→VK→Prop):Prop :=
 ∀ (pins:List (Addr × Obj)) (s:Shared) (σ:St) (H:Hp) (x:V) (xs:List V) (v:Value) (us:List Value) (Q:VK),Inv X pins σ H s→RelV x v→Vals xs us→r x xs H Q →
  wpAny (model X.prog X.w) X.A (call (.builtin id) (v::us)) (EP X pins σ Q) X.xe s
theorem Vals.one:∀ {x:V}{us:List Value},Vals [x] us→∃ u,us=[u]∧RelV x u
 |_,_,.cons r .nil=>⟨_,rfl,r⟩
theorem Vals.zero:∀ {us:List Value},Vals [] us→us=[]
 |_,.nil=>rfl
theorem Vals.dropLast {xs:List V}{us:List Value}(h:Vals xs us):Vals xs.dropLast us.dropLast:=by
 induction h with
 |nil=>exact .nil
 |cons r t ih =>
  cases t with
  |nil=>exact .nil
  |cons q t'=>exact .cons r ih
theorem Vals.reverse {xs:List V}{us:List Value}(h:Vals xs us):Vals xs.reverse us.reverse:=by
 induction h with
 |nil=>exact .nil
 |cons r t ih=>rw [List.reverse_cons,List.reverse_cons];exact Vals.append ih (.cons r .nil)
theorem erase_last {α:Type}(l:List α):l.eraseIdx (l.length - 1)=l.dropLast:=by
 induction l with
 |nil=>rfl
 |cons a r ih =>
  cases r with
  |nil=>rfl
  |cons b r =>
   have e:(a::b::r).length - 1=((b::r).length - 1)+1:=by
    have h1:(a::b::r).length=r.length+2:=rfl
    have h2:(b::r).length=r.length+1:=rfl
    omega
   rw [e,List.eraseIdx_cons_succ,ih]
   all_goals rfl
section
variable {X:Cx}{pins:List (Addr × Obj)}{σ:St}{H:Hp}{s:Shared}{l b:Addr}{xs ys zs:List V}
theorem Inv.lset {its its':List Value}{n:Nat}{f:Array Value→Array Value}{t':Nat}(I:Inv X pins σ H s) (hH:H l=some (.lst xs))
  (e:s.heap.get? l=some { cls:=.type "list",data:=.seq its.toArray n }) (hf:f its.toArray=its'.toArray) (hv:Vals ys its') (hz:ys.length≤sizeLine) :
  Inv X pins σ (upd H l (.lst ys)) { s with heap:=s.heap.update l (Obj.mapSeq f),toks:=t' }:=by
 have q:=PySem.IsL.update e f
 rw [hf] at q
 refine I.write (x:=l) (e:=l) (by rw [hH];exact trivial) (.inl rfl) (fun b' u hb hu=>(Heap.get?_update_other s.heap (Obj.mapSeq f) (Ne.symm hb)).trans hu) ⟨_,q⟩ ?_
 exact ⟨hz,its',_,hv,q⟩
theorem Inv.lnew {its:List Value}{t':Nat}(I:Inv X pins σ H s) (hv:Vals ys its) (hz:ys.length≤sizeLine) :
  Inv X pins σ (upd H s.heap.objs.size (.lst ys)) { s with heap:=s.heap.push { cls:=.type "list",data:=.seq its.toArray },toks:=t' } :=
 I.laid (fun _ _ q=>Heap.get?_push_of_some _ q) (Nat.le_refl _) ⟨hz,its,0,hv,Heap.get?_push_size _ rfl⟩
theorem Inv.fresh (I:Inv X pins σ H s):H s.heap.objs.size=none:=I.hok.fresh (Nat.le_refl _)
theorem Inv.lstM (I:Inv X pins σ H s) (hH:H l=some (.lst xs)):xs.length≤sizeLine∧∃ (its:List Value) (n:Nat),Vals xs its∧xs.length=its.length∧s.heap.get? l=some { cls:=.type "list",data:=.seq its.toArray n }:=by
 obtain ⟨z,its,n,r,e⟩:=I.hok l _ hH
 exact ⟨z,its,n,r,r.length,e⟩
theorem notLongL {n:Nat}(h:n≤sizeLine):Builtin.List.listTooLong n=false:=by
 unfold Builtin.List.listTooLong
 exact decide_eq_false (by omega)
end
section
variable {X:Cx}
def z5q:V→List V→Hp→VK→Prop:=fun x vs H Q=>∃ l xs y,x = .ref l∧vs=[y]∧H l=some (.lst xs)∧xs.length < sizeLine∧Q .non (upd H l (.lst (xs ++ [y])))
theorem z1j:MtM X "list.append" z5q:=by
 intro pins s σ H x vs v us Q I rx rv h
 obtain ⟨l,xs,y,rfl,rfl,hH,hz,q⟩:=h
 cases rx
 obtain ⟨u,rfl,ru⟩:=rv.one
 obtain ⟨z,its,n,r,hl,e⟩:=I.lstM hH
 refine call_meets F.slot_list_append ⟨_,e,rfl⟩ F.entry_list_append (F.args_list_append_2 _ _) (PySem.list_append l its.toArray n u (by rw [List.size_toArray];omega)) ⟨e,?_⟩
 refine ⟨.non,_,I.lset (its':=its ++ [u]) hH e (by simp) (r.append (.cons ru .nil)) ?_,rfl,q⟩
 rw [List.length_append,List.length_singleton]
 omega
def rExtend:V→List V→Hp→VK→Prop:=fun x vs H Q=>∃ l b xs zs,x = .ref l∧vs=[.ref b]∧H l=some (.lst xs)∧H b=some (.lst zs)∧xs.length+zs.length≤sizeLine∧Q .non (upd H l (.lst (xs ++ zs)))
theorem y0a:MtM X "list.extend" rExtend:=by
 intro pins s σ H x vs v us Q I rx rv h
 obtain ⟨l,b,xs,zs,rfl,rfl,hH,hB,hz,q⟩:=h
 cases rx
 obtain ⟨u,rfl,ru⟩:=rv.one
 cases ru
 obtain ⟨z,its,n,r,hl,e⟩:=I.lstM hH
 obtain ⟨z2,its2,n2,r2,hl2,e2⟩:=I.lstM hB
 have hsz:its.toArray.size+its2.toArray.size≤sizeLine:=by rw [List.size_toArray,List.size_toArray];omega
 have hlong:¬ (!its.toArray.isEmpty && Builtin.List.listTooLong (its.toArray.size+its2.toArray.size))=true:=by
  rw [notLongL hsz,Bool.and_false]
  exact Bool.false_ne_true
 refine call_meets F.slot_list_extend ⟨_,e,rfl⟩ F.entry_list_extend (F.args_list_extend_2 _ _)
  (AutoSeq1.list_extend_list_list_0 l its.toArray n b its2.toArray n2 hlong (by rw [List.size_toArray];omega) (by omega)) ⟨e,e2,?_⟩
 refine ⟨.non,_,I.lset (its':=its ++ its2) hH e (by simp) (r.append r2) ?_,rfl,q⟩
 rw [List.length_append]
 omega
def rPop:V→List V→Hp→VK→Prop:=fun x vs H Q=>∃ l xs y,x = .ref l∧vs=[]∧H l=some (.lst xs)∧xs[xs.length - 1]? = some y∧Q y (upd H l (.lst xs.dropLast))
theorem mt_pop:MtM X "list.pop" rPop:=by
 intro pins s σ H x vs v us Q I rx rv h
 obtain ⟨l,xs,y,rfl,rfl,hH,hy,q⟩:=h
 cases rx
 have hus:=rv.zero
 subst hus
 obtain ⟨z,its,n,r,hl,e⟩:=I.lstM hH
 obtain ⟨u,hu,ru⟩:=r.get hy
 have hy':its.toArray[its.toArray.size - 1]? = some u:=by
  show its.toArray[its.length - 1]? = some u
  rw [← Array.getElem?_toList,← hl]
  exact hu
 refine call_meets F.slot_list_pop ⟨_,e,rfl⟩ F.entry_list_pop (F.args_list_pop_1 _) (MeetsSeq.list_pop_last l its.toArray n u hy' (by rw [List.size_toArray];omega)) ⟨e,?_⟩
 refine ⟨y,_,I.lset (its':=its.dropLast) hH e ?_ r.dropLast ?_,ru,q⟩
 ·show its.toArray.eraseIdxIfInBounds (its.toArray.size - 1)=its.dropLast.toArray
  rw [List.size_toArray,List.eraseIdxIfInBounds_toArray,erase_last]
 ·rw [List.length_dropLast]
  omega
def rCat:R2:=fun x y H Q=>∃ l b xs zs,x = .ref l∧y = .ref b∧H l=some (.lst xs)∧H b=some (.lst zs)∧xs.length+zs.length≤sizeLine∧∀ p,H p=none→Q (.ref p) (upd H p (.lst (xs ++ zs)))
theorem z3i:OpR X (binaryOp .Add) rCat:=by
 intro pins s σ H x y v u Q I rx ry h
 obtain ⟨l,b,xs,zs,rfl,rfl,hH,hB,hz,q⟩:=h
 cases rx
 cases ry
 obtain ⟨z,its,n,r,hl,e⟩:=I.lstM hH
 obtain ⟨z2,its2,n2,r2,hl2,e2⟩:=I.lstM hB
 refine PySem.P.add_list e e2 ?_ (by rw [List.size_toArray,List.size_toArray];omega)
 have ea:its.toArray ++ its2.toArray=(its ++ its2).toArray:=by simp
 rw [ea]
 exact ⟨.ref _,_,I.lnew (t':=s.toks) (r.append r2) (by rw [List.length_append];omega),rfl,q _ I.fresh⟩
end
section
variable {prog:Program}{w:World}{A:Around}{E:Value→Shared→Prop}{s:Shared}
set_option maxRecDepth 100000 in
end
section
variable {X:Cx}
end
end L2
namespace L2
open PySem PySem.Spec PyProof.Rows
section
variable {κ:Type}[DecidableEq κ]
def valV (kvs:List (κ × V)) (k:κ):Option V:=(kvs.find? fun kv=>decide (kv.1=k)).map (·.2)
def putK (kvs:List (κ × V)) (k:κ) (v:V):List (κ × V) :=
 if (kvs.any fun kv=>decide (kv.1=k))=true then kvs.map (fun kv=>if kv.1=k then (kv.1,v) else kv) else kvs ++ [(k,v)]
theorem z3l {p:κ × V}{r:List (κ × V)}{k:κ}(e:p.1=k):valV (p::r) k=some p.2:=by simp [valV,List.find?_cons,e]
theorem z3m {p:κ × V}{r:List (κ × V)}{k:κ}(e:¬ p.1=k):valV (p::r) k=valV r k:=by simp [valV,List.find?_cons,e]
theorem z9s (k:κ):∀ kvs:List (κ × V),(kvs.any fun kv=>decide (kv.1=k))=(valV kvs k).isSome
 | []=>rfl
 |p::r=>by
  rw [List.any_cons]
  by_cases e:p.1=k
  ·simp only [z3l e,decide_eq_true e,Bool.true_or,Option.isSome_some]
  ·rw [z3m e,decide_eq_false e,Bool.false_or];exact z9s k r
theorem valV_map (k j:κ) (y:V):∀ kvs:List (κ × V),valV (kvs.map fun kv=>if kv.1=k then (kv.1,y) else kv) j=(valV kvs j).map fun x=>if j=k then y else x
 | []=>rfl
 |p::r=>by
  have ih:=valV_map k j y r
  rw [List.map_cons]
  by_cases h:p.1=k
  ·rw [if_pos h]
   by_cases e:p.1=j
   ·rw [z3l (p:=(p.1,y)) e,z3l e,Option.map_some,if_pos (e.symm.trans h)]
   ·rw [z3m (p:=(p.1,y)) e,z3m e,ih]
  ·rw [if_neg h]
   by_cases e:p.1=j
   ·rw [z3l (p:=p) e,z3l e,Option.map_some,if_neg (fun z=>h (e.trans z))]
   ·rw [z3m (p:=p) e,z3m e,ih]
theorem valV_snoc (k j:κ) (y:V):∀ kvs:List (κ × V),valV kvs k=none→valV (kvs ++ [(k,y)]) j=if j=k then some y else valV kvs j
 | [],_=>by
  by_cases e:k=j
  ·rw [if_pos e.symm];exact z3l (p:=(k,y)) e
  ·rw [if_neg (fun z=>e z.symm)];exact z3m (p:=(k,y)) e
 |p::r,hn=>by
  rw [List.cons_append]
  have hk:¬ p.1=k:=fun z=>by rw [z3l z] at hn;cases hn
  rw [z3m hk] at hn
  have ih:=valV_snoc k j y r hn
  by_cases e:p.1=j
  ·rw [z3l e,z3l e,if_neg (fun z=>hk (e.trans z))]
  ·rw [z3m e,z3m e,ih]
theorem valV_put (kvs:List (κ × V)) (k j:κ) (y:V):valV (putK kvs k y) j=if j=k then some y else valV kvs j:=by
 unfold putK
 by_cases a:(kvs.any fun kv=>decide (kv.1=k))=true
 ·rw [if_pos a,valV_map]
  rw [z9s] at a
  by_cases e:j=k
  ·obtain ⟨x,hx⟩:=Option.isSome_iff_exists.mp a
   rw [if_pos e,e,hx,Option.map_some,if_pos rfl]
  ·rw [if_neg e]
   cases valV kvs j with
   |none=>rfl
   |some x=>rw [Option.map_some,if_neg e]
 ·rw [if_neg a]
  refine valV_snoc k j y kvs ?_
  rw [z9s] at a
  cases q:valV kvs k with
  |none=>rfl
  |some x=>rw [q] at a;exact (a rfl).elim
theorem z6t (kvs:List (κ × V)) (k:κ) (v:V):(putK kvs k v).length≤kvs.length+1:=by
 unfold putK
 split
 ·rw [List.length_map];omega
 ·rw [List.length_append,List.length_cons,List.length_nil];omega
theorem RelO.isSome_eq {o:Option V}{u:Option Value}(r:RelO o u):o.isSome=u.isSome:=by
 cases o with
 |none=>cases u with
  |none=>rfl
  |some _=>exact (show False from r).elim
 |some _=>cases u with
  |none=>exact (show False from r).elim
  |some _=>rfl
theorem KV.val {kvs:List (κ × V)}{vs:List (κ × Value)}(r:KV kvs vs) (k:κ):RelO (valV kvs k) (valueAt vs k):=by
 unfold KV at r
 induction r with
 |nil=>exact True.intro
 | @cons p q ps qs h t ih =>
  obtain ⟨h1,h2⟩:=h
  by_cases e:p.1=k
  ·have e':q.1=k:=h1.symm.trans e
   have b:valueAt (q::qs) k=some q.2:=by simp [valueAt,List.find?_cons,e']
   rw [z3l e,b];exact h2
  ·have e':¬ q.1=k:=fun z=>e (h1.trans z)
   have b:valueAt (q::qs) k=valueAt qs k:=by simp [valueAt,List.find?_cons,e']
   rw [z3m e,b];exact ih
theorem KV.any {kvs:List (κ × V)}{vs:List (κ × Value)}(r:KV kvs vs) (k:κ):(kvs.any fun kv=>decide (kv.1=k))=vs.any fun kv=>decide (kv.1=k):=by
 unfold KV at r
 induction r with
 |nil=>rfl
 |cons h t ih=>rw [List.any_cons,List.any_cons,ih,h.1]
theorem KV.repl {kvs:List (κ × V)}{vs:List (κ × Value)}(r:KV kvs vs) (k:κ) {y:V}{u:Value}(ry:RelV y u) :
  KV (kvs.map fun kv=>if kv.1=k then (kv.1,y) else kv) (vs.map fun kv=>if kv.1=k then (kv.1,u) else kv):=by
 unfold KV at r ⊢
 induction r with
 |nil=>exact .nil
 | @cons p q ps qs h t ih =>
  rw [List.map_cons,List.map_cons]
  refine .cons ?_ ih
  obtain ⟨h1,h2⟩:=h
  by_cases e:p.1=k
  ·rw [if_pos e,if_pos (h1.symm.trans e)];exact ⟨h1,ry⟩
  ·rw [if_neg e,if_neg (fun z=>e (h1.trans z))];exact ⟨h1,h2⟩
theorem KV.put {kvs:List (κ × V)}{vs:List (κ × Value)}(r:KV kvs vs) (k:κ) {y:V}{u:Value}(ry:RelV y u):KV (putK kvs k y) (stored vs k u):=by
 unfold putK stored
 rw [r.any k]
 by_cases e:(vs.any fun kv=>decide (kv.1=k))=true
 ·rw [if_pos e,if_pos e];exact r.repl k ry
 ·rw [if_neg e,if_neg e];exact Paired.snoc r ⟨rfl,ry⟩
theorem KV.length {kvs:List (κ × V)}{vs:List (κ × Value)}(r:KV kvs vs):kvs.length=vs.length:=Paired.length r
end
theorem kV_is {P:Program}{w:World}{k:Key}{u:Value}(r:RelV (kV k) u):(z2l P w).is k u=true:=by
 cases k with
 |inl i=>obtain ⟨t,e⟩:=(show ∃ t,u=Value.int i t from r);subst e;exact mixKind_int P w i t
 |inr x=>obtain ⟨t,e⟩:=(show ∃ t,u=Value.str x t from r);subst e;exact mixKind_str P w x t
theorem items_are {P:Program}{w:World}:∀ {ks:List Key}{us:List Value},Vals (ks.map kV) us→ItemsAre (z2l P w) ks us
 | [],_,r=>by rw [List.map_nil] at r;cases r;exact .nil
 |k::ks,_,r=>by
  rw [List.map_cons] at r
  cases r with
  |cons h t=>exact .cons (kV_is h) (items_are t)
abbrev KT (H:Hp):List (List Key × V)→List (List Key × Addr × Value)→Prop:=Paired fun p q=>p.1=q.1∧H q.2.1=some (.tup (p.1.map kV))∧RelV p.2 q.2.2
theorem KT.val {H:Hp}{kvs:List (List Key × V)}{xs:List (List Key × Addr × Value)}(r:KT H kvs xs) (k:List Key):RelO (valV kvs k) ((atKey xs k).map (·.2)):=by
 induction r with
 |nil=>exact True.intro
 | @cons p q ps qs h t ih =>
  obtain ⟨h1,_,h2⟩:=h
  by_cases e:p.1=k
  ·have e':q.1=k:=h1.symm.trans e
   have b:atKey (q::qs) k=some q.2:=by simp [atKey,List.find?_cons,e']
   rw [z3l e,b];exact h2
  ·have e':¬ q.1=k:=fun z=>e (h1.trans z)
   have b:atKey (q::qs) k=atKey qs k:=by simp [atKey,List.find?_cons,e']
   rw [z3m e,b];exact ih
theorem KT.repl {H:Hp}{kvs:List (List Key × V)}{xs:List (List Key × Addr × Value)}(r:KT H kvs xs) (k:List Key) {y:V}{u:Value}(ry:RelV y u) :
  KT H (kvs.map fun kv=>if kv.1=k then (kv.1,y) else kv) (xs.map (putAt k u)):=by
 induction r with
 |nil=>exact .nil
 | @cons p q ps qs h t ih =>
  rw [List.map_cons,List.map_cons]
  refine .cons ?_ ih
  obtain ⟨h1,h2,h3⟩:=h
  unfold putAt
  by_cases e:p.1=k
  ·rw [if_pos e,if_pos (h1.symm.trans e)];exact ⟨h1,h2,ry⟩
  ·rw [if_neg e,if_neg (fun z=>e (h1.trans z))];exact ⟨h1,h2,h3⟩
theorem KT.put {H:Hp}{kvs:List (List Key × V)}{xs:List (List Key × Addr × Value)}(r:KT H kvs xs) (k:List Key) {b:Addr}{y:V}{u:Value}(hb:H b=some (.tup (k.map kV))) (ry:RelV y u) :
  KT H (putK kvs k y) (storedH xs k b u):=by
 have e:(kvs.any fun kv=>decide (kv.1=k))=(atKey xs k).isSome:=by
  rw [z9s,(r.val k).isSome_eq,Option.isSome_map]
 unfold putK storedH
 rw [e]
 by_cases q:(atKey xs k).isSome=true
 ·rw [if_pos q,if_pos q];exact r.repl k ry
 ·rw [if_neg q,if_neg q];exact Paired.snoc r ⟨rfl,hb,ry⟩
theorem KT.keeps {H H':Hp}{kvs:List (List Key × V)}{xs:List (List Key × Addr × Value)}(r:KT H kvs xs) (ht:∀ b ys,H b=some (.tup ys)→H' b=some (.tup ys)):KT H' kvs xs :=
 Paired.mapP r fun _ _ z=>⟨z.1,ht _ _ z.2.1,z.2.2⟩
section
variable {P:Program}{w:World}{H:Hp}{h:Heap}{a:Addr}
theorem rd_of {u:HO}(ok:HOk P w H h) (e:Rd H a u):ObjOk P w H h a u:=e.ok ok
theorem dk_rd {kvs:List (Key × V)}(ok:HOk P w H h) (e:Rd H a (.dK kvs)):kvs.length≤sizeLine∧(a == sysModules)=false∧∃ vs,KV kvs vs∧h.DictOf (z2l P w) a vs :=
 show ObjOk P w H h a (.dK kvs) from rd_of ok e
theorem dk_of {kvs:List (Key × V)}(ok:HOk P w H h) (e:H a=some (.dK kvs)):kvs.length≤sizeLine∧(a == sysModules)=false∧∃ vs,KV kvs vs∧h.DictOf (z2l P w) a vs:=dk_rd ok (.inl e)
theorem key_of {ks:List Key}(ok:HOk P w H h) (e:H a=some (.tup (ks.map kV))):(tupleKind (z2l P w)).is h ks a:=by
 obtain ⟨_,its,r,o,h1,h2,n,h3⟩:=(show ObjOk P w H h a (.tup (ks.map kV)) from ok a _ e)
 exact ⟨o,its.toArray,n,h1,h2,h3,by simpa using items_are r⟩
theorem dt_rd {kvs:List (List Key × V)}(ok:HOk P w H h) (e:Rd H a (.dT kvs)):kvs.length≤sizeLine∧(a == sysModules)=false ∧
  ∃ xs,KT H kvs xs∧h.DictOfH (tupleKind (z2l P w)) a xs:=by
 obtain ⟨z,y,xs,r,o,es,ep,h1,h2,h3,h4,h5⟩:=(show ObjOk P w H h a (.dT kvs) from rd_of ok e)
 refine ⟨z,y,xs,r,o,es,ep,h1,h2,h3,h4,fun x hx=>?_,h5⟩
 have all:∀ {l:List (List Key × V)}{m:List (List Key × Addr × Value)},KT H l m→∀ x∈m,(tupleKind (z2l P w)).is h x.1 x.2.1:=by
  intro l m q
  induction q with
  |nil=>intro x hx;exact nomatch hx
  | @cons p q ps qs hq t ih =>
   intro x hx
   rcases List.mem_cons.mp hx with e|hx
   ·subst e
    exact key_of ok (by rw [← hq.1];exact hq.2.1)
   ·exact ih x hx
 exact all r x hx
theorem dt_of {kvs:List (List Key × V)}(ok:HOk P w H h) (e:H a=some (.dT kvs)):kvs.length≤sizeLine∧(a == sysModules)=false ∧
  ∃ xs,KT H kvs xs∧h.DictOfH (tupleKind (z2l P w)) a xs:=dt_rd ok (.inl e)
end
def DGet (H:Hp) (a:Addr) (y:V) (r:Option V):Prop :=
 (∃ kvs k,Rd H a (.dK kvs)∧y=kV k∧r=valV kvs k) ∨ ∃ kvs k b,Rd H a (.dT kvs)∧y = .ref b∧H b=some (.tup (k.map kV))∧r=valV kvs k
def DPut (H:Hp) (a:Addr) (y v:V) (H':Hp):Prop :=
 (∃ kvs k,H a=some (.dK kvs)∧y=kV k∧kvs.length < sizeLine∧H' = upd H a (.dK (putK kvs k v))) ∨
 ∃ kvs k b,H a=some (.dT kvs)∧y = .ref b∧H b=some (.tup (k.map kV))∧kvs.length < sizeLine∧H' = upd H a (.dT (putK kvs k v))
theorem DGet.k {H:Hp}{a:Addr}{kvs:List (Key × V)}{k:Key}(e:H a=some (.dK kvs)):DGet H a (kV k) (valV kvs k):=.inl ⟨kvs,k,.inl e,rfl,rfl⟩
theorem DPut.k {H:Hp}{a:Addr}{kvs:List (Key × V)}{k:Key}{v:V}(e:H a=some (.dK kvs)) (hl:kvs.length < sizeLine):DPut H a (kV k) v (upd H a (.dK (putK kvs k v))):=.inl ⟨kvs,k,e,rfl,hl,rfl⟩
section
variable {X:Cx}{pins:List (Addr × Obj)}{σ:St}{H:Hp}{s:Shared}{a:Addr}{y v:V}{u r:Value}{o:Option V}{A:Around}{E:Value→Shared→Prop}
theorem Inv.big (I:Inv X pins σ H s):sysModules < s.heap.objs.size:=by
 have h:mainGlobals < s.heap.objs.size:=(I.mod.glob.keeps I.bk).lt
 exact Nat.lt_trans (by decide) h
theorem d_getItem {Q:Value→Shared→Prop}(hu:A.units+1 < cLine) (I:Inv X pins σ H s) (g:DGet H a y (some v)) (ry:RelV y u) (h:∀ w' s',Inv X pins σ H s'→RelV v w'→Q w' s') :
  wpAny (model X.prog X.w) A (getItem (.ref a) u) Q E s:=by
 rcases g with ⟨kvs,k,e,ey,l⟩|⟨kvs,k,b,e,ey,eb,l⟩
 ·subst ey
  obtain ⟨z,hd,vs,rel,dd⟩:=dk_rd I.hok e
  obtain ⟨w',hw,rw'⟩:=RelO.some_of (v:=v) (o:=valueAt vs k) (by rw [l];exact rel.val k)
  exact wpAny_getItem_of (kV_is ry) dd.mapOf hw (h w' _ (I.tok _) rw')
 ·subst ey
  cases (show u=Value.ref b from ry)
  obtain ⟨z,hd,xs,rel,dd⟩:=dt_rd I.hok e
  obtain ⟨w',hw,rw'⟩:=RelO.some_of (v:=v) (o:=(atKey xs k).map (·.2)) (by rw [l];exact rel.val k)
  obtain ⟨p,hp,hp2⟩:=Option.map_eq_some_iff.mp hw
  refine wpAny_getItem_heap (tupleKind_room_in1 hu) (key_of I.hok eb) dd hp ?_
  rw [hp2]
  exact h w' _ (I.tok _) rw'
theorem d_in {Q:Value→Shared→Prop}(hu:A.units+1 < cLine) (I:Inv X pins σ H s) (g:DGet H a y o) (ry:RelV y u) (h:∀ s',Inv X pins σ H s'→Q (.bool o.isSome) s') :
  wpAny (model X.prog X.w) A (compareOp .In u (.ref a)) Q E s:=by
 rcases g with ⟨kvs,k,e,ey,l⟩|⟨kvs,k,b,e,ey,eb,l⟩
 ·subst ey
  obtain ⟨z,hd,vs,rel,dd⟩:=dk_rd I.hok e
  refine wpAny_in_of (kV_is ry) hd dd.mapOf ?_
  rw [← (rel.val k).isSome_eq,← l]
  exact h _ (I.tok _)
 ·subst ey
  cases (show u=Value.ref b from ry)
  obtain ⟨z,hd,xs,rel,dd⟩:=dt_rd I.hok e
  refine wpAny_in_heap (tupleKind_room_in1 hu) (key_of I.hok eb) hd dd ?_
  have q:=(rel.val k).isSome_eq
  rw [Option.isSome_map] at q
  rw [← q,← l]
  exact h _ (I.tok _)
theorem d_notIn {Q:Value→Shared→Prop}(hu:A.units+1 < cLine) (I:Inv X pins σ H s) (g:DGet H a y o) (ry:RelV y u) (h:∀ s',Inv X pins σ H s'→Q (.bool (!o.isSome)) s') :
  wpAny (model X.prog X.w) A (compareOp .NotIn u (.ref a)) Q E s:=by
 rcases g with ⟨kvs,k,e,ey,l⟩|⟨kvs,k,b,e,ey,eb,l⟩
 ·subst ey
  obtain ⟨z,hd,vs,rel,dd⟩:=dk_rd I.hok e
  refine wpAny_notIn_of (kV_is ry) hd dd.mapOf ?_
  rw [← (rel.val k).isSome_eq,← l]
  exact h _ (I.tok _)
 ·subst ey
  cases (show u=Value.ref b from ry)
  obtain ⟨z,hd,xs,rel,dd⟩:=dt_rd I.hok e
  refine wpAny_notIn_heap (tupleKind_room_in1 hu) (key_of I.hok eb) hd dd ?_
  have q:=(rel.val k).isSome_eq
  rw [Option.isSome_map] at q
  rw [← q,← l]
  exact h _ (I.tok _)
theorem d_write {h':Heap}{t':Nat}{ob:HO}(I:Inv X pins σ H s) (mu:Mut (H a)) (hs:Heap.SameBut a s.heap h') (he:∃ q,h'.get? a=some q) (new:ObjOk X.prog X.w (upd H a ob) h' a ob) :
  Inv X pins σ (upd H a ob) { s with heap:=h',toks:=t' } :=
 I.write (x:=a) (e:=a) mu (.inl rfl) (fun b q hb z=>(hs.2 b hb).trans z) he new
theorem dk_new {P:Program}{w:World}{H':Hp}{h':Heap}{kvs:List (Key × V)}{vs:List (Key × Value)}(z:kvs.length≤sizeLine) (hd:(a == sysModules)=false) (rel:KV kvs vs) (dd:h'.DictOf (z2l P w) a vs) :
  ObjOk P w H' h' a (.dK kvs):=⟨z,hd,vs,rel,dd⟩
theorem d_setItem {H':Hp}{Q:Unit→Shared→Prop}(hu:A.units+1 < cLine) (I:Inv X pins σ H s) (g:DPut H a y v H') (ry:RelV y u) (rv:RelV v r) (h:∀ s',Inv X pins σ H' s'→Q () s') :
  wpAny (model X.prog X.w) A (setItem (.ref a) u r) Q E s:=by
 rcases g with ⟨kvs,k,e,ey,l,eH⟩|⟨kvs,k,b,e,ey,eb,l,eH⟩
 ·subst ey eH
  obtain ⟨z,hd,vs,rel,dd⟩:=dk_of I.hok e
  have hz:vs.length≤sizeLine:=by rw [← rel.length];exact z
  have hl:(putK kvs k v).length≤sizeLine:=by have:=z6t kvs k v;omega
  refine wpAny_setItem_pairs (hsz:=hz) (kV_is ry) dd fun h' dd' hs=>h _ ?_
  have he:∃ q,h'.get? a=some q:=let ⟨q,_,_,hq,_⟩:=dd';⟨q,hq⟩
  exact d_write I (by rw [e];exact True.intro) hs he (dk_new hl hd (rel.put k rv) dd')
 ·subst ey eH
  cases (show u=Value.ref b from ry)
  obtain ⟨z,hd,xs,rel,dd⟩:=dt_of I.hok e
  have hz:xs.length≤sizeLine:=by rw [← Paired.length rel];exact z
  have hl:(putK kvs k v).length≤sizeLine:=by have:=z6t kvs k v;omega
  refine wpAny_setItem_heap (hsz:=hz) (tupleKind_room_in1 hu) (key_of I.hok eb) dd fun h' dd' hs=>h _ ?_
  obtain ⟨q,es,ep,hq,h2,h3,h4,_,h5⟩:=dd'
  refine d_write I (by rw [e];exact True.intro) hs ⟨q,hq⟩ ⟨hl,hd,_,(rel.put k eb rv).keeps fun c ys ec=>?_,q,es,ep,hq,h2,h3,h4,h5⟩
  rw [z0i (ne_of ec e (fun z=>nomatch z))]
  exact ec
end
section
variable {X:Cx}{pins:List (Addr × Obj)}{σ:St}{H:Hp}{s:Shared}{a:Addr}{kvs:List (Key × V)}{k:Key}{u:Value}{A:Around}{E:Value→Shared→Prop}
end
def NoSl (i:Expr):Prop:=∀ ov iv,subscripted i false ov iv=operate [ov,iv] (getItem ov iv)
theorem subD_of {prog:Program}{w:World}{A:Around}{E:Value→Shared→Prop}{s:Shared}{env:Env}{value slice:Expr}{pos:Pos}{T id:String}{Q:Value→Shared→Prop}
  (hl:typeLookup (.type T) "__getitem__" = pure (some (.builtin id))) (hs:NoSl slice)
  (h:wpAny (model prog w) A (eval value env) (fun o s₁=>wpAny (model prog w) A (eval slice env) (fun i s₂=>s₂.TypeIs o T∧wpAny (model prog w) A (getItem o i) Q E s₂) E s₁) E s) :
  wpAny (model prog w) A (eval (.Subscript value slice pos) env) Q E s:=by
 refine Subscript_ (wpAny_mono h (fun o s₁ h₁=>wpAny_mono h₁ (fun i s₂ h₂=>?_) fun _ _ x=>x) fun _ _ x=>x)
 obtain ⟨hT,h₂⟩:=h₂
 unfold subscriptTail
 refine wpAny_bind ?_
 rw [getitemInPython_of_ne hT.not_modules]
 refine wpAny_bind (wpAny_specialOf hT hl ?_)
 have fin:wpAny (model prog w) A (subscripted slice false o i) (fun r s₃=>wpAny (model prog w) A (letTemporaryGo value o r >>= fun _=>pure r) Q E s₃) E s₂:=by
  rw [hs o i]
  exact wpAny_operating (wpAny_mono h₂ (fun r s₃ h₃=>wpAny_bind (wpAny_letTemporaryGo (wpAny_pure h₃))) fun _ _ x=>x)
 first
  |exact wpAny_pure (wpAny_bind fin)
  |exact wpAny_bind (wpAny_pure (wpAny_bind fin))
  |exact wpAny_bind fin
theorem dict_typeIs {X:Cx}{pins:List (Addr × Obj)}{σ:St}{H:Hp}{s:Shared}{a:Addr}{y:V}{o:Option V}(I:Inv X pins σ H s) (g:DGet H a y o):s.TypeIs (.ref a) "dict":=by
 rcases g with ⟨kvs,k,e,_,_⟩|⟨kvs,k,b,e,_,_,_⟩
 ·obtain ⟨_,_,vs,_,dd⟩:=dk_rd I.hok e
  exact dd.typeIs
 ·obtain ⟨_,_,xs,_,dd⟩:=dt_rd I.hok e
  exact dd.typeIs
def tDGet (td ty:TE):TE:=fun σ H Q=>td σ H fun x H1=>ty σ H1 fun y H2=>∃ a v,x = .ref a∧DGet H2 a y (some v)∧Q v H2
def tDIn (ty td:TE):TE:=fun σ H Q=>ty σ H fun y H1=>td σ H1 fun x H2=>∃ a o,x = .ref a∧DGet H2 a y o∧Q (.bl o.isSome) H2
def tDNotIn (ty td:TE):TE:=fun σ H Q=>ty σ H fun y H1=>td σ H1 fun x H2=>∃ a o,x = .ref a∧DGet H2 a y o∧Q (.bl (!o.isSome)) H2
def sDPut (td ty tv:TE):TS:=fun D σ H=>tv σ H fun v H1=>td σ H1 fun x H2=>ty σ H2 fun y H3=>∃ a H4,x = .ref a∧DPut H3 a y v H4∧D.nx σ H4
section
variable {X:Cx}{o i e value:Expr}{pos pos' tpos:Pos}{td ty tv:TE}
theorem pe_dget (hu:X.A.units+1 < cLine) (ho:PE X o td) (hi:PE X i ty) (hs:NoSl i):PE X (.Subscript o i pos) (tDGet td ty):=by
 intro pins s σ H Q I h
 refine subD_of PySem.F.slot_dict_getitem.lookup hs (thn (ho pins s σ H _ I h) fun u s1 ⟨x,H1,I1,rx,q1⟩=>thn (hi pins s1 σ H1 _ I1 q1) fun iv s2 ⟨y,H2,I2,ry,a,v,ex,g,q2⟩=>?_)
 subst ex
 obtain rfl:u=Value.ref a:=rx
 exact ⟨dict_typeIs I2 g,d_getItem hu I2 g ry fun w' s3 I3 rw'=>⟨v,H2,I3,rw',q2⟩⟩
theorem pc_din (hu:X.A.units+1 < cLine) (hi:PE X i ty) (ho:PE X o td):PC X .In i o (tDIn ty td):=by
 intro pins s σ H Q I h
 refine thn (hi pins s σ H _ I h) fun iv s1 ⟨y,H1,I1,ry,q1⟩=>thn (ho pins s1 σ H1 _ I1 q1) fun u s2 ⟨x,H2,I2,rx,a,ov,ex,g,q2⟩=>?_
 subst ex
 obtain rfl:u=Value.ref a:=rx
 exact d_in hu I2 g ry fun s3 I3=>⟨.bl ov.isSome,H2,I3,rfl,q2⟩
theorem pc_dnotin (hu:X.A.units+1 < cLine) (hi:PE X i ty) (ho:PE X o td):PC X .NotIn i o (tDNotIn ty td):=by
 intro pins s σ H Q I h
 refine thn (hi pins s σ H _ I h) fun iv s1 ⟨y,H1,I1,ry,q1⟩=>thn (ho pins s1 σ H1 _ I1 q1) fun u s2 ⟨x,H2,I2,rx,a,ov,ex,g,q2⟩=>?_
 subst ex
 obtain rfl:u=Value.ref a:=rx
 exact d_notIn hu I2 g ry fun s3 I3=>⟨.bl (!ov.isSome),H2,I3,rfl,q2⟩
theorem ps_dput (hu:X.A.units+1 < cLine) (ho:PE X o td) (hi:PE X i ty) (hv:PE X value tv) (hs:swapsWith value (some (.Subscript o i pos')) pos.line X.env=pure false) :
  PS X (.Assign [.Subscript o i pos'] value pos) (sDPut td ty tv):=by
 intro pins s σ H D I h
 refine wpAny_Assign_Subscript (thn (hv pins s σ H _ I h) fun r s1 ⟨v,H1,I1,rv,q1⟩=>thn (ho pins s1 σ H1 _ I1 q1) fun u s2 ⟨x,H2,I2,rx,q2⟩=>thn (hi pins s2 σ H2 _ I2 q2) fun iv s3 ⟨y,H3,I3,ry,a,H4,ex,g,q3⟩=>?_) hs
 subst ex
 obtain rfl:u=Value.ref a:=rx
 exact d_setItem hu I3 g ry rv fun s4 I4=>⟨σ,H4,I4,q3⟩
end
theorem dk_empty {P:Program}{w:World}{H:Hp}(h:Heap) (hb:sysModules < h.objs.size):ObjOk P w H (h.push { cls:=.type "dict",data:=.dict #[] }) h.objs.size (.dK []) :=
 ⟨Nat.zero_le _,beq_eq_false_iff_ne.mpr (Ne.symm (Nat.ne_of_lt hb)),[],.nil,Heap.DictOf.new h⟩
def tDNewK:TE:=fun _ H Q=>∀ p,H p=none→Q (.ref p) (upd H p (.dK []))
section
variable {X:Cx}{pos:Pos}
theorem pe_dnewK:PE X (.Dict [] [] pos) tDNewK:=fun pins s σ H Q I h =>
 wpAny_Dict_empty ⟨.ref s.heap.objs.size,_,I.laid (a:=s.heap.objs.size) (o:=.dK []) (t':=s.toks) (fun _ _ q=>Heap.get?_push_of_some _ q) (Nat.le_refl _) (dk_empty s.heap I.big),rfl,h _ (I.hok.fresh (Nat.le_refl _))⟩
end
def y1u (kvs more:List (Key × V)):List (Key × V):=more.foldl (fun acc kv=>putK acc kv.1 kv.2) kvs
theorem KV.merge:∀ {more:List (Key × V)}{rs:List (Key × Value)}{kvs:List (Key × V)}{vs:List (Key × Value)},KV more rs→KV kvs vs→KV (y1u kvs more) (merged vs rs):=by
 intro more rs kvs vs r
 unfold KV at r
 induction r generalizing kvs vs with
 |nil=>intro q;exact q
 | @cons p q ps qs h t ih =>
  intro r0
  have e:KV (putK kvs p.1 p.2) (stored vs q.1 q.2):=by
   have:=r0.put p.1 h.2
   rw [← h.1];exact this
  exact ih e
structure M1 (X:Cx) (o:Expr) (m:Str) (apos:Pos) (e:Expr) (cpos:Pos):Prop where
 base:attributeBase o m X.env (eval o X.env)=eval o X.env
 few:((backTo cpos (starEach [e] X.env)).all (fun x=>!x.1) && (backToKw cpos (keywordEach [] X.env)).all (fun x=>x.1.isSome)
  && decide (([e]:List Expr).length+([]:List Keyword).length+(if ([]:List Keyword).isEmpty then 0 else 1) < 30))=true
 line:(apos.endLine == cpos.line)=true
 trees:backTo cpos (starEach [e] X.env)=[(false,eval e X.env)]
structure M2 (X:Cx) (o:Expr) (m:Str) (apos:Pos) (e f:Expr) (cpos:Pos):Prop where
 base:attributeBase o m X.env (eval o X.env)=eval o X.env
 few:((backTo cpos (starEach [e,f] X.env)).all (fun x=>!x.1) && (backToKw cpos (keywordEach [] X.env)).all (fun x=>x.1.isSome)
  && decide (([e,f]:List Expr).length+([]:List Keyword).length+(if ([]:List Keyword).isEmpty then 0 else 1) < 30))=true
 line:(apos.endLine == cpos.line)=true
 trees:backTo cpos (starEach [e,f] X.env)=[(false,eval e X.env),(false,eval f X.env)]
section
variable {X:Cx}{pins:List (Addr × Obj)}{σ:St}{H:Hp}{s:Shared}{a:Addr}{y d:V}{u r:Value}{o:Option V}{A:Around}{E:Value→Shared→Prop}
end
section
variable {X:Cx}{o e f:Expr}{apos cpos:Pos}{td ty tx:TE}
end
section
variable {X:Cx}{pins:List (Addr × Obj)}{σ:St}{H:Hp}{s:Shared}{a:Addr}{kvs:List (Key × V)}{A:Around}{E:Value→Shared→Prop}
end
section
variable {X:Cx}{pins:List (Addr × Obj)}{σ:St}{H:Hp}{s:Shared}{a:Addr}{y:V}{u:Value}{A:Around}{E:Value→Shared→Prop}
end
end L2
namespace Att
open PySem PySem.W PySem.Calls PyProof.Rows
theorem y0v {P:Params}{h:Heap}:∀ (ns:List Int) (vs:List Value),WellAll P h vs (ns.map WData.int)→IntsAre vs ns:=by
 intro ns
 induction ns with
 |nil =>
  intro vs w
  rw [List.map_nil] at w
  cases w
  exact .nil
 |cons n ns ih =>
  intro vs w
  rw [List.map_cons] at w
  cases w with
  |cons a b =>
   cases a
   exact .cons _ _ (ih _ b)
theorem script_of {l:OpenLaw}{n:Nat}(hn:l.most=some n) {P:Params}{h:Heap}{args:List WData}{vals:List Value}
  (hpre:l.row.toRowW.claim.pre args=true) (hwl:WellAll P h vals args) :
  ∃ a vs ns,vals=[Value.ref a]∧args=[WData.list (ns.map WData.int)]∧h.get? a=some { cls:=.type "list",data:=.seq vs.toArray }∧IntsAre vs ns∧ns.length≤n:=by
 have hsh:WShape.hasAll [] args [.list .int]=true:=(pre_splitW hpre).1
 have hc:l.pre.holds [] { args:=args }=true:=(pre_splitW hpre).2
 obtain ⟨d,r,rfl,h1,h2⟩:=hasAllW_cons hsh
 obtain rfl:=hasAllW_nil h2
 obtain ⟨xs,rfl,h3⟩:=hasW_list h1
 obtain ⟨ns,rfl⟩:=items_int h3
 have hlen:ns.length≤n:=by
  unfold OpenLaw.pre at hc
  have h4:(WTm.not (.lt (.lit (.int (n:Int))) (.len (.arg 0)))).holds [] { args:=[.list (ns.map .int)] }=true:=by
   have h4:=(holds_andW hc).1
   rw [hn] at h4
   exact h4
  have h5:=condW_of h4 (w_not (w_lt w_lit (w_len_list (w_arg rfl))))
  rw [List.length_map] at h5
  refine Nat.le_of_not_lt fun q=>?_
  have q':(n:Int) < ((ns.length:Nat):Int):=by omega
  first
   |(rw [decide_eq_true q'] at h5;exact absurd h5 (by decide))
   |(simp at h5;omega)
 cases hwl with
 |cons w1 w2 =>
  cases w2
  cases w1 with
  |list ho hall=>exact ⟨_,_,ns,rfl,rfl,ho,y0v ns _ hall,hlen⟩
theorem post_true (l:OpenLaw) (args:List WData):l.row.toRowW.claim.post args (.bool true) args=true :=
 postW_of (r:=l.row.toRowW) (X:=(true == true))
  (show WShape.has [] (.bool true) .bool=true by first|rfl|decide|simp [WShape.has,WShape.arms,WShape.armsAll])
  (show (WTm.eq .res (.lit (.bool true))).value [] { args:=args,res:=some (.bool true),after:=args }=some (.bool (true == true)) from w_eq_bool (w_res rfl) w_lit) rfl
theorem attach_call {l:OpenLaw}{n:Nat}{q:Program}{loose:List Str}{XP:(Str→Option Value)→Heap→Prop}{YP:World→Heap→Prop}{d:DefRec}
  (hn:l.most=some n) (hdf:d.params.defaults=[])
  (call:∀ (w:World) (s₀ s₁:Shared) (mg mb:Str→Option Value) (fa:Addr) (o:Obj) (pm cd doc:Value) (a:Addr) (vs:List Value) (ns:List Int),
   Ground q loose [] XP w s₀ mg mb s₁.heap→YP w s₁.heap →
   s₁.heap.get? fa=some o→o.data = .func (docDef d.name d.params d.body d.scope pm cd doc)→s₁.heap.CodeRec cd d.name→mg d.name=some (.ref fa) →
   s₁.heap.get? a=some { cls:=.type "list",data:=.seq vs.toArray }→IntsAre vs ns→ns.length≤n→s₁.gens = #[] →
   codeAny (model l.prog w) callerA (.call (.ref fa) ⟨[.ref a],[]⟩) (fun r s'=>r = .ok (.ret (.bool true))∧OldK s₁.heap s'.heap∧s'.os=s₁.os∧AllBare s'.gens) s₁) :
  WalkO q loose XP YP l.row.toRowW d [] (fun f vs=>PySem.call f vs):=by
 intro w s₀ s₁ mg mb G Y fa o pm cd doc dV kV ho hd hcd hD hmg hg args vals as hpre hlay hrd hwl hlo
 obtain rfl:dV = .none:=Dflts.none hD hdf
 obtain rfl:kV = .none:=Dflts.noKw hD
 obtain ⟨a,vs,ns,rfl,rfl,hobj,hints,hlen⟩:=script_of hn hpre hwl
 refine enter_call (codeAny_mono (call w s₀ s₁ mg mb fa o pm cd doc a vs ns G Y ho (fd_plain hd) hcd hmg hobj hints hlen hg) fun r s' hq=>?_)
 obtain ⟨rfl,h2,h3,h4⟩:=hq
 exact ⟨.inl ⟨.bool true,.bool true,[],rfl,fun _=>rfl,.bool true,post_true l _,fun _=>⟨List.Pairwise.nil,fun _ hm=>(nomatch hm)⟩⟩,h2,h3,h4⟩
section
variable {prog:Program}{w:World}{A:Around}{E:Value→Shared→Prop}{s:Shared}{K:Frag}
end
end Att
namespace L2
open PySem PySem.Spec PyProof.Rows
theorem vals_ints:∀ {vs:List Value}{ns:List Int},IntsAre vs ns→Vals (ns.map V.int) vs
 |_,_,.nil=>.nil
 |_,_,.cons n t h=>.cons ⟨t,rfl⟩ (vals_ints h)
def Only (H:Hp):Prop:=∀ b,H b=none ∨ ∃ o xs,H b=some (.frz o (.lst xs))
theorem law_call {P:Program}{w:World}{K:PySem.W.Frag}{mg mb:Str→Option Value}{CX:CXT}{k:Nat}{fa a:Addr}{fd:FuncData}{x:Str}{sp:Sp}{s₁:Shared}{vs:List Value}{ns:List Int}
  (KX:K.In s₁.heap) (hns:s₁.heap.Ns mainGlobals mg) (hb:s₁.heap.Ns builtinsNs mb) (hbb:∀ x:Str,x ≠ "__name__"→mb x=bootBuiltins x) (hlim:s₁.heap.NoLimit) (hg:s₁.gens = #[])
  (ha:s₁.heap.get? a=some { cls:=.type "list",data:=.seq vs.toArray }) (hi:IntsAre vs ns) (hl:ns.length≤sizeLine) (hr:Room k callerA)
  (F:∀ base:Heap,K.In base→base.Ns mainGlobals mg→FnOk P w K mg base CX k fa fd [x] sp) (hbind:∀ (s:Shared) (u:Value),BindsTo s fd ⟨[u],[]⟩ [(x,u)])
  (hsp:∀ H:Hp,Only H→SqL K H a (ns.map V.int)→sp [.ref a] H (fun v _=>v = .bl true) fun _ _ _=>False)
  (hCX:∀ H e s',CX [] H s₁ (fun _ _ _=>False) e s'→False) :
  codeAny (model P w) callerA (.call (.ref fa) ⟨[.ref a],[]⟩) (fun r s'=>r = .ok (.ret (.bool true))∧OldK s₁.heap s'.heap∧s'.os=s₁.os∧AllBare s'.gens) s₁:=by
 have rv:=vals_ints hi
 have lenV:=hi.length
 have core:∀ H:Hp,Only H→SqL K H a (ns.map V.int)→HOk P w H s₁.heap→(∀ b,H b≠none→b=a)→(H a≠none→K.lookup a=none) →
   codeAny (model P w) callerA (.call (.ref fa) ⟨[.ref a],[]⟩) (fun r s'=>r = .ok (.ret (.bool true))∧OldK s₁.heap s'.heap∧s'.os=s₁.os∧AllBare s'.gens) s₁:=by
  intro H hO hS hok hA hK
  have base_of:∀ {b:Addr}{o:Obj},s₁.heap.get? b=some o→H b=none→(hidT s₁.heap H).get? b=some o:=fun e n=>hidT_get e n
  have noA:∀ {b:Addr}{o:Obj}{es:Array DictEntry}{ep:Nat},s₁.heap.get? b=some o→o.data = .dict es ep→H b=none:=fun {b o es ep} e d=>by
   cases q:H b with
   |none=>rfl
   |some u =>
    have e':b=a:=hA b (by rw [q];simp)
    subst e'
    rw [ha] at e;cases e
    have d':Data.seq vs.toArray _=Data.dict es ep:=d
    cases d'
  have nsK:∀ {b:Addr}{m:Str→Option Value},s₁.heap.Ns b m→(hidT s₁.heap H).Ns b m:=fun {b m} ⟨o,es,ep,e,d,r⟩=>⟨o,es,ep,base_of e (noA e d),d,r⟩
  have hKb:K.In (hidT s₁.heap H):=fun b o e=>base_of (KX b o e) (by
   cases q:H b with
   |none=>rfl
   |some u =>
    have e':b=a:=hA b (by rw [q];simp)
    subst e'
    rw [hK (by rw [q];simp)] at e;cases e)
  have hM:Mod K mg (hidT s₁.heap H):=⟨hKb,nsK hns,⟨mb,nsK hb,hbb⟩,let ⟨mc,h1,h2⟩:=hlim;⟨mc,nsK h1,h2⟩⟩
  have e0:Env0 P w K mg (hidT s₁.heap H) callerA [] s₁ H:=⟨rfl,hM,fun b o e=>of_hidT e,Nat.le_of_eq (hidT_size _ _),trivial,fun b hb=>absurd (show b∈([]:List Addr) from hb) (by simp),hok,.of_eq hg⟩
  refine codeAny_mono ((F _ hKb (nsK hns)).run callerA [] s₁ H ⟨[.ref a],[]⟩ [.ref a] [.ref a] _ _ hr e0 (hbind s₁ (.ref a)) (.cons rfl .nil) (hsp H hO hS)) fun r s' h=>?_
  cases r with
  |error e=>exact (hCX H e s' h).elim
  |ok fl =>
   cases fl with
   |next=>exact False.elim h
   |brk=>exact False.elim h
   |cont=>exact False.elim h
   |ret u =>
    obtain ⟨v,H',os,bare,un,hok',r',q⟩:=h
    have q':v = .bl true:=q
    subst q'
    obtain rfl:u=Value.bool true:=r'
    refine ⟨rfl,OldK.of_keep fun b o e=>?_,os,bare⟩
    cases q:H b with
    |none=>exact un.keep b o e q (by intro z;exact absurd (show b∈([]:List Addr) from z) (by simp)) (by simp)
    |some u =>
     rcases hO b with z|⟨ob,xs,z⟩
     ·rw [q] at z;cases z
     ·have z2:=un.frzs b ob _ z
      obtain ⟨e1,_⟩:=hok b _ z
      obtain ⟨e2,_⟩:=hok' b _ z2
      rw [e] at e1;cases e1
      exact e2
 cases hk:K.lookup a with
 |some o =>
  have e:=KX a o hk
  rw [ha] at e
  cases e
  refine core (fun _=>none) (fun _=>.inl rfl) (.inr ⟨_,vs.toArray,_,hk,rfl,rfl,rfl,by rw [List.size_toArray,lenV];exact hl,by simpa using rv⟩) (fun b u z=>by have z':(none:Option HO)=some u:=z;cases z') (fun b z=>absurd rfl z) fun z=>absurd rfl z
 |none =>
  refine core (fun b=>if b=a then some (.frz { cls:=.type "list",data:=.seq vs.toArray } (.lst (ns.map V.int))) else none) (fun b=>?_) (.inl (.inr ⟨{ cls:=.type "list",data:=.seq vs.toArray },if_pos rfl⟩)) (fun b u z=>?_) (fun b z=>?_) fun _=>hk
  ·by_cases hb:b=a
   ·exact .inr ⟨_,_,if_pos hb⟩
   ·exact .inl (if_neg hb)
  ·by_cases hb:b=a
   ·have z':=(if_pos hb).symm.trans z
    cases z'
    subst hb
    exact ⟨ha,by rw [List.length_map];exact hl,vs,_,rv,ha⟩
   ·have z':=(if_neg hb).symm.trans z
    cases z'
  ·by_cases hb:b=a
   ·exact hb
   ·exact absurd (if_neg hb) z
end L2
namespace L2
open PySem PySem.Spec PyProof.Rows
theorem walk_of {l:PySem.W.OpenLaw}{n k:Nat}{q:Program}{loose:List Str}{XP:(Str→Option Value)→Heap→Prop}{YP:World→Heap→Prop}{d:DefRec}{K:Params→PySem.W.Frag}{CX:World→CXT}{sp:World→Sp}{x:Str}
  (hn:l.most=some n) (hn2:n≤sizeLine) (hdf:d.params.defaults=[]) (hr:Room k callerA)
  (hY:∀ (w:World) (h:Heap),YP w h→(K w.params).In h)
  (F:∀ (w:World) (mg:Str→Option Value) (fa:Addr) (h:Heap),(K w.params).In h→h.Ns mainGlobals mg→mg d.name=some (.ref fa) →
   ∃ fd:FuncData,(∀ (s:Shared) (u:Value),BindsTo s fd ⟨[u],[]⟩ [(x,u)]) ∧
    ∀ base:Heap,(K w.params).In base→base.Ns mainGlobals mg→FnOk l.prog w (K w.params) mg base (CX w) k fa fd [x] (sp w))
  (hsp:∀ (w:World) (H:Hp) (a:Addr) (ns:List Int),ns.length≤n→Only H→SqL (K w.params) H a (ns.map V.int)→sp w [.ref a] H (fun v _=>v = .bl true) fun _ _ _=>False)
  (hCX:∀ (w:World) (H:Hp) (s:Shared) (e:Value) (s':Shared),CX w [] H s (fun _ _ _=>False) e s'→False) :
  PySem.W.WalkO q loose XP YP l.row.toRowW d [] (fun f vs=>PySem.call f vs):=by
 refine Att.attach_call hn hdf fun w s₀ s₁ mg mb fa o pm cd doc a vs ns G Y ho hd hcd hmg hobj hints hlen hg=>?_
 have KX:=hY w _ Y
 obtain ⟨fd,hb,hF⟩:=F w mg fa _ KX G.T.g hmg
 exact law_call KX G.T.g G.T.b G.T.builtins G.T.nolimit hg hobj hints (Nat.le_trans hlen hn2) hr hF hb (fun H hO hS=>hsp w H a ns hlen hO hS) fun H e s'=>hCX w H s₁ e s'
theorem walk_ofK {l:PySem.W.OpenLaw}{n k:Nat}{q:Program}{loose:List Str}{XP:(Str→Option Value)→Heap→Prop}{YP:World→Heap→Prop}{d:DefRec}{K:Params→PySem.W.Frag}{CX:CXT}{sp:PySem.W.Frag→Sp}{x:Str}
  (hn:l.most=some n) (hn2:n≤sizeLine) (hdf:d.params.defaults=[]) (hr:Room k callerA)
  (hY:∀ (w:World) (h:Heap),YP w h→(K w.params).In h)
  (F:∀ (w:World) (mg:Str→Option Value) (fa:Addr) (h:Heap),(K w.params).In h→h.Ns mainGlobals mg→mg d.name=some (.ref fa) →
   ∃ fd:FuncData,(∀ (s:Shared) (u:Value),BindsTo s fd ⟨[u],[]⟩ [(x,u)]) ∧
    ∀ base:Heap,(K w.params).In base→base.Ns mainGlobals mg→FnOk l.prog w (K w.params) mg base CX k fa fd [x] (sp (K w.params)))
  (hsp:∀ (K:PySem.W.Frag) (H:Hp) (a:Addr) (ns:List Int),ns.length≤n→Only H→SqL K H a (ns.map V.int)→sp K [.ref a] H (fun v _=>v = .bl true) fun _ _ _=>False)
  (hCX:∀ (H:Hp) (s:Shared) (e:Value) (s':Shared),CX [] H s (fun _ _ _=>False) e s'→False) :
  PySem.W.WalkO q loose XP YP l.row.toRowW d [] (fun f vs=>PySem.call f vs) :=
 walk_of (K:=K) (CX:=fun _=>CX) (sp:=fun w=>sp (K w.params)) hn hn2 hdf hr hY F (fun w H a ns h1 h2 h3=>hsp (K w.params) H a ns h1 h2 h3) fun _ H s e s'=>hCX H s e s'
end L2
namespace L2
open PySem PySem.Spec PyProof.Rows
def z0q (s:Stmt):Arguments:=match s with
 |.FunctionDef _ a _ _ _ _ _ _ _ _=>a
 |_=>{ posonlyargs:=[],args:=[],vararg:=none,kwonlyargs:=[],kw_defaults:=[],kwarg:=none,defaults:=[] }
def z0o (s:Stmt):List Stmt:=match s with
 |.FunctionDef _ _ b _ _ _ _ _ _ _=>b
 |_=>[]
def z0c (s:Stmt):Scope:=match s with
 |.FunctionDef _ _ _ _ _ _ sc _ _ _=>sc
 |_=>{ kind:=.function,names:=[],isGenerator:=false,isCoroutine:=false }
abbrev CX0:CXT:=fun _ _ _ _ _ _=>False
abbrev E0:XK:=fun _ _ _=>False
theorem z0y {X:Cx}:z7x CX0 X E0:=fun _ _ _ _ _ _ _ h=>h.elim
structure Fun (K:PySem.W.Frag) (x qual:Str) (st:Stmt) (f:Addr) (fd:FuncData):Prop where
 ex:∃ (oc:Value) (od:Option Addr) (kV doc pm:Value) (an:Option Addr) (cdv ct:Value) (osl:Array (Option Value)),
  fd=PySem.W.fnOf x qual (z0q st) (z0o st) (z0c st) .none kV doc pm an cdv ct∧K.lookup f=some ⟨oc,od,.func fd,osl⟩∧PySem.W.codeIn K cdv qual=true
 kp:PySem.W.keepIn K (.ref f)=true
section
variable {P:Program}{w:World}{K:PySem.W.Frag}{mg:Str→Option Value}{base:Heap}
theorem Fun.ok {x qual:Str}{st:Stmt}{f:Addr}{fd:FuncData}{N ps:List Str}{k:Nat}{sp:Sp}(F:Fun K x qual st f fd) (S:FnScope N ps (z0c st)) (len:∀ vs H Q E,sp vs H Q E→vs.length=ps.length)
  (hbody:∀ (cdv:Value) (A:Around) (outer:List Env) (s:Shared) (H:Hp) (vs:List V) (Q:VK) (E:XK),Room k (A.deeper (envOfC qual (z0c st) s.heap.objs.size f cdv))→sp vs H Q E →
   ∃ t,PSs (cxOf CX0 P w K mg base N qual (z0c st) f cdv A outer s H E).nox (z0o st) t∧t { nx:=fun _ H'=>Q .non H',rt:=Q } (start N vs) H):FnOk P w K mg base CX0 (k+1) f fd ps sp:=by
 obtain ⟨oc,od,kV,doc,pm,an,cdv,ct,osl,rfl,lk,hcd⟩:=F.ex
 refine fn_of lk hcd S len fun A outer s H vs Q E hr hsp=>?_
 obtain ⟨t,h,q⟩:=hbody cdv A outer s H vs Q E hr hsp
 exact ⟨t,h.nox,q⟩
theorem Fun.binds {x qual:Str}{st:Stmt}{f:Addr}{fd:FuncData}{ps:List Str}(F:Fun K x qual st f fd)
  (h:∀ (kV doc pm:Value) (an:Option Addr) (cdv ct:Value) (us:List Value),us.length=ps.length→bindArgs (PySem.W.fnOf x qual (z0q st) (z0o st) (z0c st) .none kV doc pm an cdv ct) ⟨us,[]⟩=pure (ps.zip us)):Binds K fd ps []:=by
 obtain ⟨oc,od,kV,doc,pm,an,cdv,ct,osl,rfl,lk,hcd⟩:=F.ex
 exact .all (h kV doc pm an cdv ct)
theorem fun_mk {x qual:Str}{st:Stmt}{f:Addr}{oc:Value}{od an:Option Addr}{osl:Array (Option Value)}{kV doc pm cdv ct:Value}(l:K.lookup f=some ⟨oc,od,.func (PySem.W.fnOf x qual (z0q st) (z0o st) (z0c st) .none kV doc pm an cdv ct),osl⟩)
  (c:PySem.W.codeIn K cdv qual=true) (k:PySem.W.keepIn K (.ref f)=true):Fun K x qual st f (PySem.W.fnOf x qual (z0q st) (z0o st) (z0c st) .none kV doc pm an cdv ct):=⟨⟨oc,od,kV,doc,pm,an,cdv,ct,osl,rfl,l,c⟩,k⟩
end
section
variable {X:Cx}
theorem pv (i:Nat) {x:Str}{pos:Pos}(hN:X.N[i]? = some x:=by rfl) (hv:Vis X.env.scope x:=by first|exact Or.inl rfl|exact Or.inr (Or.inl rfl)|exact Or.inr (Or.inr rfl)) (hd:(x == ("__debug__":Str))=false:=by decide)
  (hcd:(x == ("__classdict__":Str))=false:=by decide):PE X (.Name x pos) (tVar i):=pe_var hN hv hd hcd
end
theorem iteF {A B:Prop}(h:B):if false=true then A else B:=by
 rw [if_neg Bool.false_ne_true]
 exact h
theorem iteT {A B:Prop}(h:A):if true=true then A else B:=by
 rw [if_pos rfl]
 exact h
theorem ite2 {c A B:Prop}[Decidable c] (h1:c→A) (h2:¬ c→B):if c then A else B:=by
 by_cases h:c
 ·rw [if_pos h]
  exact h1 h
 ·rw [if_neg h]
  exact h2 h
def Same (H H':Hp):Prop:=∀ b o,H b=some o→H' b=some o
theorem Same.refl (H:Hp):Same H H:=fun _ _ h=>h
theorem Same.trans {H H1 H2:Hp}(a:Same H H1) (b:Same H1 H2):Same H H2:=fun c o h=>b c o (a c o h)
theorem Same.free {H H':Hp}(e:Same H H') {l:Addr}(h:H' l=Option.none):H l=Option.none:=by
 cases q:H l with
 |none=>rfl
 |some o =>
  rw [e l o q] at h
  cases h
theorem Same.seq {K:PySem.W.Frag}{H H':Hp}{a:Addr}{xs:List V}(e:Same H H') (h:SqL K H a xs):SqL K H' a xs:=by
 rcases h with (h|⟨o,h⟩)|h
 ·exact .inl (.inl (e _ _ h))
 ·exact .inl (.inr ⟨o,e _ _ h⟩)
 ·exact .inr h
section
variable {κ:Type}[DecidableEq κ]
end
end L2
namespace L2
open PySem PySem.Spec PyProof.Rows
section
variable {X:Cx}
theorem z2d:OpR X (binaryOp .FloorDiv) (rI (fun _ j=>0 < j∧j.natAbs.log2 < 9000) fun i j=>.int (i / j)):=opI fun i j _ _ _ _ _ hc q=>by
 have h1:(0:Int) < j:=hc.1
 exact floordiv_int (by omega) (by rw [Int.fdiv_eq_ediv_of_nonneg i (by omega)];exact q) (.inl (PyProof.noPylong_of_log2 hc.2))
theorem z1d {K:PySem.W.Frag}(hK:X.K=K):z6j X (.builtin "isinstance") (fun xs H Q=>∃ x T t b,xs=[x,.ty T]∧TyOf K H x t∧PySem.W.kitOne K t (.type T)=some b∧Q (.bl b) H):=by
 subst hK
 intro pins s σ H xs us Q I r h
 obtain ⟨x,T,t,b,rfl,ty,e,q⟩:=h
 obtain ⟨u,w',rfl,rx,rt⟩:=vals2 r
 cases (show w' = Value.type T from rt)
 exact isinst_ok I rx ty e fun tk=>⟨.bl b,H,I.tok tk,rfl,q⟩
end
theorem lri_nolen:typeLookup (.type "list_reverseiterator") "__len__" = pure none:=by rw [typeLookup_type,builtinLookup_eq_fast];kernel_rfl
theorem lri_hint:typeLookup (.type "list_reverseiterator") "__length_hint__" = pure (some (.builtin "list_reverseiterator.__length_hint__")):=by rw [typeLookup_type,builtinLookup_eq_fast];kernel_rfl
theorem rev_items {items acc:Array Value}(h:ItemsOf (fun i v=>items[items.size - 1 - i]? = some v) acc items.size):acc.toList=items.toList.reverse:=by
 obtain ⟨h1,h2⟩:=h
 apply List.ext_getElem?
 intro j
 by_cases hj:j < acc.size
 ·have e:=h2 j acc[j] (by simp [hj])
  have hj':j < items.toList.length:=by simpa [h1] using hj
  rw [List.getElem?_reverse hj']
  have e1:acc.toList[j]? = some acc[j]:=by simp [hj]
  rw [e1]
  have e2:items.toList[items.toList.length - 1 - j]? = items[items.size - 1 - j]?:=by simp
  rw [e2,e]
 ·rw [List.getElem?_eq_none (by simpa using hj),List.getElem?_eq_none (by simp;omega)]
section
variable {prog:Program}{w:World}{A:Around}{E:Value→Shared→Prop}{s:Shared}
theorem extend_rev {R:Result→Shared→Prop}{r l S:Addr}{items:Array Value}{c₀:Nat}{res:Value}(hh:A.handled=none) (hr:s.heap.IsRevIter r l ((items.size:Int) - 1)) (hl:s.heap.IsList l items) (hne:l≠r) (hn:items.size≤sizeLine)
  (hSr:S≠r) (hSl:S≠l) (hS:s.heap.get? S=some { cls:=.type "list",data:=.seq #[] c₀ })
  (hR:∀ h' tk acc' c',(∀ b o,b≠r→b≠S→s.heap.get? b=some o→h'.get? b=some o)→h'.get? S=some { cls:=.type "list",dict:=none,data:=.seq acc' c',slots:=#[] }→acc'.toList=items.toList.reverse→R (.ok (.ret res)) { s with heap:=h',toks:=tk }) :
  wpAny (model prog w) A.in1 (Builtin.List.listExtendWith (.ref S) (.ref r) res)
   (fun fin s'=>match fin with | .done f=>R (.ok f) s' | .again c'=>c'.quiet=true∧codeAny (model prog w) A c' R s') (fun e s'=>R (.error e) s') s:=by
 have W:=(Walks.listRev (prog:=prog) (w:=w) (A:=A.in1) hh r l hne items).toS
 have hST:s.TypeIs (.ref r) "list_reverseiterator":=hr.typeIs
 have h1:Builtin.List.listSameRef (.ref S) (.ref r)=false:=by
  unfold Builtin.List.listSameRef
  exact beq_eq_false_iff_ne.mpr hSr
 have hst:(0:Nat)≤items.size∧s.heap.IsRevIter r l ((items.size:Int) - 1 - ((0:Nat):Int))∧s.heap.IsList l items:=⟨Nat.zero_le _,by simpa using hr,hl⟩
 unfold Builtin.List.listExtendWith
 refine wpAny_bind (wpAny_typeOf hST ?_)
 rw [if_neg (by rw [h1];decide)]
 refine wpAny_bind (W.self 0 _ _ _ hst ?_)
 refine wpAny_bind (wpAny_holding ?_)
 unfold Builtin.List.listLengthHint
 refine wpAny_bind (wpAny_specialOf hST lri_nolen ?_)
 show wpAny _ A.in1 (specialOf (Value.ref r) (Str.ofString "__length_hint__") >>= _) _ _ _
 refine wpAny_bind (wpAny_specialOf hST lri_hint ?_)
 generalize hid:("list_reverseiterator.__length_hint__":String)=id0
 wp_delta
 rw [show splitId id0=some ("list_reverseiterator","__length_hint__") from by subst hid;decide +kernel]
 subst hid
 refine wpAny_bind (wpAny_isInstance (b:=true) hST (by rw [isSubtype_type];kernel_rfl) ?_)
 refine wpAny_pure ?_
 rw [if_neg (by decide)]
 refine wpAny_pure ⟨plainId_quiet F.plain_extend_loop _,codeAny_extend_loopS W hn S (by simp [hSr,hSl]) res items.size 0 _ #[] c₀ rfl (Nat.zero_le _) hst hS (ItemsOf.nil _) fun s' acc' c' hm hS' hacc=>?_⟩
 rw [Moved.eq_with hm]
 exact hR s'.heap s'.toks acc' c' (fun b o hb hb' e=>hm.heap b o (by simp [hb,hb']) e) hS' (rev_items hacc)
theorem call_list_rev {Q:Value→Shared→Prop}{r l:Addr}{items:Array Value}(hh:A.handled=none) (hr:s.heap.IsRevIter r l ((items.size:Int) - 1)) (hl:s.heap.IsList l items) (hne:l≠r) (hn:items.size≤sizeLine)
  (hQ:∀ h' tk acc' c',(∀ b o,b≠r→s.heap.get? b=some o→h'.get? b=some o)→h'.get? s.heap.objs.size=some { cls:=.type "list",dict:=none,data:=.seq acc' c',slots:=#[] }→acc'.toList=items.toList.reverse →
   Q (.ref s.heap.objs.size) { s with heap:=h',toks:=tk }) :
  wpAny (model prog w) A (call (.type "list") [.ref r]) Q E s:=by
 obtain ⟨or,hor,_⟩:=id hr
 obtain ⟨ol,hol,_⟩:=id hl
 have hlr:=Heap.lt_size hor
 have hll:=Heap.lt_size hol
 refine callType_codes (Q₁:=fun obj s₁=>obj = .ref s.heap.objs.size∧s₁ = { s with heap:=s.heap.push { cls:=.type "list",data:=.seq #[] } }) F.called_list (F.typeCall_list_1 _) F.entry_list_init
  (code_list_new _ ⟨rfl,rfl⟩) fun obj s₁ h₁=>?_
 obtain ⟨rfl,rfl⟩:=h₁
 have hS:(s.heap.push { cls:=.type "list",data:=.seq #[] }).get? s.heap.objs.size=some { cls:=.type "list",data:=.seq #[] }:=Heap.get?_push_size _ rfl
 refine ⟨⟨_,hS,rfl⟩,F.args_list_init_2 _ _,?_⟩
 show wpAny _ _ (do let old ← Builtin.List.listItems (.ref s.heap.objs.size);Builtin.List.listUpdate (.ref s.heap.objs.size) (fun _=>#[]);letGo old.toList.reverse;Builtin.List.listExtendWith (.ref s.heap.objs.size) (.ref r) .none) _ _ _
 refine wpAny_bind ?_
 unfold Builtin.List.listItems
 refine wpAny_bind (wpAny_seqItems hS rfl (wpAny_pure ?_))
 show wpAny _ _ (updateSeq s.heap.objs.size (fun _=>#[]) >>= fun _=>letGo (#[]:Array Value).toList.reverse >>= fun _=>Builtin.List.listExtendWith (.ref s.heap.objs.size) (.ref r) .none) _ _ _
 refine wpAny_bind (wpAny_updateSeq hS rfl ?_)
 have hS₂:=Heap.get?_update_self (Obj.mapSeq (fun _=>(#[]:Array Value))) hS rfl
 have oth:∀ b o,b≠s.heap.objs.size→s.heap.get? b=some o→((s.heap.push { cls:=.type "list",data:=.seq #[] }).update s.heap.objs.size (Obj.mapSeq (fun _=>(#[]:Array Value)))).get? b=some o :=
  fun b o hb e=>(Heap.get?_update_other _ _ (Ne.symm hb)).trans (Heap.get?_push_of_some _ e)
 refine wpAny_bind (wpAny_letGo ?_)
 refine extend_rev (A:=A.in1) hh (hr.at fun o e=>oth r o (Nat.ne_of_lt hlr) e) (hl.at fun o e=>oth l o (Nat.ne_of_lt hll) e) hne hn (Nat.ne_of_gt hlr) (Nat.ne_of_gt hll) hS₂ fun h' tk acc' c' hk hS' hacc=>?_
 exact ⟨rfl,hQ h' tk acc' c' (fun b o hb e=>hk b o hb (Nat.ne_of_lt (Heap.lt_size e)) (oth b o (Nat.ne_of_lt (Heap.lt_size e)) e)) hS' hacc⟩
end
theorem Inv.turnLaid {X:Cx}{pins:List (Addr × Obj)}{σ:St}{H:Hp}{s:Shared}{h':Heap}{it a:Addr}{o:HO}{t':Nat}(I:Inv X pins σ H s) (k:∀ b u,b≠it→s.heap.get? b=some u→h'.get? b=some u) (f:FpOk X pins H it) (hp:s.heap.objs.size≤a)
  (new:ObjOk X.prog X.w (upd H a o) h' a o):Inv X pins σ (upd H a o) { s with heap:=h',toks:=t' }:=by
 obtain ⟨f0,f1,f2,f3,f4,f5⟩:=f
 have hn:H a=none:=I.hok.fresh hp
 have ne:∀ b u,s.heap.get? b=some u→b≠a:=fun b u e=>Nat.ne_of_lt (Nat.lt_of_lt_of_le (Heap.lt_size e) hp)
 have nit:∀ b u,H b=some u→b≠it:=fun b u e z=>by rw [z,f0] at e;cases e
 have ni:∀ b,b∉[it]→b≠it:=fun b hb z=>hb (by simp [z])
 refine I.step (g':=s.gens) (d':=s.drawn) (ch:=[it]) (fun b hb=>?_) (fun b u _ _ hc e _=>k b u (ni b hc) e) (fun b u _ _ hc e _=>⟨u.slots,k b u (ni b hc) e⟩) (fun b u _ e n=>by rw [z0i (ne b u e)];exact n)
  (fun b u hc e=>⟨u,k b u (ni b hc) e⟩) (fun b xs e=>by rw [z0i (z0u e hn)];exact e) (fun b u v e=>by rw [z0i (z0u e hn)];exact e) (fun b ps e=>⟨#[],by rw [z0i (z0u e hn),e];simp⟩) (fun m hm=>?_) (fun b u e=>?_) I.bare
 ·have e:b=it:=by simpa using hb
  subst e
  exact ⟨f3,f1,f4,f5⟩
 ·obtain ⟨o',es,ep,ho,r⟩:=hm
  exact ⟨o',es,ep,k _ o' (Ne.symm f1) ho,r⟩
 ·by_cases hb:b=a
  ·subst hb;rw [z0l] at e;cases e;exact new
  ·rw [z0i hb] at e
   refine (I.hok b u e).stay (fun c v hc q=>k c v ?_ q) (fun c q=>by rw [z0i (z0u q hn)];exact q) fun c xs q=>by rw [z0i (z0u q hn)];exact q
   rcases hc with z|z
   ·rw [z];exact nit b u e
   ·exact nit c _ z
def tRev (K:PySem.W.Frag) (te:TE):TE:=fun σ H Q=>te σ H fun x H1=>∃ a ys,x = .ref a∧H1 a=some (.lst ys)∧∀ l,H1 l=none→Q (.ref l) (upd H1 l (.lst ys.reverse))
theorem pe_listRev {X:Cx}{e:Expr}{te:TE}{p1 p2 p3 pos:Pos}(hc:X.calm=true) (hgL:Gl X "list") (hmL:X.mg "list" = none) (hgR:Gl X "reversed") (hmR:X.mg "reversed" = none) (he:PE X e te)
  (hs1:starEach [.Call (.Name "reversed" p2) [e] [] p3] X.env=[(false,eval (.Call (.Name "reversed" p2) [e] [] p3) X.env)]:=by rfl) (hs2:starEach [e] X.env=[(false,eval e X.env)]:=by rfl) :
  PE X (.Call (.Name "list" p1) [.Call (.Name "reversed" p2) [e] [] p3] [] pos) (tRev X.K te):=by
 intro pins s σ H Q I h
 refine wpAny_Call_Name_kw (z5s I hgL hmL PyProof.Rows.boot_list ?_)
 refine PyProof.Rows.callWith_type1 ?_ hs1 rfl
 rw [hs1]
 show wpAny _ _ (spliced ((false,eval _ X.env)::[])) _ _ s
 refine Calls.spliced_cons (wpAny_Call_Name_kw (z5s I hgR hmR PyProof.Rows.boot_reversed ?_))
 refine PyProof.Rows.callWith_type1 ?_ hs2 rfl
 rw [hs2]
 show wpAny _ _ (spliced ((false,eval e X.env)::[])) _ _ s
 refine Calls.spliced_cons (thn (he pins s σ H _ I h) fun v s1 ⟨x,H1,I1,r1,q1⟩=>Calls.spliced_nil ?_)
 obtain ⟨a,ys,rfl,hq,q⟩:=q1
 cases r1
 obtain ⟨its,rv,pl,hz⟩:=I1.list (SqL.of hq)
 have hlen:=rv.length
 obtain ⟨ol,hol,_⟩:=id pl.isList
 refine call_reversed_list pl.isList (Calls.spliced_nil ?_)
 have I2:Inv X pins σ H1 { s1 with heap:=s1.heap.push (revObj a ((its.toArray.size:Int) - 1)) }:=I1.kept (t':=s1.toks) fun b o e=>Heap.get?_push_of_some _ e
 obtain ⟨f0,f1,f2,f3,f4,f5⟩:=I1.fpOk (Nat.le_refl _) I1.fresh
 refine call_list_rev (I1.ok.hd hc) ⟨_,Heap.get?_push_size _ rfl,rfl,rfl⟩ (pl.isList.push _) (Nat.ne_of_lt (Heap.lt_size hol)) (by rw [List.size_toArray];omega) fun h' tk acc c kp eS ea=>?_
 have rr:Vals ys.reverse acc.toList:=by rw [ea];exact rv.reverse
 have e8:acc=acc.toList.toArray:=by simp
 refine ⟨.ref _,_,I2.turnLaid (t':=tk) (it:=s1.heap.objs.size) kp ⟨f0,f1,f2,f3,f4,f5⟩ (Nat.le_refl _) (show ObjOk X.prog X.w _ h' _ (.lst ys.reverse) from ⟨by rw [List.length_reverse];exact hz,acc.toList,c,rr,by rw [← e8];exact eS⟩),rfl,q _ ?_⟩
 exact I2.fresh
def z6h:List (Str × NameKind)→List (Str × Addr)→List (Str × Addr)→List (Str × Addr)
 | [],_,cs=>cs
 |(n,k)::r,cells,cs=>z6h r cells (if k == .free then (n,(cells.lookup n).getD 0)::cs else cs)
def z8x (env:Env) (x:Str × NameKind) (r:List (Str × Addr)):Sem (ForInStep (List (Str × Addr))) :=
 if (x.2 == NameKind.free)=true then cellOf env x.1 >>= fun a=>pure (ForInStep.yield ((x.1,a)::r)) else pure (ForInStep.yield r)
theorem z7r {scope:Scope}{env:Env}(h:∀ y∈scope.names,y.2 = .free→∃ c,env.cells.lookup y.1=some c):closureFor scope env=pure (z6h scope.names env.cells []):=by
 have key:∀ (l:List (Str × NameKind)) (cs:List (Str × Addr)),(∀ y∈l,y.2 = .free→∃ c,env.cells.lookup y.1=some c)→(forIn l cs (z8x env):Sem (List (Str × Addr)))=pure (z6h l env.cells cs):=by
  intro l
  induction l with
  |nil=>intro cs _;rfl
  |cons y r ih =>
   intro cs hl
   obtain ⟨n,k⟩:=y
   rw [List.forIn_cons]
   by_cases hk:(k == NameKind.free)=true
   ·obtain ⟨c,hc⟩:=hl (n,k) List.mem_cons_self (by simpa using hk)
    have hc':env.cells.lookup n=some c:=hc
    have e:z8x env (n,k) cs=pure (ForInStep.yield ((n,c)::cs)):=by simp only [z8x,hk,if_true,cellOf,hc',pure_bind]
    rw [e,pure_bind]
    show forIn r ((n,c)::cs) (z8x env)=_
    rw [ih _ fun y hy=>hl y (List.mem_cons_of_mem _ hy)]
    simp [z6h,hk,hc']
   ·have e:z8x env (n,k) cs=pure (ForInStep.yield cs):=by simp only [z8x,hk,if_false];rfl
    rw [e,pure_bind]
    show forIn r cs (z8x env)=_
    rw [ih _ fun y hy=>hl y (List.mem_cons_of_mem _ hy)]
    simp [z6h,hk]
 have e0:closureFor scope env=(forIn scope.names [] (z8x env):Sem (List (Str × Addr))) >>= fun cs=>pure cs:=by rfl
 rw [e0,key _ _ h,pure_bind]
theorem z9e {cells:List (Str × Addr)}{y:Str}{c:Addr}:∀ (l:List (Str × NameKind)) (cs:List (Str × Addr)),(∀ z∈l,z.2 = .free→∃ c,cells.lookup z.1=some c)→(cs.lookup y=some c→cells.lookup y=some c) →
  (z6h l cells cs).lookup y=some c→cells.lookup y=some c
 | [],cs,_,h,e=>h e
 |(n,k)::r,cs,hl,h,e=>by
  refine z9e r _ (fun z hz=>hl z (List.mem_cons_of_mem _ hz)) (fun e'=>?_) e
  by_cases hk:(k == NameKind.free)=true
  ·rw [if_pos hk] at e'
   obtain ⟨c',hc⟩:=hl (n,k) List.mem_cons_self (by simpa using hk)
   have hc':cells.lookup n=some c':=hc
   rw [List.lookup_cons,hc'] at e'
   by_cases hy:(y == n)=true
   ·simp only [hy] at e'
    rw [eq_of_beq hy,hc']
    exact e'
   ·simp only [hy] at e'
    exact h e'
  ·rw [if_neg hk] at e'
   exact h e'
theorem y1i {cells:List (Str × Addr)}{y:Str}:∀ (l:List (Str × NameKind)) (cs:List (Str × Addr)),(y,NameKind.free)∈l∨(cs.lookup y).isSome=true→((z6h l cells cs).lookup y).isSome=true
 | [],cs,h=>by
  rcases h with h|h
  ·cases h
  ·exact h
 |(n,k)::r,cs,h=>by
  refine y1i r _ ?_
  rcases h with h|h
  ·rcases List.mem_cons.mp h with h|h
   ·cases h
    refine .inr ?_
    simp
   ·exact .inl h
  ·refine .inr ?_
   by_cases hk:(k == NameKind.free)=true
   ·rw [if_pos hk,List.lookup_cons]
    cases hy:y == n
    ·exact h
    ·rfl
   ·rw [if_neg hk];exact h
theorem z5b {y:Str}{k:NameKind}:∀ {l:List (Str × NameKind)},l.lookup y=some k→(y,k)∈l
 | [],h=>by cases h
 |(n,k')::r,h=>by
  rw [List.lookup_cons] at h
  cases hy:y == n
  ·rw [hy] at h;exact List.mem_cons_of_mem _ (z5b h)
  ·rw [hy] at h;cases h;rw [eq_of_beq hy];exact List.mem_cons_self
theorem z6u {scope:Scope}{env:Env}{y:Str}{k:NameKind}(h:(relabel scope env).names.lookup y=some k):scope.names.lookup y=some k∨(k = .cell∧scope.names.lookup y=some .free):=by
 have key:∀ l:List (Str × NameKind),(l.map fun (n,k)=>if (k == NameKind.free && env.scope.kind == .function && env.kindOf n == some .cell) then (n,NameKind.cell) else (n,k)).lookup y=some k→l.lookup y=some k∨(k = .cell∧l.lookup y=some .free):=by
  intro l
  induction l with
  |nil=>intro h;simp at h
  |cons z r ih =>
   obtain ⟨n,k'⟩:=z
   intro h
   rw [List.map_cons] at h
   rw [List.lookup_cons]
   by_cases hc:(k' == NameKind.free && env.scope.kind == .function && env.kindOf n == some .cell)=true
   ·have e:(match (n,k') with|(n,k)=>if (k == NameKind.free && env.scope.kind == .function && env.kindOf n == some .cell)=true then (n,NameKind.cell) else (n,k))=(n,NameKind.cell):=by simp only [hc,if_true]
    rw [e,List.lookup_cons] at h
    cases hy:y == n
    ·rw [hy] at h;exact ih h
    ·rw [hy] at h
     have hk:k' = .free:=by simp at hc;exact hc.1.1
     cases h
     exact .inr ⟨rfl,by rw [hk]⟩
   ·have e:(match (n,k') with|(n,k)=>if (k == NameKind.free && env.scope.kind == .function && env.kindOf n == some .cell)=true then (n,NameKind.cell) else (n,k))=(n,k'):=by simp only [hc,if_false];rfl
    rw [e,List.lookup_cons] at h
    cases hy:y == n
    ·rw [hy] at h;exact ih h
    ·rw [hy] at h;exact .inl h
 exact key _ h
theorem relabel_free {scope:Scope}{env:Env}{y:Str}(h:scope.names.lookup y=some .free):(relabel scope env).names.lookup y=some .cell∨(relabel scope env).names.lookup y=some .free:=by
 have key:∀ l:List (Str × NameKind),l.lookup y=some .free→(l.map fun (n,k)=>if (k == NameKind.free && env.scope.kind == .function && env.kindOf n == some .cell) then (n,NameKind.cell) else (n,k)).lookup y=some .cell ∨
  (l.map fun (n,k)=>if (k == NameKind.free && env.scope.kind == .function && env.kindOf n == some .cell) then (n,NameKind.cell) else (n,k)).lookup y=some .free:=by
  intro l
  induction l with
  |nil=>intro h;simp at h
  |cons z r ih =>
   obtain ⟨n,k'⟩:=z
   intro h
   rw [List.lookup_cons] at h
   rw [List.map_cons]
   cases hy:y == n
   ·rw [hy] at h
    rcases ih h with q|q
    ·left;rw [List.lookup_cons]
     split
     ·rename_i hb;split at hb <;> (simp only at hb;rw [hy] at hb;cases hb)
     ·exact q
    ·right;rw [List.lookup_cons]
     split
     ·rename_i hb;split at hb <;> (simp only at hb;rw [hy] at hb;cases hb)
     ·exact q
   ·rw [hy] at h
    cases h
    by_cases hc:(NameKind.free == NameKind.free && env.scope.kind == .function && env.kindOf n == some .cell)=true
    ·left;simp only [hc,if_true,List.lookup_cons,hy]
    ·right
     show List.lookup y ((if (NameKind.free == NameKind.free && env.scope.kind == .function && env.kindOf n == some .cell)=true then (n,NameKind.cell) else (n,NameKind.free))::_)=_
     rw [if_neg hc,List.lookup_cons,hy]
 exact key _ h
def PF (X:Cx) (ifs:List Expr) (t:TT):Prop :=
 ∀ (pins:List (Addr × Obj)) (s:Shared) (σ:St) (H:Hp) (Q:Bool→Hp→Prop),Inv X pins σ H s→t σ H Q →
  wpAny (model X.prog X.w) X.A (forIn ifs true fun c r=>if r=true then do let ok ← isTrue c X.env (eval c X.env);pure (ForInStep.yield ok) else pure (ForInStep.yield r)) (TP X pins σ Q) X.xe s
def tYes:TT:=fun _ H Q=>Q true H
theorem pf_nil {X:Cx}:PF X [] tYes:=fun _ _ _ H _ I h=>wpAny_pure ⟨H,I,h⟩
theorem pf_one {X:Cx}{c:Expr}{t:TT}(h:PT X c t):PF X [c] t:=fun pins s σ H Q I q=>wpAny_tests_one (h pins s σ H Q I q)
def z3s (X:Cx) (scope:Scope) (N:List Str) (pins:List (Addr × Obj)) (ex:List Addr) (H₀:Hp) (s₀:Shared) (C:Addr):Cx :=
 { X with N:=N,s₀:=s₀,H₀:=H₀,env:=compEnvC scope (z6h scope.names X.env.cells []) C X.env,outer:=X.stack,stack:=X.stack,ex:=ex,fn:=fun _=>false,pn:=X.pn ++ pins,xe:=fun _ _=>False }
def namesOk (sc:Scope):List Str→List Str→Bool
 | [],[]=>true
 |n::N,m::M=>(sc.names.lookup m == none || (m == n && sc.names.lookup m == some .free)) && namesOk sc N M
 |_,_=>false
theorem namesOk.get {sc:Scope}:∀ {N M:List Str},namesOk sc N M=true→N.length=M.length∧∀ (i:Nat) (y:Str),M[i]? = some y→sc.names.lookup y=none∨(N[i]? = some y∧sc.names.lookup y=some .free)
 | [],[],_=>⟨rfl,fun i y h=>by simp at h⟩
 |n::N,m::M,h=>by
  rw [namesOk,Bool.and_eq_true] at h
  obtain ⟨h1,h2⟩:=h
  obtain ⟨l,ih⟩:=namesOk.get h2
  refine ⟨by simp [l],fun i y e=>?_⟩
  cases i with
  |zero =>
   have e':m=y:=by simpa using e
   subst e'
   rcases (Bool.or_eq_true _ _).mp h1 with h|h
   ·exact .inl (by simpa using h)
   ·obtain ⟨h3,h4⟩:=(Bool.and_eq_true _ _).mp h
    exact .inr ⟨by rw [eq_of_beq h3];rfl,by simpa using h4⟩
  |succ i=>simpa using ih i y (by simpa using e)
 | [],_::_,h=>by cases h
 |_::_,[],h=>by cases h
structure CScope (osc:Scope) (N:List Str) (x:Str) (sc:Scope) (M:List Str):Prop where
 kind:sc.kind = .function
 cell:∀ y∈sc.names,y.2 ≠ .cell
 names:∀ y∈sc.names,y.2 = .local→sc.names.lookup y.1=some .local
 hx:sc.names.lookup x=some .local
 free:∀ y∈sc.names,y.2 = .free→osc.names.lookup y.1=some .cell∨osc.names.lookup y.1=some .free
 nd:(x::M).Nodup
 ok:namesOk sc N M=true
section
variable {X:Cx}
end
inductive EqT (H:Hp):Nat→V→V→Prop
 |int {n:Nat}(i:Int):EqT H n (.int i) (.int i)
 |str {n:Nat}(x:Str):EqT H n (.str x) (.str x)
 |lst {n:Nat}{a b:Addr}{xs ys:List V}(ha:H a=some (.lst xs)) (hb:H b=some (.lst ys)) (hl:xs.length=ys.length) (h:∀ (i:Nat) x y,xs[i]? = some x→ys[i]? = some y→EqT H n x y):EqT H (n+1) (.ref a) (.ref b)
 |tup {n:Nat}{a b:Addr}{xs ys:List V}(ha:H a=some (.tup xs)) (hb:H b=some (.tup ys)) (hl:xs.length=ys.length) (h:∀ (i:Nat) x y,xs[i]? = some x→ys[i]? = some y→EqT H n x y):EqT H (n+1) (.ref a) (.ref b)
theorem all_true (n:Nat):(List.range n).all (fun _=>true)=true:=by simp
theorem EqT.items {X:Cx}{H:Hp}{n:Nat}{A:Around}{s:Shared}{xs ys:List V}{us ws:List Value}(r1:Vals xs us) (r2:Vals ys ws) (hl:xs.length=ys.length)
  (ih:∀ (i:Nat) x y,xs[i]? = some x→ys[i]? = some y→∀ {v' u':Value},RelV x v'→RelV y u'→SeqAt.EqAt A.in1 s v' u' true) (j:Nat) (h1:j < us.toArray.size) (h2:j < ws.toArray.size):SeqAt.EqAt A.in1 s us.toArray[j] ws.toArray[j] true:=by
 have l1:=r1.length
 have l2:=r2.length
 have hj:j < xs.length:=by simpa [l1] using h1
 have hj2:j < ys.length:=by omega
 obtain ⟨u,e1,q1⟩:=r1.get (i:=j) (x:=xs[j]) (by simp [hj])
 obtain ⟨w',e2,q2⟩:=r2.get (i:=j) (x:=ys[j]) (by simp [hj2])
 have z1:us.toArray[j]=u:=by
  have:us[j]? = some (us.toArray[j]):=by simp at h1;simp [h1]
  rw [this] at e1;exact Option.some.inj e1
 have z2:ws.toArray[j]=w':=by
  have:ws[j]? = some (ws.toArray[j]):=by simp at h2;simp [h2]
  rw [this] at e2;exact Option.some.inj e2
 rw [z1,z2]
 exact ih j xs[j] ys[j] (by simp [hj]) (by simp [hj2]) q1 q2
theorem EqT.at {X:Cx}{pins:List (Addr × Obj)}{σ:St}{H:Hp}{s:Shared}(I:Inv X pins σ H s) {n:Nat}{v u:V}(h:EqT H n v u):∀ {A:Around}{v' u':Value},RelV v v'→RelV u u'→A.units+n < cLine→SeqAt.EqAt A s v' u' true:=by
 induction h with
 |int i =>
  intro A v' u' r1 r2 _
  obtain ⟨t,rfl⟩:=r1
  obtain ⟨t',rfl⟩:=r2
  have q:=SeqAt.EqAt.int_int (A:=A) (s:=s) i t i t'
  rw [beq_self_eq_true] at q
  exact q
 |str x =>
  intro A v' u' r1 r2 _
  obtain ⟨t,rfl⟩:=r1
  obtain ⟨t',rfl⟩:=r2
  have q:=SeqAt.EqAt.str_str (A:=A) (s:=s) x t x t'
  rw [beq_self_eq_true] at q
  exact q
 | @lst n a b xs ys ha hb hl h ih =>
  intro A v' u' r1 r2 hu
  cases r1
  cases r2
  by_cases hab:a=b
  ·subst hab;exact SeqAt.EqAt.same _
  ·obtain ⟨us,ru,pu,_⟩:=I.list (SqL.of ha)
   obtain ⟨ws,rw',pw,_⟩:=I.list (SqL.of hb)
   have q:=SeqAt.RcAt.lists (A:=A) (e:=fun _=>true) pu.isList pw.isList (by simp [← ru.length,← rw'.length,hl]) (by omega) (fun j h1 h2=>EqT.items (X:=X) (H:=H) (n:=n) ru rw' hl (fun i x y e1 e2 _ _ q1 q2=>ih i x y e1 e2 q1 q2 (by show A.units+1+n < cLine;omega)) j h1 h2)
   rw [all_true] at q
   exact SeqAt.EqAt.of_refs hab q
 | @tup n a b xs ys ha hb hl h ih =>
  intro A v' u' r1 r2 hu
  cases r1
  cases r2
  by_cases hab:a=b
  ·subst hab;exact SeqAt.EqAt.same _
  ·obtain ⟨us,ru,pu,_⟩:=I.tuple (SqT.of ha)
   obtain ⟨ws,rw',pw,_⟩:=I.tuple (SqT.of hb)
   have q:=SeqAt.RcAt.tuples (A:=A) (e:=fun _=>true) (show s.heap.IsTuple a us.toArray from pu) (show s.heap.IsTuple b ws.toArray from pw) (by omega) (fun j h1 h2=>EqT.items (X:=X) (H:=H) (n:=n) ru rw' hl (fun i x y e1 e2 _ _ q1 q2=>ih i x y e1 e2 q1 q2 (by show A.units+1+n < cLine;omega)) j h1 h2)
   have e:us.toArray.size=ws.toArray.size:=by simp [← ru.length,← rw'.length,hl]
   rw [all_true,e,beq_self_eq_true,Bool.true_and] at q
   exact SeqAt.EqAt.of_refs hab q
theorem op_eq_tree {X:Cx}:OpR X (compareOp .Eq) (fun x y H Q=>∃ n a b xs ys,x = .ref a∧y = .ref b∧H a=some (.lst xs)∧H b=some (.lst ys)∧xs.length=ys.length∧(∀ (i:Nat) x y,xs[i]? = some x→ys[i]? = some y→EqT H n x y)∧X.A.units+n+1 < cLine∧Q (.bl true) H):=by
 intro pins s σ H x y v u Q I rx ry h
 obtain ⟨n,a,b,xs,ys,rfl,rfl,ha,hb,hl,h,hu,q⟩:=h
 cases rx
 cases ry
 obtain ⟨us,ru,pu,_⟩:=I.list (SqL.of ha)
 obtain ⟨ws,rw',pw,_⟩:=I.list (SqL.of hb)
 refine SeqAt.eq_listAt (e:=fun _=>true) pu.isList pw.isList (by simp [← ru.length,← rw'.length,hl]) (by omega) (fun j h1 h2=>EqT.items (X:=X) (H:=H) (n:=n) ru rw' hl (fun i x y e1 e2 _ _ q1 q2=>(h i x y e1 e2).at I q1 q2 (by show X.A.units+1+n < cLine;omega)) j h1 h2) ?_
 rw [all_true]
 exact ⟨.bl true,H,I,rfl,q⟩
def LoopR (lo:Int) (n:Nat) (g:TG) (tb:TS) (D:Ends) (σ:St) (H:Hp):Prop:=∃ W:Nat→Nat→St→Hp→Prop,(∃ m,W 0 m σ H)∧∀ i m σ H,W i m σ H →
 ((Itr lo n).stop i H∧D.nx σ H)∨((Itr lo n).go i H∧∃ N:St→Hp→Prop,(∀ σ' H',N σ' H'→∃ m',m' < m∧W (i+1) m' σ' H')∧∀ x H',(Itr lo n).yld i H x H'→g x σ H' fun σ2 H2=>tb { D with nx:=N,ct:=N,bk:=D.nx } σ2 H2)
def LoopL (K:PySem.W.Frag) (a:Addr) (g:TG) (tb:TS) (D:Ends) (σ:St) (H:Hp):Prop:=∃ W:Nat→Nat→St→Hp→Prop,(∃ m,W 0 m σ H)∧∀ i m σ H,W i m σ H →
 ((Itl K a).stop i H∧D.nx σ H)∨((Itl K a).go i H∧∃ N:St→Hp→Prop,(∀ σ' H',N σ' H'→∃ m',m' < m∧W (i+1) m' σ' H')∧∀ x H',(Itl K a).yld i H x H'→g x σ H' fun σ2 H2=>tb { D with nx:=N,ct:=N,bk:=D.nx } σ2 H2)
theorem tFor_r1 {ta:TA}{g:TG}{tb:TS}{D:Ends}{σ:St}{H:Hp}:tFor (iRng1 ta) g tb D σ H=ta σ H fun vs H1=>∃ j:Int,vs=[.int j]∧-(2 ^ 62)≤j∧j < 2 ^ 62∧LoopR 0 j.toNat g tb D σ H1:=rfl
theorem tFor_l {K:PySem.W.Frag}{tl:TE}{g:TG}{tb:TS}{D:Ends}{σ:St}{H:Hp}:tFor (iList K tl) g tb D σ H=tl σ H fun x H1=>∃ a,x = .ref a∧(∃ xs,SqL K H1 a xs)∧LoopL K a g tb D σ H1:=rfl
theorem loopR {lo:Int}{n:Nat}{g:TG}{tb:TS}{D:Ends}{σ:St}{H:Hp}(Pv:Nat→St→Hp→Prop) (h0:Pv 0 σ H)
  (hs:∀ i σ H,i < n→Pv i σ H→g (.int (lo+i)) σ H fun σ2 H2=>tb { D with nx:=Pv (i+1),ct:=Pv (i+1),bk:=D.nx } σ2 H2) (hd:∀ σ H,Pv n σ H→D.nx σ H):LoopR lo n g tb D σ H:=for_range Pv h0 hs hd
theorem loopL {K:PySem.W.Frag}{a:Addr}{xs:List V}{g:TG}{tb:TS}{D:Ends}{σ:St}{H:Hp}(Pv:Nat→St→Hp→Prop) (h0:Pv 0 σ H) (hl:∀ i σ H,i≤xs.length→Pv i σ H→SqL K H a xs)
  (hs:∀ i x σ H,xs[i]? = some x→Pv i σ H→g x σ H fun σ2 H2=>tb { D with nx:=Pv (i+1),ct:=Pv (i+1),bk:=D.nx } σ2 H2) (hd:∀ σ H,Pv xs.length σ H→D.nx σ H):LoopL K a g tb D σ H:=for_list Pv h0 hl hs hd
theorem Same.upd {H H':Hp}{a:Addr}{o:HO}(s:Same H H') (h:H a=none):Same H (upd H' a o):=fun b u e=>by
 rw [z0i (z0u e h)];exact s b u e
theorem Same.of_new {H:Hp}{a:Addr}{o:HO}(h:H a=none):Same H (L2.upd H a o):=(Same.refl H).upd h
theorem cxOf_K {CX:CXT}{P:Program}{w:World}{K:PySem.W.Frag}{mg:Str→Option Value}{base:Heap}{N:List Str}{qual:Str}{scope:Scope}{f:Addr}{cd:Value}{A:Around}{outer:List Env}{s:Shared}{H:Hp}{E:XK}:(cxOf CX P w K mg base N qual scope f cd A outer s H E).K=K:=rfl
theorem cxOf_A {CX:CXT}{P:Program}{w:World}{K:PySem.W.Frag}{mg:Str→Option Value}{base:Heap}{N:List Str}{qual:Str}{scope:Scope}{f:Addr}{cd:Value}{A:Around}{outer:List Env}{s:Shared}{H:Hp}{E:XK}:(cxOf CX P w K mg base N qual scope f cd A outer s H E).A=A.deeper (envOfC qual scope s.heap.objs.size f cd):=rfl
section
variable {X:Cx}
theorem z1z:IxR X (fun x y H Q=>∃ p i,x = .ref p∧y = .int i∧∃ xs,H p=some (.lst xs)∧∃ v,atI xs i=some v∧Q v H):=fun value slice pins s σ H x y v u Q I rx ry h hs =>
 ix_list value slice pins s σ H x y v u Q I rx ry (by obtain ⟨p,i,e1,e2,xs,e3,v,e4,q⟩:=h;exact ⟨p,xs,i,v,e1,e2,SqL.of e3,e4,q⟩) hs
theorem z0v:IxR X (fun x y H Q=>∃ p i,x = .ref p∧y = .int i∧∃ xs,H p=some (.tup xs)∧∃ v,atI xs i=some v∧Q v H):=fun value slice pins s σ H x y v u Q I rx ry h hs =>
 ix_tup value slice pins s σ H x y v u Q I rx ry (by obtain ⟨p,i,e1,e2,xs,e3,v,e4,q⟩:=h;exact ⟨p,xs,i,v,e1,e2,SqT.of e3,e4,q⟩) hs
theorem z1i:z6j X (.builtin "len") (fun xs H Q=>∃ p,xs=[.ref p]∧∃ ys,H p=some (.lst ys)∧Q (.int ys.length) H):=fun pins s σ H xs us Q I r h =>
 z4d pins s σ H xs us Q I r (by obtain ⟨p,e,ys,e2,q⟩:=h;exact ⟨p,ys,e,.inl (SqL.of e2),q⟩)
theorem z4j:z6j X (.type "list") (fun xs H Q=>∃ p,xs=[.ref p]∧∃ ys,H p=some (.lst ys)∧∀ l,H l=none→Q (.ref l) (upd H l (.lst ys))):=fun pins s σ H xs us Q I r h =>
 call_list_of pins s σ H xs us Q I r (by obtain ⟨p,e,ys,e2,q⟩:=h;exact ⟨p,ys,e,.inl (SqL.of e2),q⟩)
theorem sl_lst:SlR X (fun x lo hi H Q=>∃ a,x = .ref a∧∃ xs,H a=some (.lst xs)∧∀ p,H p=none→Q (.ref p) (upd H p (.lst (cutV xs lo hi)))):=fun pins s σ H x v vl vu lo hi sl Q I rx hs pl pu h =>
 sl_list pins s σ H x v vl vu lo hi sl Q I rx hs pl pu (by obtain ⟨a,e,xs,e2,q⟩:=h;exact ⟨a,xs,e,SqL.of e2,q⟩)
theorem tyV_lst {K:PySem.W.Frag}{H:Hp}{p:Addr}{xs:List V}(h:H p=some (.lst xs)):tyV K "list" (.ref p) H:=.inl ⟨rfl,_,SqL.of h⟩
variable {o e:Expr}{es:List Expr}{to:TE}{t:TA}{name:Str}{apos cpos:Pos}{id:String}{r:V→List V→Hp→VK→Prop}
def tLM (r:V→List V→Hp→VK→Prop) (to:TE) (t:TA):TE:=fun σ H Q=>to σ H fun x H1=>∃ p,x = .ref p∧(∃ xs,H1 p=some (.lst xs))∧t σ H1 fun vs H2=>r (.ref p) vs H2 Q
def tLM0 (r:V→List V→Hp→VK→Prop) (to:TE):TE:=fun σ H Q=>to σ H fun x H1=>∃ p,x = .ref p∧(∃ xs,H1 p=some (.lst xs))∧r (.ref p) [] H1 Q
theorem pe_lm0 (slot:Slot "list" name id) (hty:typeOf (.builtin id)=pure (.type "method_descriptor")) (hm:MtR X id r) (ho:PE X o to)
  (hbase:attributeBase o name X.env (eval o X.env)=eval o X.env:=by rfl) (hline:(apos.endLine == cpos.line)=true:=by rfl):PE X (.Call (.Attribute o name apos) [] [] cpos) (tLM0 r to):=by
 intro pins s σ H Q I h
 refine wpAny_Call_method0_late hbase hline (thn (ho pins s σ H _ I h) fun v s1 ⟨x,H1,I1,r1,p,e1,⟨xs,hx⟩,q1⟩=>?_)
 subst e1
 obtain ⟨h1,h2⟩:=tyV_is I1 r1 (tyV_lst hx)
 exact ⟨"list",id,PySem.F.plainAttrs_list,slot,hty,h1,h2,Calls.callWith_builtin rfl (PySem.evalArgs_none (hm pins s1 σ H1 _ [] v [] Q I1 r1 .nil q1))⟩
theorem pe_lm (slot:Slot "list" name id) (hty:typeOf (.builtin id)=pure (.type "method_descriptor")) (hm:MtR X id r) (ho:PE X o to) (ha:PA X (e::es) t)
  (hbase:attributeBase o name X.env (eval o X.env)=eval o X.env:=by rfl)
  (hfew:((backTo cpos (starEach (e::es) X.env)).all (fun x=>!x.1) && (backToKw cpos (keywordEach [] X.env)).all (fun x=>x.1.isSome)
   && decide ((e::es).length+([]:List Keyword).length+(if ([]:List Keyword).isEmpty then 0 else 1) < 30))=true:=by rfl)
  (hline:(apos.endLine == cpos.line)=true:=by rfl) (hs:starEach (e::es) X.env=(false,eval e X.env)::starEach es X.env:=by rfl) (hplain:(backTo cpos (starEach es X.env)).any (·.1)=false:=by rfl) :
  PE X (.Call (.Attribute o name apos) (e::es) [] cpos) (tLM r to t):=by
 intro pins s σ H Q I h
 refine wpAny_Call_method_late hbase hfew hline rfl (thn (ho pins s σ H _ I h) fun v s1 ⟨x,H1,I1,r1,p,e1,⟨xs,hx⟩,q1⟩=>?_)
 subst e1
 obtain ⟨h1,h2⟩:=tyV_is I1 r1 (tyV_lst hx)
 refine ⟨"list",id,PySem.F.plainAttrs_list,slot,hty,h1,h2,?_⟩
 have hA:=ha cpos pins s1 σ H1 _ I1 q1
 rw [hs] at hA ⊢
 refine Calls.callWith_builtin (by show (false || (backTo cpos (starEach es X.env)).any (·.1))=false;rw [hplain] <;> rfl) (Calls.evalArgs_plain ?_)
 exact thn hA fun us s2 ⟨vs,H2,I2,r2,q2⟩=>hm pins s2 σ H2 _ vs v us Q I2 r1 r2 q2
theorem upd_app {H:Hp}{a b:Addr}{o:HO}:upd H a o b=if b=a then some o else H b:=rfl
theorem upd_none {H:Hp}{a b:Addr}{o:HO}:upd H a o b=none↔b≠a∧H b=none:=by
 rw [upd_app]
 by_cases h:b=a <;> simp [h]
theorem atI0 {α:Type}{a:α}{l:List α}:atI (a::l) 0=some a:=by
 have:=z3x (xs:=a::l) (j:=0) (v:=a) rfl
 simpa using this
theorem atI1 {α:Type}{a b:α}{l:List α}:atI (a::b::l) 1=some b:=by
 have:=z3x (xs:=a::b::l) (j:=1) (v:=b) rfl
 simpa using this
theorem atI2 {α:Type}{a b c:α}{l:List α}:atI (a::b::c::l) 2=some c:=by
 have:=z3x (xs:=a::b::c::l) (j:=2) (v:=c) rfl
 simpa using this
theorem z0x:sizeLine=16777216:=sizeLine_eq
end
end L2
namespace L2
open PySem PySem.Spec PyProof.Rows PySem.SeqAt
theorem z4r:plainId "list.__eq__.loop" = true:=by decide +kernel
theorem z9:entryFor table "list.__eq__.loop" = some Builtin.«list.__eq__.loop»:=entryFor_of_tree (by kernel_rfl)
open AutoSeq1 (wpAny_loadPart')
theorem ne_loop_same (l b:Addr) (us ws:Array Value) (n n2:Nat) (hsz:us.size=ws.size) (k:Nat) :
  ∀ i:Nat,us.size - i=k→Meets (Builtin.«list.__eq__.loop» ⟨[.ref l,.ref b,rawInt i,rawInt 3],[]⟩)
   (fun A R s=>s.heap.get? l=some { cls:=.type "list",data:=.seq us n }∧s.heap.get? b=some { cls:=.type "list",data:=.seq ws n2 } ∧
    (∀ j (h1:j < us.size) (h2:j < ws.size),EqAt A.in1 s us[j] ws[j] true)∧R (.ok (.ret (.bool false))) s):=by
 induction k with
 |zero =>
  intro i hk prog w A R s h
  obtain ⟨hp,g,d,tk,os⟩:=s
  obtain ⟨hl,hb,he,h⟩:=h
  wp_walk using wpAny_loadPart' hl,wpAny_loadPart' hb
  have hi1:us[((i:Nat):Int).toNat]? = none:=by simp;omega
  have hi2:ws[((i:Nat):Int).toNat]? = none:=by simp;omega
  rw [hi1,hi2]
  wp_walk using wpAny_loadPart' hl,wpAny_loadPart' hb
  show R (.ok (.ret (.bool (us.size != ws.size)))) _
  rw [hsz]
  simpa using h
 |succ k ih =>
  intro i hk prog w A R s h
  obtain ⟨hp,g,d,tk,os⟩:=s
  obtain ⟨hl,hb,he,h⟩:=h
  wp_walk using wpAny_loadPart' hl,wpAny_loadPart' hb
  have hlt:i < us.size:=by omega
  have hlt2:i < ws.size:=by omega
  have hi1:us[((i:Nat):Int).toNat]? = some us[i]:=by simp [hlt]
  have hi2:ws[((i:Nat):Int).toNat]? = some ws[i]:=by simp [hlt2]
  have hc:((i:Int)+1)=((i+1:Nat):Int):=by omega
  rw [hi1,hi2]
  refine wpAny_bind (he i hlt hlt2 prog w _ _ ?_)
  wp_walk
  rw [hc]
  exact ⟨plainId_quiet z4r _,codeAny_builtin z9 (by
   rw [Around.under_plainId z4r _]
   exact ih (i+1) (by omega) prog w A R _ ⟨hl,hb,he,h⟩)⟩
theorem list_ne_same (l b:Addr) (us ws:Array Value) (n n2:Nat) (hsz:us.size=ws.size) :
  Meets (Builtin.«list.__ne__» ⟨[.ref l,.ref b],[]⟩)
   (fun A R s=>s.heap.get? l=some { cls:=.type "list",data:=.seq us n }∧s.heap.get? b=some { cls:=.type "list",data:=.seq ws n2 } ∧
    (∀ j (h1:j < us.size) (h2:j < ws.size),EqAt A.in1 s us[j] ws[j] true)∧R (.ok (.ret (.bool false))) s):=by
 intro prog w A R s h
 obtain ⟨hp,g,d,tk,os⟩:=s
 obtain ⟨hl,hb,he,h⟩:=h
 have f3:=AutoSeq1.sub_list_list
 have hne:¬ (us.size != ws.size)=true:=by simp [hsz]
 wp_walk using wpAny_loadPart' hl,wpAny_loadPart' hb
 exact ⟨plainId_quiet z4r _,codeAny_builtin z9 (by
  rw [Around.under_plainId z4r _]
  exact ne_loop_same l b us ws n n2 hsz _ 0 rfl prog w A R _ ⟨hl,hb,he,h⟩)⟩
theorem list_ne_len (l b:Addr) (us ws:Array Value) (n n2:Nat) (hc0:(us.size != ws.size)=true) :
  Meets (Builtin.«list.__ne__» ⟨[.ref l,.ref b],[]⟩)
   (fun _ R s=>s.heap.get? l=some { cls:=.type "list",data:=.seq us n }∧s.heap.get? b=some { cls:=.type "list",data:=.seq ws n2 }∧R (.ok (.ret (.bool true))) s) :=
 .of_wp fun prog w A R s h=>by
  obtain ⟨hp,g,d,tk,os⟩:=s
  obtain ⟨hl,hb,h⟩:=h
  have f3:=AutoSeq1.sub_list_list
  wp_walk using wpAny_loadPart' hl,wpAny_loadPart' hb
  exact ⟨_,rfl,h⟩
section
variable {X:Cx}
theorem Inv.plainL {pins:List (Addr × Obj)}{σ:St}{H:Hp}{s:Shared}{p:Addr}{xs:List V}(I:Inv X pins σ H s) (h:H p=some (.lst xs)) :
  ∃ (its:List Value) (n:Nat),Vals xs its∧s.heap.get? p=some { cls:=.type "list",data:=.seq its.toArray n }:=by
 obtain ⟨_,its,n,r,e⟩:=I.hok p _ h
 exact ⟨its,n,r,e⟩
theorem y2a:OpR X (compareOp .NotEq) (fun x y H Q=>∃ a b,x = .ref a∧y = .ref b∧∃ xs,H a=some (.lst xs)∧∃ ys,H b=some (.lst ys)∧X.A.units < cLine ∧
  ((xs.length≠ys.length∧Q (.bl true) H)∨(xs.length=ys.length∧(∃ n,(∀ (i:Nat) x y,xs[i]? = some x→ys[i]? = some y→EqT H n x y)∧X.A.units+n+1 < cLine)∧Q (.bl false) H))):=by
 intro pins s σ H x y v u Q I rx ry h
 obtain ⟨a,b,rfl,rfl,xs,ha,ys,hb,hu,h⟩:=h
 cases rx
 cases ry
 obtain ⟨us,n1,ru,eu⟩:=I.plainL ha
 obtain ⟨ws,n2,rw',ew⟩:=I.plainL hb
 have l1:=ru.length
 have l2:=rw'.length
 rcases h with ⟨hl,q⟩|⟨hl,⟨n,h,hn⟩,q⟩
 ·exact richCompare_meets_room (op:=.NotEq) ⟨_,eu,rfl⟩ ⟨_,ew,rfl⟩ F.slot_list_ne F.entry_list_ne (F.args_list_ne_2 _ _) (list_ne_len a b us.toArray ws.toArray n1 n2 (by simp;omega))
   ⟨eu,ew,(show Value.bool true≠Value.notImplemented∧EP X pins σ Q (.bool true) s from ⟨(fun z=>nomatch z),⟨.bl true,H,I,rfl,q⟩⟩)⟩ hu
 ·exact richCompare_meets_room (op:=.NotEq) ⟨_,eu,rfl⟩ ⟨_,ew,rfl⟩ F.slot_list_ne F.entry_list_ne (F.args_list_ne_2 _ _) (list_ne_same a b us.toArray ws.toArray n1 n2 (by simp;omega))
   ⟨eu,ew,fun j h1 h2=>EqT.items (X:=X) (H:=H) (n:=n) ru rw' hl (fun i x y e1 e2 _ _ q1 q2=>(h i x y e1 e2).at I q1 q2 (by show X.A.units+1+n < cLine;omega)) j h1 h2,(show Value.bool false≠Value.notImplemented∧EP X pins σ Q (.bool false) s from ⟨(fun z=>nomatch z),⟨.bl false,H,I,rfl,q⟩⟩)⟩ hu
theorem z5a:OpR X (compareOp .Eq) (fun x y H Q=>∃ a b,x = .ref a∧y = .ref b∧∃ xs,H a=some (.lst xs)∧∃ ys,H b=some (.lst ys)∧X.A.units < cLine ∧
  ((xs.length≠ys.length∧Q (.bl false) H)∨(xs.length=ys.length∧(∃ n,(∀ (i:Nat) x y,xs[i]? = some x→ys[i]? = some y→EqT H n x y)∧X.A.units+n+1 < cLine)∧Q (.bl true) H))):=by
 intro pins s σ H x y v u Q I rx ry h
 obtain ⟨a,b,rfl,rfl,xs,ha,ys,hb,hu,h⟩:=h
 rcases h with ⟨hl,q⟩|⟨hl,⟨n,h,hn⟩,q⟩
 ·cases rx
  cases ry
  obtain ⟨us,ru,pu,_⟩:=I.list (SqL.of ha)
  obtain ⟨ws,rw',pw,_⟩:=I.list (SqL.of hb)
  exact SeqAt.eq_list_lengthsAt pu.isList pw.isList (by simp [← ru.length,← rw'.length,hl]) hu ⟨.bl false,H,I,rfl,q⟩
 ·exact op_eq_tree pins s σ H _ _ v u Q I rx ry ⟨n,a,b,xs,ys,rfl,rfl,ha,hb,hl,h,hn,q⟩
theorem z7l:OpR X (compareOp .In) (fun x y H Q=>∃ p,y = .ref p∧∃ xs,H p=some (.tup xs)∧z4f x=true∧xs.all z4f=true∧Q (.bl (inV x xs)) H):=fun pins s σ H x y v u Q I rx ry h =>
 op_in_seq pins s σ H x y v u Q I rx ry (by obtain ⟨p,e,xs,e2,h1,h2,q⟩:=h;exact ⟨p,xs,e,.inr (SqT.of e2),h1,h2,q⟩)
theorem op_in_lst:OpR X (compareOp .In) (fun x y H Q=>∃ p,y = .ref p∧∃ xs,H p=some (.lst xs)∧z4f x=true∧xs.all z4f=true∧Q (.bl (inV x xs)) H):=fun pins s σ H x y v u Q I rx ry h =>
 op_in_seq pins s σ H x y v u Q I rx ry (by obtain ⟨p,e,xs,e2,h1,h2,q⟩:=h;exact ⟨p,xs,e,.inl (SqL.of e2),h1,h2,q⟩)
theorem z3k:OpR X (compareOp .NotIn) (fun x y H Q=>∃ p,y = .ref p∧∃ xs,H p=some (.lst xs)∧z4f x=true∧xs.all z4f=true∧Q (.bl (!inV x xs)) H):=fun pins s σ H x y v u Q I rx ry h =>
 op_notIn_seq pins s σ H x y v u Q I rx ry (by obtain ⟨p,e,xs,e2,h1,h2,q⟩:=h;exact ⟨p,xs,e,.inl (SqL.of e2),h1,h2,q⟩)
theorem inV_strs (k:Str) (ks:List Str):inV (.str k) (ks.map V.str)=decide (k∈ks):=by
 unfold inV
 induction ks with
 |nil=>simp
 |cons a r ih =>
  rw [List.map_cons,List.any_cons,ih,Bool.eq_iff_iff]
  simp [eqV,@eq_comm _ a k]
theorem flat_strs (ks:List Str):(ks.map V.str).all z4f=true:=by
 induction ks with
 |nil=>rfl
 |cons a r ih=>rw [List.map_cons,List.all_cons,ih];rfl
theorem inV_ints (k:Int) (ks:List Int):inV (.int k) (ks.map V.int)=decide (k∈ks):=by
 unfold inV
 induction ks with
 |nil=>simp
 |cons a r ih =>
  rw [List.map_cons,List.any_cons,ih,Bool.eq_iff_iff]
  simp [eqV,@eq_comm _ a k]
theorem flat_ints (ks:List Int):(ks.map V.int).all z4f=true:=by
 induction ks with
 |nil=>rfl
 |cons a r ih=>rw [List.map_cons,List.all_cons,ih];rfl
theorem y0h {prog:Program}{w:World}{A:Around}{its:List Value}{bs:List Bool}(r:Vals (bs.map V.bl) its):TruthOf prog w A (fun i v=>its.toArray[i]? = some v) (fun i=>bs.getD i false):=by
 intro i v s Q E hP hq
 have e:its[i]? = some v:=by simpa using hP
 have hi:i < bs.length:=by
  have:=(List.getElem?_eq_some_iff.mp e).1
  have:=r.length
  simp at this
  omega
 obtain ⟨u,eu,ru⟩:=r.get (i:=i) (x:=.bl bs[i]) (by simp [hi])
 rw [e] at eu
 cases eu
 cases (show v=Value.bool bs[i] from ru)
 refine wpAny_truthy_bool ?_
 simpa [hi] using hq
theorem range_all (bs:List Bool) (n:Nat) (h:n=bs.length):(List.range n).all (fun i=>bs.getD i false)=bs.all id:=by
 subst h
 induction bs with
 |nil=>rfl
 |cons b r ih =>
  rw [List.length_cons,List.range_succ_eq_map,List.all_cons,List.all_map,List.all_cons]
  congr 1
theorem range_any (bs:List Bool) (n:Nat) (h:n=bs.length):(List.range n).any (fun i=>bs.getD i false)=bs.any id:=by
 subst h
 induction bs with
 |nil=>rfl
 |cons b r ih =>
  rw [List.length_cons,List.range_succ_eq_map,List.any_cons,List.any_map,List.any_cons]
  congr 1
theorem call_all_lst (hc:X.calm=true):z6j X (.builtin "all") (fun xs H Q=>∃ p,xs=[.ref p]∧∃ bs:List Bool,H p=some (.lst (bs.map V.bl))∧Q (.bl (bs.all id)) H):=by
 intro pins s σ H xs us Q I r h
 obtain ⟨p,rfl,bs,hp,q⟩:=h
 obtain ⟨u,rfl,ru⟩:=z8j r
 cases ru
 obtain ⟨its,rv,pl,hz⟩:=I.list (SqL.of hp)
 obtain ⟨ol,hol,_⟩:=id pl.isList
 have hlt:=Heap.lt_size hol
 refine call_all_walk (wpAny_pyIter_list pl.isList ⟨s.heap.objs.size,_,_,_,_,_,_,rfl,Walks.list (A:=X.A.in1) (I.ok.hd hc) s.heap.objs.size p (Nat.ne_of_lt hlt) its.toArray,⟨⟨_,Heap.get?_push_size _ rfl,rfl,rfl⟩,pl.isList.push _⟩,y0h rv,fun h' tk hk=>?_⟩)
 rw [range_all bs _ (by have:=rv.length;simp at this;simp [this])]
 have hk':∀ b o,s.heap.get? b=some o→h'.get? b=some o:=fun b o e=>hk b o (by simpa using Nat.ne_of_lt (Heap.lt_size e)) (Heap.get?_push_of_some _ e)
 exact ⟨.bl (bs.all id),H,I.kept hk',rfl,q⟩
theorem call_any_lst (hc:X.calm=true):z6j X (.builtin "any") (fun xs H Q=>∃ p,xs=[.ref p]∧∃ bs:List Bool,H p=some (.lst (bs.map V.bl))∧Q (.bl (bs.any id)) H):=by
 intro pins s σ H xs us Q I r h
 obtain ⟨p,rfl,bs,hp,q⟩:=h
 obtain ⟨u,rfl,ru⟩:=z8j r
 cases ru
 obtain ⟨its,rv,pl,hz⟩:=I.list (SqL.of hp)
 obtain ⟨ol,hol,_⟩:=id pl.isList
 have hlt:=Heap.lt_size hol
 refine call_any_walk (wpAny_pyIter_list pl.isList ⟨s.heap.objs.size,_,_,_,_,_,_,rfl,Walks.list (A:=X.A.in1) (I.ok.hd hc) s.heap.objs.size p (Nat.ne_of_lt hlt) its.toArray,⟨⟨_,Heap.get?_push_size _ rfl,rfl,rfl⟩,pl.isList.push _⟩,y0h rv,fun h' tk hk=>?_⟩)
 rw [range_any bs _ (by have:=rv.length;simp at this;simp [this])]
 have hk':∀ b o,s.heap.get? b=some o→h'.get? b=some o:=fun b o e=>hk b o (by simpa using Nat.ne_of_lt (Heap.lt_size e)) (Heap.get?_push_of_some _ e)
 exact ⟨.bl (bs.any id),H,I.kept hk',rfl,q⟩
end
end L2
namespace L2
open PySem PySem.Spec PyProof.Rows PySem.SeqAt
section
variable {X:Cx}
theorem DGet.s {H:Hp}{a:Addr}{kvs:List (Key × V)}{k:Str}{v:V}(e:H a=some (.dK kvs)) (h:valV kvs (Sum.inr k)=some v):DGet H a (.str k) (some v):=by
 rw [← h];exact DGet.k (k:=Sum.inr k) e
theorem DGet.o {H:Hp}{a:Addr}{kvs:List (Key × V)}{k:Str}(e:H a=some (.dK kvs)):DGet H a (.str k) (valV kvs (Sum.inr k)):=DGet.k (k:=Sum.inr k) e
theorem DPut.s {H:Hp}{a:Addr}{kvs:List (Key × V)}{k:Str}{v:V}(e:H a=some (.dK kvs)) (hl:kvs.length < sizeLine):DPut H a (.str k) v (upd H a (.dK (putK kvs (Sum.inr k) v))):=DPut.k (k:=Sum.inr k) e hl
def rIndex:V→List V→Hp→VK→Prop:=fun x vs H Q=>∃ l,x = .ref l∧∃ k,vs=[.str k]∧∃ ks:List Str,H l=some (.lst (ks.map V.str))∧∃ j:Nat,ks[j]? = some k∧(∀ m,m < j→ks[m]? ≠ some k)∧Q (.int j) H
theorem mt_index:MtM X "list.index" rIndex:=by
 intro pins s σ H x vs v us Q I rx rv h
 obtain ⟨l,rfl,k,rfl,ks,hH,j,hj,hno,q⟩:=h
 cases rx
 obtain ⟨u,rfl,tk,rfl⟩:=rv.one
 obtain ⟨z,its,n,r,hl,e⟩:=I.lstM hH
 have hjl:j < ks.length:=(List.getElem?_eq_some_iff.mp hj).1
 have hl':ks.length=its.length:=by simpa using hl
 have h24:=z0x
 have hz:ks.length≤sizeLine:=by simpa using z
 have at_:∀ m (hm:m < its.toArray.size),∃ t,its.toArray[m] = .str (ks[m]'(by simp at hm;omega)) t:=fun m hm=>by
  have hm':m < ks.length:=by simp at hm;omega
  obtain ⟨w',e1,q1⟩:=r.get (i:=m) (x:=.str ks[m]) (by simp [hm'])
  have:its[m]? = some (its.toArray[m]):=by simp at hm;simp [hm]
  rw [this] at e1
  cases e1
  exact q1
 refine call_meets F.slot_list_index ⟨_,e,rfl⟩ F.entry_list_index (F.args_list_index_2 _ _) (SeqAt.list_indexAt l its.toArray n none #[] (.str k tk) (fun v=>match v with | .str y _=>y == k|_=>false) j (by simp;omega) (by omega) ?_ ?_) ⟨e,?_,?_⟩
 ·obtain ⟨t,e1⟩:=at_ j (by simp;omega)
  rw [e1]
  have:ks[j]=k:=by rw [List.getElem?_eq_getElem hjl] at hj;exact Option.some.inj hj
  simp [this]
 ·intro m hm hmj
  obtain ⟨t,e1⟩:=at_ m hm
  rw [e1]
  have hm':m < ks.length:=by omega
  have:=hno m hmj
  rw [List.getElem?_eq_getElem hm'] at this
  simp only
  exact beq_eq_false_iff_ne.mpr fun z=>this (by rw [z])
 ·intro y hy
  obtain ⟨m,hm,rfl⟩:=Array.mem_iff_getElem.mp hy
  obtain ⟨t,e1⟩:=at_ m hm
  rw [e1]
  exact SeqAt.EqAt.str_str _ _ _ _
 ·exact ⟨.int j,H,I.tok _,⟨_,rfl⟩,q⟩
def Itv (a:Addr) (n:Nat):It:=⟨fun i H=>∃ xs x,H a=some (.lst xs)∧i < n∧xs[n - 1 - i]? = some x,fun i H x H'=>H' = H∧∀ xs,H a=some (.lst xs)→xs[n - 1 - i]? = some x,fun i _=>i=n⟩
theorem turn_rev {P:Program}{w:World}{K:PySem.W.Frag}{tg:Expr}(a it:Addr) (n:Nat):Turn P w K tg (Itv a n) [it] it (fun i h=>i≤n∧h.IsRevIter it a ((n:Int) - 1 - (i:Int))) where
 mem:=by simp
 obj:=fun i h st b hb=>by
  have e:b=it:=by simpa using hb
  subst e
  obtain ⟨o,e,c,d⟩:=st.2
  exact ⟨o,e,fun v z=>by rw [d] at z;cases z⟩
 keep:=fun i h h' st k=>⟨st.1,st.2.at fun o e=>k it (by simp) o e⟩
 item:=by
  intro X hP hw hK hc i pins s σ H E I hf st hg
  subst hP hw hK
  obtain ⟨xs,x,hq,hi,hx⟩:=hg
  obtain ⟨its,rv,p,hz⟩:=I.list (SqL.of hq)
  obtain ⟨u,hu,ru⟩:=rv.get hx
  obtain ⟨f0,f1,f2,f3,f4,f5⟩:=hf it (by simp)
  have e:((n:Int) - 1 - (i:Int))=((n - 1 - i:Nat):Int):=by omega
  have st2:=st.2
  rw [e] at st2
  refine wpAny_pyNext_rev_item st2 p.isList (x:=u) (by simpa using hu) fun h' st' sb=>?_
  have I1:Inv X pins σ H { s with heap:=h' }:=I.turned (t':=s.toks) (fun b o hb e=>(sb.2 b hb).trans e) f0 f1 f3 f4 f5
  have e2:(((n - 1 - i:Nat):Int) - 1)=((n:Int) - 1 - ((i+1:Nat):Int)):=by omega
  rw [e2] at st'
  obtain ⟨o,e,c,d⟩:=id st'
  exact ⟨u,rfl,go_of (s:={ s with heap:=h' }) e c d (by decide) ⟨x,H,I1,ru,⟨rfl,fun ys hy=>by rw [hq] at hy;cases hy;exact hx⟩,⟨hi,st'⟩,fun b hb=>(hf b hb).1⟩⟩
 done:=by
  intro X hP hw hK hc i pins s σ H E I hf st hg
  subst hP hw hK
  have hg':i=n:=hg
  subst hg'
  obtain ⟨f0,f1,f2,f3,f4,f5⟩:=hf it (by simp)
  have st2:=st.2
  rw [show ((i:Int) - 1 - (i:Int)) = -1 by omega] at st2
  exact wpAny_pyNext_rev_end (I.ok.hd hc) st2 fun h' eb=>⟨rfl,I.turned (t':=s.toks) (fun b o hb e=>eb b o hb e) f0 f1 f3 f4 f5⟩
 self:=fun _ _ _ _ _ st h=>wpAny_pyIter_revIter st.2 h
def iRev (tl:TE):TI:=fun σ H R=>tl σ H fun x H1=>∃ a,x = .ref a∧∃ xs,H1 a=some (.lst xs)∧R (Itv a xs.length) H1
theorem pi_rev {tg l:Expr}{tl:TE}{p2 p3:Pos}(hgR:Gl X "reversed") (hmR:X.mg "reversed" = none) (hl:PE X l tl) (hs2:starEach [l] X.env=[(false,eval l X.env)]:=by rfl):PI X tg (.Call (.Name "reversed" p2) [l] [] p3) (iRev tl):=by
 intro pins s σ H R I h
 refine wpAny_Call_Name_kw (z5s I hgR hmR PyProof.Rows.boot_reversed ?_)
 refine PyProof.Rows.callWith_type1 ?_ hs2 rfl
 rw [hs2]
 show wpAny _ _ (spliced ((false,eval l X.env)::[])) _ _ s
 refine Calls.spliced_cons (thn (hl pins s σ H _ I h) fun v s1 ⟨x,H1,I1,r1,q1⟩=>Calls.spliced_nil ?_)
 obtain ⟨a,rfl,xs,hq,q⟩:=q1
 cases r1
 obtain ⟨its,rv,pl,hz⟩:=I1.list (SqL.of hq)
 have hlen:=rv.length
 refine call_reversed_list pl.isList ?_
 have hn:((its.toArray.size:Nat):Int) - 1=((xs.length:Nat):Int) - 1 - ((0:Nat):Int):=by simp [hlen]
 rw [hn]
 have hit:(s1.heap.push (revObj a ((xs.length:Int) - 1 - ((0:Nat):Int)))).IsRevIter s1.heap.objs.size a ((xs.length:Int) - 1 - ((0:Nat):Int)):=⟨_,Heap.get?_push_size _ rfl,rfl,rfl⟩
 refine wpAny_pyIter_revIter hit ?_
 refine ⟨s1.heap.objs.size,[s1.heap.objs.size],_,_,H1,rfl,I1.kept (t':=s1.toks) fun b o e=>Heap.get?_push_of_some _ e,turn_rev a _ xs.length,⟨Nat.zero_le _,hit⟩,fun b hb=>?_,q⟩
 have e:b=s1.heap.objs.size:=by simpa using hb
 subst e
 exact I1.fpOk (Nat.le_refl _) I1.fresh
end
end L2
namespace L2
open PySem PySem.Spec PyProof.Rows PySem.SeqAt
section
variable {X:Cx}
theorem Inv.turnsLaid {pins:List (Addr × Obj)}{σ:St}{H:Hp}{s:Shared}{h':Heap}{ch:List Addr}{a:Addr}{o:HO}{t':Nat}(I:Inv X pins σ H s) (k:∀ b u,b∉ch→s.heap.get? b=some u→h'.get? b=some u) (f:∀ b∈ch,FpOk X pins H b) (hp:s.heap.objs.size≤a)
  (new:ObjOk X.prog X.w (upd H a o) h' a o):Inv X pins σ (upd H a o) { s with heap:=h',toks:=t' }:=by
 have hn:H a=none:=I.hok.fresh hp
 have ne:∀ b u,s.heap.get? b=some u→b≠a:=fun b u e=>Nat.ne_of_lt (Nat.lt_of_lt_of_le (Heap.lt_size e) hp)
 have nch:∀ b u,H b=some u→b∉ch:=fun b u e z=>by rw [(f b z).1] at e;cases e
 refine I.step (g':=s.gens) (d':=s.drawn) (ch:=ch) (fun b hb=>?_) (fun b u _ _ hc e _=>k b u hc e) (fun b u _ _ hc e _=>⟨u.slots,k b u hc e⟩) (fun b u _ e n=>by rw [z0i (ne b u e)];exact n)
  (fun b u hc e=>⟨u,k b u hc e⟩) (fun b xs e=>by rw [z0i (z0u e hn)];exact e) (fun b u v e=>by rw [z0i (z0u e hn)];exact e) (fun b ps e=>⟨#[],by rw [z0i (z0u e hn),e];simp⟩) (fun m hm=>?_) (fun b u e=>?_) I.bare
 ·obtain ⟨_,f1,_,f3,f4,f5⟩:=f b hb
  exact ⟨f3,f1,f4,f5⟩
 ·obtain ⟨o',es,ep,ho,r⟩:=hm
  exact ⟨o',es,ep,k _ o' (fun z=>(f _ z).2.1 rfl) ho,r⟩
 ·by_cases hb:b=a
  ·subst hb;rw [z0l] at e;cases e;exact new
  ·rw [z0i hb] at e
   refine (I.hok b u e).stay (fun c v hc q=>k c v ?_ q) (fun c q=>by rw [z0i (z0u q hn)];exact q) fun c xs q=>by rw [z0i (z0u q hn)];exact q
   rcases hc with z|z
   ·rw [z];exact nch b u e
   ·exact nch c _ z
theorem Inv.turneds {pins:List (Addr × Obj)}{σ:St}{H:Hp}{s:Shared}{h':Heap}{ch:List Addr}{t':Nat}(I:Inv X pins σ H s) (k:∀ b u,b∉ch→s.heap.get? b=some u→h'.get? b=some u) (f:∀ b∈ch,FpOk X pins H b):Inv X pins σ H { s with heap:=h',toks:=t' }:=by
 have nch:∀ b u,H b=some u→b∉ch:=fun b u e z=>by rw [(f b z).1] at e;cases e
 refine I.step (g':=s.gens) (d':=s.drawn) (ch:=ch) (fun b hb=>?_) (fun b u _ _ hc e _=>k b u hc e) (fun b u _ _ hc e _=>⟨u.slots,k b u hc e⟩) (fun b u _ _ n=>n)
  (fun b u hc e=>⟨u,k b u hc e⟩) (fun b xs e=>e) (fun b u v e=>e) (fun b ps e=>⟨#[],by rw [e];simp⟩) (fun m hm=>?_) (fun b u e=>?_) I.bare
 ·obtain ⟨_,f1,_,f3,f4,f5⟩:=f b hb
  exact ⟨f3,f1,f4,f5⟩
 ·obtain ⟨o',es,ep,ho,r⟩:=hm
  exact ⟨o',es,ep,k _ o' (fun z=>(f _ z).2.1 rfl) ho,r⟩
 ·refine (I.hok b u e).stay (fun c v hc q=>k c v ?_ q) (fun c q=>q) fun c xs q=>q
  rcases hc with z|z
  ·rw [z];exact nch b u e
  ·exact nch c _ z
theorem zipApart_of {n a b:Nat}(la:a < n) (lb:b < n):ZipApart (n+4) (n+2) (n+3) n (n+1) a b:=by
 constructor <;> (show (_:Nat)≠_;omega)
def Itz (a b:Addr):It :=
 ⟨fun i H=>∃ xs ys x y,H a=some (.lst xs)∧H b=some (.lst ys)∧xs[i]? = some x∧ys[i]? = some y,
 fun i H v H'=>∃ t,v = .ref t∧H t=none∧∀ xs ys,H a=some (.lst xs)→H b=some (.lst ys)→∃ x y,xs[i]? = some x∧ys[i]? = some y∧H' = upd H t (.tup [x,y]),
 fun i H=>∃ xs ys,H a=some (.lst xs)∧H b=some (.lst ys)∧(xs[i]? = none∨ys[i]? = none)⟩
theorem turn_zip {P:Program}{w:World}{K:PySem.W.Frag}{elts:List Expr}{x1:Nat}{pos:Pos}{l1 l2 z TI TO i1 i2:Addr}(D:ZipApart z TI TO i1 i2 l1 l2) (nd:z≠TO) :
  Turn P w K (.Tuple elts x1 pos) (Itz l1 l2) [z,TI,TO,i1,i2] z (fun i h=>IsZip h z TI TO .none∧IsPair h TI (.ref i1) (.ref i2)∧(∃ a b,IsPair h TO a b)∧h.IsListIter i1 l1 i∧h.IsListIter i2 l2 i) where
 mem:=by simp
 obj:=fun i h st b hb=>by
  obtain ⟨h1,h2,⟨c,d,h3⟩,⟨o4,e4,c4,d4⟩,⟨o5,e5,c5,d5⟩⟩:=st
  simp only [List.mem_cons,List.not_mem_nil,or_false] at hb
  rcases hb with rfl|rfl|rfl|rfl|rfl
  ·exact ⟨_,h1,fun v z=>by cases z⟩
  ·exact ⟨_,h2,fun v z=>by cases z⟩
  ·exact ⟨_,h3,fun v z=>by cases z⟩
  ·exact ⟨_,e4,fun v z=>by rw [d4] at z;cases z⟩
  ·exact ⟨_,e5,fun v z=>by rw [d5] at z;cases z⟩
 keep:=fun i h h' ⟨h1,h2,⟨c,d,h3⟩,h4,h5⟩ k=>⟨k z (by simp) _ h1,k TI (by simp) _ h2,⟨c,d,k TO (by simp) _ h3⟩,h4.at fun o e=>k i1 (by simp) o e,h5.at fun o e=>k i2 (by simp) o e⟩
 item:=by
  intro X hP hw hK hc i pins s σ H E I hf st hg
  subst hP hw hK
  obtain ⟨h1,h2,⟨c,d,h3⟩,h4,h5⟩:=st
  obtain ⟨xs,ys,x,y,ha,hb,hx,hy⟩:=hg
  obtain ⟨us,ru,pu,_⟩:=I.list (SqL.of ha)
  obtain ⟨ws,rw',pw,_⟩:=I.list (SqL.of hb)
  obtain ⟨ux,ex,rx⟩:=ru.get hx
  obtain ⟨uy,ey,ry⟩:=rw'.get hy
  refine wpAny_pyNext_zip_item D h1 h2 h3 h4 h5 pu.isList pw.isList (x:=ux) (y:=uy) (by simpa using ex) (by simpa using ey) fun h' a1 a2 a3 a4 a5 a6 a7=>?_
  have I1:Inv X pins σ (upd H s.heap.objs.size (.tup [x,y])) { s with heap:=h' }:=I.turnsLaid (t':=s.toks) (ch:=[z,TO,i1,i2]) (fun b u hb e=>a7 b u (fun q=>hb (by simp [q])) (fun q=>hb (by simp [q])) (fun q=>hb (by simp [q])) (fun q=>hb (by simp [q])) e)
   (fun b hb=>hf b (by simp at hb;rcases hb with h|h|h|h <;> simp [h])) (Nat.le_refl _) (show ObjOk X.prog X.w _ h' _ (.tup [x,y]) from ⟨by show 2≤sizeLine;decide,[ux,uy],.cons rx (.cons ry .nil),⟨_,a5,rfl,_,rfl⟩⟩)
  have hfr:=I.fresh
  have old:∀ b∈[z,TI,TO,i1,i2],upd H s.heap.objs.size (.tup [x,y]) b=none:=fun b hb=>by
   rw [upd_none]
   refine ⟨fun e=>?_,(hf b hb).1⟩
   have ob:∃ o,s.heap.get? b=some o:=by
    obtain ⟨o4,e4,_⟩:=h4
    obtain ⟨o5,e5,_⟩:=h5
    simp only [List.mem_cons,List.not_mem_nil,or_false] at hb
    rcases hb with rfl|rfl|rfl|rfl|rfl
    ·exact ⟨_,h1⟩
    ·exact ⟨_,h2⟩
    ·exact ⟨_,h3⟩
    ·exact ⟨_,e4⟩
    ·exact ⟨_,e5⟩
   obtain ⟨o,eo⟩:=ob
   exact absurd (Heap.lt_size eo) (by rw [e];exact Nat.lt_irrefl _)
  refine ⟨_,rfl,wpAny_letOwnedTupleGo_zip (s:={ s with heap:=h' }) a1 fun h2' b1 b2=>?_⟩
  obtain ⟨_,f1,f2,f3,f4,f5⟩:=hf z (by simp)
  have I2:Inv X pins σ (upd H s.heap.objs.size (.tup [x,y])) { s with heap:=h2' }:=I1.turned (t':=s.toks) (fun b o hb e=>(b2.2 b hb).trans e) (old z (by simp)) f1 f3 f4 f5
  refine ⟨.ref s.heap.objs.size,_,I2,rfl,⟨_,rfl,hfr,fun xs' ys' q1 q2=>?_⟩,⟨b1,?_,⟨ux,uy,?_⟩,a3.at fun o e=>(b2.2 i1 D.i1z).trans e,a4.at fun o e=>(b2.2 i2 D.i2z).trans e⟩,old⟩
  ·rw [ha] at q1;cases q1
   rw [hb] at q2;cases q2
   exact ⟨x,y,hx,hy,rfl⟩
  ·exact (b2.2 TI D.TIz).trans (a7 TI _ D.TIz D.TITO D.TIi1 D.TIi2 h2)
  ·exact (b2.2 TO D.TOz).trans a2
 done:=by
  intro X hP hw hK hc i pins s σ H E I hf st hg
  subst hP hw hK
  obtain ⟨h1,h2,⟨c,d,h3⟩,h4,h5⟩:=st
  obtain ⟨xs,ys,ha,hb,hend⟩:=hg
  obtain ⟨us,ru,pu,_⟩:=I.list (SqL.of ha)
  obtain ⟨ws,rw',pw,_⟩:=I.list (SqL.of hb)
  refine wpAny_pyNext_zip_end (I.ok.hd hc) D h1 h2 h3 h4 h5 pu.isList pw.isList ?_ fun h' hk=>⟨rfl,I.turneds (t':=s.toks) (ch:=[z,TO,i1,i2]) (fun b u hb e=>hk b u (fun q=>hb (by simp [q])) (fun q=>hb (by simp [q])) (fun q=>hb (by simp [q])) (fun q=>hb (by simp [q])) e) (fun b hb=>hf b (by simp at hb;rcases hb with h|h|h|h <;> simp [h]))⟩
  rcases hend with e|e
  ·exact .inl (by simpa using Vals.none_of ru e)
  ·exact .inr (by simpa using Vals.none_of rw' e)
 self:=fun _ _ _ _ _ st h=>wpAny_pyIter_zip st.1 h
def iZip (ta:TA):TI:=fun σ H R=>ta σ H fun vs H1=>∃ a b,vs=[.ref a,.ref b]∧∃ xs,H1 a=some (.lst xs)∧∃ ys,H1 b=some (.lst ys)∧R (Itz a b) H1
theorem pi_zip {elts:List Expr}{x1:Nat}{pt:Pos}{e1 e2:Expr}{ta:TA}{p pos:Pos}(hg:Gl X "zip") (hm:X.mg "zip" = none) (ha:PA X [e1,e2] ta) (hs:starEach [e1,e2] X.env=(false,eval e1 X.env)::starEach [e2] X.env:=by rfl) (hpl:(backTo pos (starEach [e2] X.env)).any (·.1)=false:=by rfl) :
  PI X (.Tuple elts x1 pt) (.Call (.Name "zip" p) [e1,e2] [] pos) (iZip ta):=by
 intro pins s σ H R I h
 refine wpAny_Call_Name_kw (z5s I hg hm PyProof.Rows.boot_zip ?_)
 refine PyProof.Rows.callWith_type1 (thn (ha pos pins s σ H _ I h) fun us s1 ⟨vs,H1,I1,r1,q1⟩=>?_) hs hpl
 obtain ⟨a,b,rfl,xs,hA,ys,hB,q⟩:=q1
 obtain ⟨u,w',rfl,ru,rw'⟩:=vals2 r1
 cases ru
 cases rw'
 obtain ⟨us,ru,pu,_⟩:=I1.list (SqL.of hA)
 obtain ⟨ws,rw',pw,_⟩:=I1.list (SqL.of hB)
 obtain ⟨oa,ea,_⟩:=id pu.isList
 obtain ⟨ob,eb,_⟩:=id pw.isList
 have la:=Heap.lt_size ea
 have lb:=Heap.lt_size eb
 refine call_zip_2 pu.isList pw.isList fun h' z1 z2 z3 z4 z5 z6 z7=>wpAny_pyIter_zip z1 ?_
 have D:ZipApart (s1.heap.objs.size+4) (s1.heap.objs.size+2) (s1.heap.objs.size+3) s1.heap.objs.size (s1.heap.objs.size+1) a b:=zipApart_of la lb
 refine ⟨s1.heap.objs.size+4,_,_,_,H1,rfl,I1.kept (t':=s1.toks) z7,turn_zip D (by show (_:Nat)≠_;omega),⟨z1,z2,⟨_,_,z3⟩,z4,z5⟩,fun c hc=>?_,q⟩
 have hge:s1.heap.objs.size≤c:=by
  simp only [List.mem_cons,List.not_mem_nil,or_false] at hc
  rcases hc with rfl|rfl|rfl|rfl|rfl
  ·exact Nat.le_add_right _ _
  ·exact Nat.le_add_right _ _
  ·exact Nat.le_add_right _ _
  ·exact Nat.le_refl _
  ·exact Nat.le_add_right _ _
 exact I1.fpOk hge (I1.hok.fresh hge)
end
end L2
namespace L2
open PySem PySem.Spec PyProof.Rows
structure CScopeG (osc:Scope) (N:List Str) (xs:List Str) (sc:Scope) (M:List Str):Prop where
 kind:sc.kind = .function
 cell:∀ y∈sc.names,y.2 ≠ .cell
 names:∀ y∈sc.names,y.2 = .local→sc.names.lookup y.1=some .local
 free:∀ y∈sc.names,y.2 = .free→osc.names.lookup y.1=some .cell∨osc.names.lookup y.1=some .free
 ok:namesOk sc N M=true
def tCompG (n:Nat) (wi:TI) (g:TG) (tc:TT) (te:TE):TE:=fun σ H Q=>wi σ H fun J H1=>∀ D,H1 D=none→∃ W:Nat→Nat→List V→Hp→Prop,(∃ m,W 0 m [] (upd H1 D (.lst [])))∧∀ i m ys H2,W i m ys H2 →
 H2 D=some (.lst ys)∧((J.stop i H2∧Q (.ref D) H2)∨(J.go i H2∧∃ N:List V→Hp→Prop,(∀ ys' H',N ys' H'→∃ m',m' < m∧W (i+1) m' ys' H')∧∀ v H3,J.yld i H2 v H3→∀ τ:L2.St,τ.length=n→g v (τ ++ σ) H3 fun σ4 H4=>(∃ τ':L2.St,τ'.length=n∧σ4=τ' ++ σ)∧tc σ4 H4 fun b H5=>if b=true then te σ4 H5 fun y H6=>H6 D=some (.lst ys)∧ys.length < sizeLine∧N (ys ++ [y]) (upd H6 D (.lst (ys ++ [y])))
   else N ys H5))
theorem z5i {prog:Program}{w:World}{A:Around}{R:Result→Shared→Prop}{s:Shared}{elt target iter:Expr}{ifs:List Expr}{scope:Scope}{pos:Pos}{it acc:Value}{env:Env}(I:Nat→Shared→Prop)
  (turn:∀ n s,I n s→wpAny (model prog w) A (pyNext it) (fun r s₁=>match r with
   |none=>R (.ok .next) s₁
   |some v=>wpAny (model prog w) A (letOwnedTupleGo target it v >>= fun _=>assign target env v) (fun _ s₂ =>
     wpAny (model prog w) A (forIn ifs true fun c r=>if r=true then do let ok ← isTrue c env (eval c env);pure (ForInStep.yield ok) else pure (ForInStep.yield r)) (fun ok s₃ =>
      if ok=true then wpAny (model prog w) A (eval elt env) (fun x s₄ =>
       wpAny (model prog w) A (call (.builtin "list.append") [acc,x]) (fun _ s₅=>∃ m,m < n∧I m s₅) (notedBy (model prog w) A env fun e s'=>R (.error e) s') s₄) (notedBy (model prog w) A env fun e s'=>R (.error e) s') s₃
      else ∃ m,m < n∧I m s₃) (notedBy (model prog w) A env fun e s'=>R (.error e) s') s₂) (notedBy (model prog w) A env fun e s'=>R (.error e) s') s₁) (notedBy (model prog w) A env fun e s'=>R (.error e) s') s)
  (n:Nat) (h:I n s) :
  codeAny (model prog w) A (.compLoop (.ListComp elt [⟨target,iter,ifs,0⟩] scope pos) 0 it acc env) R s:=by
 refine codeAny_loop rfl I (fun n s hI=>?_) n h
 show wpAny _ A ((compTurn (.ListComp elt [⟨target,iter,ifs,0⟩] scope pos) 0 it acc env).onRaise (fun x=>do noteFrame x env;theTreesLotGoes x)) _ _ s
 refine wpAny_noted ?_
 rw [compTurn_list]
 refine wpAny_bind (wpAny_standAt (wpAny_bind (wpAny_mono (turn n s hI) (fun r s₁ h₁=>?_) fun _ _ h'=>h')))
 cases r with
 |none=>exact wpAny_pure h₁
 |some v =>
  show wpAny _ A (letOwnedTupleGo target it v >>= fun _=>assign target env v >>= _) _ _ s₁
  rw [← bind_assoc]
  refine wpAny_bind (wpAny_mono h₁ (fun _ s₂ h₂=>wpAny_bind (wpAny_mono h₂ (fun ok s₃ h₃=>?_) fun _ _ h'=>h')) fun _ _ h'=>h')
  cases ok with
  |false=>exact wpAny_pure ⟨rfl,h₃⟩
  |true =>
   exact wpAny_bind (wpAny_bind (wpAny_mono h₃ (fun x s₄ h₄=>wpAny_bind (wpAny_mono h₄ (fun _ s₅ h₅=>wpAny_pure (wpAny_pure ⟨rfl,h₅⟩)) fun _ _ h'=>h')) fun _ _ h'=>h'))
section
variable {X:Cx}
theorem comp_runG {elt iter tg:Expr}{xs:List Str}{pos:Pos}{ifs:List Expr}{sc:Scope}{M:List Str}{pins:List (Addr × Obj)}{σ:L2.St}{H2:Hp}{s2:Shared}{it:Addr}{fp:List Addr}{tn:Nat→Heap→Prop}{J:It}{g:TG}{tc:TT}{te:TE}{Q:VK}
  {RR:Value→Addr→Result→Shared→Prop}{E:Value→Shared→Prop}
  (hc:X.calm=true) (hg:∀ pins ex H₀ s₀ C,PG (z3s X sc (xs ++ M) pins ex H₀ s₀ C) tg g) (S:CScopeG X.env.scope X.N xs sc M)
  (ht:∀ pins ex H₀ s₀ C,PF (z3s X sc (xs ++ M) pins ex H₀ s₀ C) ifs tc) (he:∀ pins ex H₀ s₀ C,PE (z3s X sc (xs ++ M) pins ex H₀ s₀ C) elt te)
  (I2:Inv X pins σ H2 s2) (T:Turn X.prog X.w X.K tg J fp it tn) (st2:tn 0 s2.heap) (f2:∀ b∈fp,FpOk X pins H2 b)
  (hw:∀ D,H2 D=none→∃ W:Nat→Nat→List V→Hp→Prop,(∃ m,W 0 m [] (upd H2 D (.lst [])))∧∀ i m ys H2,W i m ys H2 →
   H2 D=some (.lst ys)∧((J.stop i H2∧Q (.ref D) H2)∨(J.go i H2∧∃ N:List V→Hp→Prop,(∀ ys' H',N ys' H'→∃ m',m' < m∧W (i+1) m' ys' H')∧∀ v H3,J.yld i H2 v H3→∀ τ:L2.St,τ.length=xs.length→g v (τ ++ σ) H3 fun σ4 H4=>(∃ τ':L2.St,τ'.length=xs.length∧σ4=τ' ++ σ)∧tc σ4 H4 fun b H5=>if b=true then te σ4 H5 fun y H6=>H6 D=some (.lst ys)∧ys.length < sizeLine∧N (ys ++ [y]) (upd H6 D (.lst (ys ++ [y])))
   else N ys H5)))
  (hRR:∀ (D C:Addr) (s':Shared) (H':Hp) (m:Str→Option Value),Inv X pins σ H' s'→s'.heap.Ns C m→H' C=none→s2.heap.objs.size≤C→Q (.ref D) H'→RR (.ref D) C (.ok .next) s') :
  wpAny (model X.prog X.w) X.A (newList []) (fun acc s₃=>wpAny (model X.prog X.w) X.A (newFunctionEnv sc X.env.globals (z6h sc.names X.env.cells []) [] X.env.qual none .none (some X.env)) (fun cenv s₄ =>
   codeAny (model X.prog X.w) X.A (.compStart (.ListComp elt [⟨tg,iter,ifs,0⟩] sc pos) 0 (.ref it) acc { cenv with scope:=relabel sc X.env }) (RR acc cenv.locals) s₄) E s₃) E s2:=by
 obtain ⟨W,⟨m0,w0⟩,turn⟩:=hw s2.heap.objs.size I2.fresh
 have hfreeC:∀ y∈sc.names,y.2 = .free→∃ c,X.env.cells.lookup y.1=some c:=fun y hy hf=>I2.ok.has y.1 (S.free y hy hf)
 have clk:∀ {y:Str}{c:Addr},(z6h sc.names X.env.cells []).lookup y=some c→X.env.cells.lookup y=some c:=fun {y c} e=>z9e sc.names [] hfreeC (fun z=>by cases z) e
 obtain ⟨nlen,nget⟩:=namesOk.get S.ok
 have I3:Inv X pins σ (upd H2 s2.heap.objs.size (.lst [])) { s2 with heap:=s2.heap.push { cls:=.type "list",data:=.seq ([]:List Value).toArray } }:=I2.lnew (its:=[]) (t':=s2.toks) .nil (Nat.zero_le _)
 refine wpAny_newObj_type ?_
 generalize hs3:({ s2 with heap:=s2.heap.push { cls:=.type "list",data:=.seq ([]:List Value).toArray } }:Shared)=s3 at I3
 have e3:s3.heap=s2.heap.push { cls:=.type "list",data:=.seq ([]:List Value).toArray }:=by rw [← hs3]
 have sz3:s3.heap.objs.size=s2.heap.objs.size+1:=by rw [e3,Heap.size_push]
 have up3:∀ b o,s2.heap.get? b=some o→s3.heap.get? b=some o:=fun b o e=>by rw [e3];exact Heap.get?_push_of_some _ e
 have st3:tn 0 s3.heap:=T.keep _ _ _ st2 fun b _ o e=>up3 b o e
 have fpL:∀ b∈fp,b < s2.heap.objs.size:=fun b hb=>let ⟨_,e,_⟩:=T.obj _ _ st2 b hb;Heap.lt_size e
 have f3:∀ b∈fp,FpOk X pins (upd H2 s2.heap.objs.size (.lst [])) b:=fun b hb=>⟨by rw [z0i (Nat.ne_of_lt (fpL b hb))];exact (f2 b hb).1,(f2 b hb).2⟩
 show wpAny _ _ (newFunctionEnv sc X.env.globals (z6h sc.names X.env.cells []) [] X.env.qual none .none (some X.env)) _ _ s3
 refine wpAny_newFunctionEnv S.cell (by intro y hy;simp at hy) (fun h₁ hns₁ hsb₁=>?_) S.kind
 have old:∀ b o,s3.heap.get? b=some o→h₁.get? b=some o:=fun b o e=>hsb₁.extBut b o (Nat.ne_of_lt (Heap.lt_size e)) (Heap.get?_push_of_some _ e)
 have cellLt:∀ {y:Str}{c:Addr},X.env.cells.lookup y=some c→c < s3.heap.objs.size:=fun {y c} e=>let ⟨_,z⟩:=I3.cell y c e;z.lt
 have locLt:=I3.lt
 generalize hC:s3.heap.objs.size=C at hns₁ hsb₁ cellLt locLt ⊢
 have hle:s2.heap.objs.size≤C:=by rw [← hC,sz3];exact Nat.le_succ _
 let X':Cx:=z3s X sc (xs ++ M) pins fp (upd H2 s2.heap.objs.size (.lst [])) s3 C
 have ok':X'.Ok:={
  mod:=I3.ok.mod
  kind:=S.kind
  glob:=I3.ok.glob
  blt:=I3.ok.blt
  above:=Nat.le_of_eq hC
  inj:=fun y z c e1 e2=>I3.ok.inj y z c (clk e1) (clk e2)
  has:=fun y hy=>by
   have hf:sc.names.lookup y=some .free:=by
    rcases hy with hy|hy
    ·rcases z6u hy with q|⟨_,q⟩
     ·exact absurd rfl (S.cell _ (z5b q))
     ·exact q
    ·rcases z6u hy with q|⟨q,_⟩
     ·exact q
     ·cases q
   exact Option.isSome_iff_exists.mp (y1i sc.names [] (.inl (z5b hf)))
  cab:=fun y c h _=>by cases h
  hd:=I3.ok.hd
  frames:=I3.ok.frames
  stk:=.inl rfl
  exf:=fun b hb=>⟨Nat.ne_of_lt (Nat.lt_of_lt_of_le (fpL b hb) hle),fun y c e=>(f3 b hb).2.2.2.2.1 y c (clk e)⟩
  bs:=I3.bs
  bsz:=Nat.le_trans I3.ok.bsz I3.sz
  noex:=fun b o e hb=>by
   rcases (f3 b hb).2.2.2.1 with z|z
   ·exact I3.ok.noex b o e z
   ·exact absurd (Nat.lt_of_lt_of_le (Heap.lt_size e) (Nat.le_trans I3.ok.bsz z)) (Nat.lt_irrefl _)
  exfs:=fun b hb z=>by
   rcases List.mem_cons.mp (I3.stkSub b z) with q|q
   ·exact (f3 b hb).2.1 q
   ·exact (f3 b hb).2.2.1 q
  funs:=I3.stack
  frf:=I3.stkFree }
 have seen:∀ {h':Heap}{m:Str→Option Value},(∀ b o,s3.heap.get? b=some o→h'.get? b=some o)→∀ (i:Nat) (y:Str) (v:V),(xs ++ M)[i]? = some y→(List.replicate xs.length none ++ σ)[i]? = some (some v)→Vis (relabel sc X.env) y→∃ u,RelV v u∧Look (compEnvC sc (z6h sc.names X.env.cells []) C X.env) h' m y u:=by
  intro h' m kp i y v e1 e2 e3
  by_cases hi:i < xs.length
  ·rw [List.getElem?_append_left (by simpa using hi),List.getElem?_replicate,if_pos hi] at e2
   cases e2
  ·obtain ⟨i,rfl⟩:∃ k,i=xs.length+k:=⟨i - xs.length,by omega⟩
   have e1':M[i]? = some y:=by rw [List.getElem?_append_right (by omega)] at e1;simpa using e1
   have e2':σ[i]? = some (some v):=by rw [List.getElem?_append_right (by simp)] at e2;simpa using e2
   rcases nget i y e1' with q|⟨q1,q2⟩
   ·rcases e3 with z|z|z <;> rcases z6u z with z|⟨_,z⟩ <;> rw [q] at z <;> cases z
   ·have ofree:=S.free (y,.free) (z5b q2) rfl
    obtain ⟨mo,_,hl⟩:=I3.loc
    obtain ⟨u,r,l⟩:=hl i y v q1 e2' (by rcases ofree with z|z;exact .inr (.inl z);exact .inr (.inr z))
    refine ⟨u,r,.inr ⟨relabel_free q2,?_⟩⟩
    rcases l with ⟨z,_⟩|⟨_,c,z1,z2⟩
    ·have z':X.env.scope.names.lookup y=some .local:=z
     rcases ofree with q|q <;> rw [z'] at q <;> cases q
    ·obtain ⟨c',hc'⟩:=Option.isSome_iff_exists.mp (y1i (cells:=X.env.cells) (y:=y) sc.names [] (.inl (z5b q2)))
     have z3:=clk hc'
     rw [z1] at z3
     cases z3
     obtain ⟨o,ho,hd⟩:=z2
     exact ⟨c,hc',o,kp c o ho,hd⟩
 have I4:Inv X' [] (List.replicate xs.length none ++ σ) (upd H2 s2.heap.objs.size (.lst [])) { s3 with heap:=h₁,toks:=s3.toks+([]:List (Str × Value)).length }:={
  ok:=ok'
  os:=rfl
  bare:=I3.bare
  base:=Un.kept old
  loc:=⟨_,hns₁,fun i y v e1 e2 e3=>seen old i y v e1 e2 e3⟩
  cell:=fun y c e=>by
   obtain ⟨v,o,ho,hd⟩:=I3.cell y c (clk e)
   exact ⟨v,o,old c o ho,hd⟩
  free:=I3.hok.fresh (Nat.le_of_eq hC)
  freeC:=fun y c e=>I3.freeC y c (clk e)
  pin:=fun p hp=>by
   have hp':p∈X.pn ++ pins:=by simpa [X',z3s] using hp
   obtain ⟨e,n,ne,nf,d⟩:=I3.pin p hp'
   refine ⟨old _ _ e,n,?_,fun z=>?_,d⟩
   ·exact Nat.ne_of_lt (Nat.lt_of_lt_of_le (Heap.lt_size e) (Nat.le_of_eq hC))
   ·rcases List.mem_cons.mp (I3.stkSub p.1 z) with q|q
    ·exact ne q
    ·exact nf q
  hok:=I3.hok.kept old
  len:=by
   have l3:=I3.len
   show (List.replicate xs.length none ++ σ).length=(xs ++ M).length
   rw [List.length_append,List.length_append,List.length_replicate,l3,nlen] }
 have fx:∀ {H':Hp},(∀ b∈fp,H' b=none)→∀ b∈fp,FpOk X' [] H' b:=fun hn b hb=>by
  refine ⟨hn b hb,(ok'.exf b hb).1,ok'.exfs b hb,.inl hb,(ok'.exf b hb).2,fun p hp=>?_⟩
  exact (f3 b hb).2.2.2.2.2 p (by simpa [X',z3s] using hp)
 have envE:({ newEnv sc C X.env.globals (z6h sc.names X.env.cells []) X.env.qual none .none (some X.env) builtinsNs with scope:=relabel sc X.env }:Env)=compEnvC sc (z6h sc.names X.env.cells []) C X.env:=rfl
 have loop:codeAny (model X.prog X.w) X.A (.compLoop (.ListComp elt [⟨tg,iter,ifs,0⟩] sc pos) 0 (.ref it) (.ref s2.heap.objs.size) (compEnvC sc (z6h sc.names X.env.cells []) C X.env)) (RR (.ref s2.heap.objs.size) C)
   { s3 with heap:=h₁,toks:=s3.toks+([]:List (Str × Value)).length }:=by
  refine z5i (fun n s'=>∃ i ys τ H',τ.length=xs.length∧Inv X' [] (τ ++ σ) H' s'∧tn i s'.heap∧(∀ b∈fp,H' b=none)∧W i n ys H') ?_ m0 ⟨0,[],List.replicate xs.length none,_,by simp,I4,T.keep _ _ _ st3 fun b _ o e=>old b o e,fun b hb=>(f3 b hb).1,w0⟩
  rintro n s' ⟨i,ys,τ0,H',hτ,I',st',fr',w'⟩
  obtain ⟨hD,step⟩:=turn i n ys H' w'
  rcases step with ⟨stop,q⟩|⟨go,N,hN,step⟩
  ·refine thn (T.done X' rfl rfl rfl hc i [] s' _ H' _ I' (fx fr') st' stop) fun r s5 ⟨hr,I5⟩=>?_
   subst hr
   obtain ⟨m5,hn5,_⟩:=I5.loc
   refine hRR _ C s5 H' m5 ?_ hn5 I5.free hle q
   refine I3.call' (ch:=fp) I5.os I5.base I5.hok I5.bare fun b hb=>?_
   obtain ⟨_,z1,_,z3,z4,z5⟩:=f3 b hb
   exact ⟨z3,z1,z4,z5⟩
  ·refine thn (T.item X' rfl rfl rfl hc i [] s' _ H' _ I' (fx fr') st' go) fun r s5 ⟨u,hr,h5⟩=>?_
   subst hr
   have h6:wpAny (model X.prog X.w) X.A (letOwnedTupleGo tg (.ref it) u >>= fun _=>assign tg X'.env u) (fun _ s7=>∃ (σ7:L2.St) (H7:Hp) (s6:Shared),Inv X' ([] ++ y2g fp s6.heap) σ7 H7 s7∧tn (i+1) s6.heap∧(∃ τ':L2.St,τ'.length=xs.length∧σ7=τ' ++ σ)∧tc σ7 H7 fun b H5=>if b=true then te σ7 H5 fun y H6=>H6 s2.heap.objs.size=some (.lst ys)∧ys.length < sizeLine∧N (ys ++ [y]) (upd H6 s2.heap.objs.size (.lst (ys ++ [y]))) else N ys H5)
     (notedBy (model X.prog X.w) X.A (compEnvC sc (z6h sc.names X.env.cells []) C X.env) fun e s'=>RR (.ref s2.heap.objs.size) C (.error e) s') s5:=by
    refine wpAny_bind (thn h5 fun _ s6 ⟨v,H6,I6,r6,y6,st6,fr6⟩=>?_)
    have I6':=I6.pinned (fx fr6) (T.obj _ _ st6)
    refine wpAny_mono (hg pins fp _ s3 C _ s6 _ H6 v u _ I6' r6 (step v H6 y6 τ0 hτ)) (fun _ s7 ⟨σ7,H7,I7,q7⟩=>?_) fun _ _ z=>z.elim
    exact ⟨σ7,H7,s6,I7,st6,q7⟩
   refine wpAny_mono h6 (fun _ s7 ⟨σ7,H7,s6,I7,st6,⟨τ',hτ',eσ⟩,q7⟩=>?_) fun _ _ z=>z
   subst eσ
   have again:∀ {σ8:L2.St}{H7:Hp}{s8:Shared},Inv X' ([] ++ y2g fp s6.heap) σ8 H7 s8→tn (i+1) s8.heap∧∀ b∈fp,H7 b=none:=fun {σ8 H7 s8} I8=>by
    refine ⟨T.keep _ _ _ st6 fun b hb o e=>(I8.pin (b,o) (List.mem_append_right _ (List.mem_append_right _ (z6a hb e)))).1,fun b hb=>?_⟩
    obtain ⟨o,e,d⟩:=T.obj _ _ st6 b hb
    exact (I8.pin (b,o) (List.mem_append_right _ (List.mem_append_right _ (z6a hb e)))).2.1
   refine wpAny_mono (ht pins fp _ s3 C _ s7 _ H7 _ I7 q7) (fun ok s8 ⟨H8,I8,q8⟩=>?_) fun _ _ z=>z.elim
   cases ok with
   |false =>
    rw [if_neg Bool.false_ne_true] at q8 ⊢
    obtain ⟨m',hm,w8⟩:=hN _ _ q8
    obtain ⟨t8,n8⟩:=again I8
    exact ⟨m',hm,i+1,ys,τ',H8,hτ',I8.unpinned,t8,n8,w8⟩
   |true =>
    rw [if_pos rfl] at q8 ⊢
    refine wpAny_mono (he pins fp _ s3 C _ s8 _ H8 _ I8 q8) (fun y s9 ⟨vy,H9,I9,r9,hD9,hz,q9⟩=>?_) fun _ _ z=>z.elim
    refine wpAny_mono (z1j (X:=X') _ s9 _ H9 (.ref s2.heap.objs.size) [vy] (.ref s2.heap.objs.size) [y] (fun _ H'=>H' = upd H9 s2.heap.objs.size (.lst (ys ++ [vy]))) I9 rfl (.cons r9 .nil) ⟨_,ys,vy,rfl,rfl,hD9,hz,rfl⟩) (fun _ s10 ⟨_,H10,I10,_,e10⟩=>?_) fun _ _ z=>z.elim
    subst e10
    obtain ⟨t10,n10⟩:=again I10
    obtain ⟨m',hm,w9⟩:=hN _ _ q9
    exact ⟨m',hm,i+1,ys ++ [vy],τ',_,hτ',I10.unpinned,t10,n10,w9⟩
 exact codeAny_compStart_list loop (T.self _ 0 _ _ _ (T.keep _ _ _ st3 fun b _ o e=>old b o e) loop)
theorem pe_compG {elt iter tg:Expr}(xs:List Str) {pos:Pos}{ifs:List Expr}{sc:Scope}(M:List Str) {wi:TI}{g:TG}{tc:TT}{te:TE}(hc:X.calm=true) (hg:∀ pins ex H₀ s₀ C,PG (z3s X sc (xs ++ M) pins ex H₀ s₀ C) tg g) (S:CScopeG X.env.scope X.N xs sc M) (hi:PI X tg iter wi)
  (ht:∀ pins ex H₀ s₀ C,PF (z3s X sc (xs ++ M) pins ex H₀ s₀ C) ifs tc) (he:∀ pins ex H₀ s₀ C,PE (z3s X sc (xs ++ M) pins ex H₀ s₀ C) elt te)
  (hs:∀ v,foldedSetIterable iter X.env v=pure v:=by intro _;rfl):PE X (.ListComp elt [⟨tg,iter,ifs,0⟩] sc pos) (tCompG xs.length wi g tc te):=by
 intro pins s σ H Q I h
 rw [eval_ListComp]
 refine wpAny_comprehension_free (use:=none) rfl hs (z7r fun y hy hf=>I.ok.has y.1 (S.free y hy hf)) S.kind S.names (thn (hi pins s σ H _ I h) fun v s1 h1=>thn h1 fun itv s2 h2=>?_)
 obtain ⟨it,fp,tn,J,H2,rfl,I2,T,st2,f2,hw⟩:=h2
 refine comp_runG (RR:=fun acc C=>compPost (model X.prog X.w) X.A X.xe none (EP X pins σ Q) acc C) hc hg S ht he I2 T st2 f2 hw fun D C s' H' m I' hn hC hle q=>?_
 refine ⟨m,hn,fun h' hs'=>⟨.ref D,H',?_,rfl,q⟩⟩
 have fC:=I2.fpOk (H':=H') hle hC
 exact I'.turned (t':=s'.toks) (fun b o hb e=>(hs'.2 b hb).trans e) hC fC.2.1 fC.2.2.2.1 fC.2.2.2.2.1 fC.2.2.2.2.2
theorem ps_compG {elt iter tg:Expr}{y:Str}(xs:List Str) {py pos spos:Pos}{ifs:List Expr}{sc:Scope}{j:Nat}(M:List Str) {wi:TI}{g:TG}{tc:TT}{te:TE}(hN:X.N.Nodup) (hj:X.N[j]? = some y) (hy:X.env.scope.names.lookup y=some .local) (hc:X.calm=true) (hg:∀ pins ex H₀ s₀ C,PG (z3s X sc (xs ++ M) pins ex H₀ s₀ C) tg g) (S:CScopeG X.env.scope X.N xs sc M) (hi:PI X tg iter wi)
  (ht:∀ pins ex H₀ s₀ C,PF (z3s X sc (xs ++ M) pins ex H₀ s₀ C) ifs tc) (he:∀ pins ex H₀ s₀ C,PE (z3s X sc (xs ++ M) pins ex H₀ s₀ C) elt te)
  (hsw:swapsWith (.ListComp elt [⟨tg,iter,ifs,0⟩] sc pos) (some (.Name y py)) spos.line X.env=pure true:=by rfl)
  (hs:∀ v,foldedSetIterable iter X.env v=pure v:=by intro _;rfl):PS X (.Assign [.Name y py] (.ListComp elt [⟨tg,iter,ifs,0⟩] sc pos) spos) (tAsg (tCompG xs.length wi g tc te) (gName j)):=by
 intro pins s σ H D I h
 rw [exec_Assign_Name_used _ _ _ _ hsw]
 refine wpAny_bind (wpAny_standAt (wpAny_bind ?_))
 show wpAny _ _ (do let _ ← comprehension (.ListComp elt [⟨tg,iter,ifs,0⟩] sc pos) sc X.env _ (newList []) false (eval iter X.env) (some (assign (.Name y py) X.env))) _ _ s
 refine wpAny_bind (wpAny_mono (wpAny_comprehension_free (use:=some (assign (.Name y py) X.env)) (Q:=fun _ s'=>SP X pins D .next s') rfl hs (z7r fun y hy hf=>I.ok.has y.1 (S.free y hy hf)) S.kind S.names
  (thn (hi pins s σ H _ I h) fun v s1 h1=>thn h1 fun itv s2 h2=>?_)) (fun _ s' hq=>wpAny_pure (wpAny_pure hq)) fun _ _ e=>e)
 obtain ⟨it,fp,tn,J,H2,rfl,I2,T,st2,f2,hw⟩:=h2
 refine comp_runG (Q:=fun x H1=>gName j x σ H1 D.nx) (RR:=fun acc C=>compPost (model X.prog X.w) X.A X.xe (some (assign (.Name y py) X.env)) (fun _ s'=>SP X pins D .next s') acc C) hc hg S ht he I2 T st2 f2 hw fun D' C s' H' m I' hn hC hle q=>?_
 have fC:=I2.fpOk (H':=H') hle hC
 show wpAny _ _ (assign (.Name y py) X.env (.ref D')) _ _ s'
 refine wpAny_assign_Name (store_ok2 (v:=.ref D') I' hN hj (.inl hy) rfl (fun s3 I3 ⟨a,sb,ha⟩=>?_) (.inr hy))
 have haC:C≠a:=by
  rcases ha with rfl|ha
  ·exact fC.2.1
  ·exact fun z=>fC.2.2.2.2.1 y a ha z.symm
 refine ⟨m,hn.sameBut sb haC,fun h' hs'=>⟨_,H',?_,q⟩⟩
 exact I3.turned (t':=s3.toks) (fun b o hb e=>(hs'.2 b hb).trans e) hC fC.2.1 fC.2.2.2.1 fC.2.2.2.2.1 fC.2.2.2.2.2
end
end L2
namespace L2
open PySem PySem.Spec PyProof.Rows
section
variable {X:Cx}
theorem sl_str:SlR X (fun x lo hi H Q=>∃ z,x = .str z∧z.length≤sizeLine∧Q (.str (Txt.slice z lo hi)) H):=by
 intro pins s σ H x v vl vu lo hi sl Q I rx hs pl pu h
 obtain ⟨z,rfl,hz,q⟩:=h
 obtain ⟨t,rfl⟩:=rx
 refine ⟨"str",_,F.slot_str_getitem.lookup,typeIs_str _ _ _,?_⟩
 have key:∀ (l u:Option (Int × Tok)),vl=partValue l→vu=partValue u→lo=l.map (·.1)→hi=u.map (·.1)→wpAny (model X.prog X.w) X.A (getItem (.str z t) (.ref sl)) (EP X pins σ Q) X.xe s:=by
  intro l u e1 e2 e3 e4
  subst e1 e2 e3 e4
  refine wpAny_getItem_str_slice (l:=l) (u:=u) (st:=none) hs rfl (post_val_or_str ⟨Nat.le_trans (Txt.slice_le z _ _) hz,fun t' k=>?_⟩)
  exact ⟨.str _,H,I.tok k,⟨t',rfl⟩,q⟩
 cases pl with
 |none =>
  cases pu with
  |none=>exact key none none rfl rfl rfl rfl
  |int j u=>exact key none (some (j,u)) rfl rfl rfl rfl
 |int i u' =>
  cases pu with
  |none=>exact key (some (i,u')) none rfl rfl rfl rfl
  |int j u=>exact key (some (i,u')) (some (j,u)) rfl rfl rfl rfl
theorem y2e:∀ {ts:List Str}{us:List Value},Vals (ts.map V.str) us→∃ l:List (Str × Tok),us=strValues l∧l.map (·.1)=ts
 | [],_,.nil=>⟨[],rfl,rfl⟩
 |t::ts,_,.cons r rs=>by
  obtain ⟨k,rfl⟩:=r
  obtain ⟨l,rfl,e⟩:=y2e rs
  exact ⟨(t,k)::l,rfl,by simp [e]⟩
theorem mt_join:MtR X "str.join" (fun x vs H Q=>∃ sep p,x = .str sep∧vs=[.ref p]∧∃ ts:List Str,H p=some (.lst (ts.map V.str))∧JoinOk sep ts=true∧Q (.str (Txt.join sep ts)) H):=by
 intro pins s σ H x xs v us Q I rx rs h
 obtain ⟨sep,p,rfl,rfl,ts,hp,ok,q⟩:=h
 obtain ⟨t,rfl⟩:=rx
 obtain ⟨u,rfl,ru⟩:=z8j rs
 cases ru
 obtain ⟨its,rv,pl,hz⟩:=I.list (SqL.of hp)
 obtain ⟨l,rfl,el⟩:=y2e rv
 exact SC.join pl.isList el ok fun t' k=>⟨.str _,H,I.tok k,⟨t',rfl⟩,q⟩
theorem list_nokeys:typeLookup (.type "list") "keys" = pure none:=by rw [typeLookup_type,builtinLookup_eq_fast];kernel_rfl
theorem getAttr?_miss_list {prog:Program}{w:World}{A:Around}{E:Value→Shared→Prop}{s:Shared}{a:Addr}{xs:Array Value}{k:Nat}{Q:Option Value→Shared→Prop}
  (hx:s.heap.get? a=some { cls:=.type "list",data:=.seq xs k }) (hA:A.handled=none)
  (h:∀ h' tk,(∀ b o,s.heap.get? b=some o→h'.get? b=some o)→Q none { s with heap:=h',toks:=tk }) :
  wpAny (model prog w) A (getAttr? (.ref a) "keys") Q E s:=by
 obtain ⟨hp,g,d,tk,os⟩:=s
 have hT:∀ tk',(⟨hp,g,d,tk',os⟩:Shared).TypeIs (.ref a) "list":=fun _=>⟨_,hx,rfl⟩
 have f1:=sub_AttributeError
 have f3:=F.slot_list_getattribute.lookup
 have f4:=F.slot_list_getattribute.bind (.ref a)
 have f5:=am_list_getattr_none
 unfold getAttr? getAttrBy? getAttrBy
 repeat (any_goals (first|assumption|exact hT _|((with_reducible show wpAny _ _ (call (Value.builtin "list.__getattribute__") _ _) _ _ _);refine call_meets F.slot_list_getattribute (hT _) am_entry_list_getattribute (F.args_list_getattribute_2 _ _) (meets_getattribute_miss_list a xs k #[] "keys" _ list_nokeys (by decide +kernel) (by decide +kernel)) ⟨hx,hA,fun h' tk' e hx'=>?_⟩)|wp_step))
 obtain ⟨t',u',he⟩:=hx'.there
 show wpAny _ _ (getattributeRaised _ _ _ _ _ _ _) _ _ _
 unfold getattributeRaised
 repeat (any_goals (first|assumption|wp_step))
 exact h _ _ hx'.keeps
theorem y2b:entryFor table "dict.update.loop" = some Builtin.«dict.update.loop»:=entryFor_of_tree (by kernel_rfl)
theorem z6d:plainId "dict.update.loop" = true:=by decide +kernel
theorem pairItems_tup {prog:Program}{w:World}{A:Around}{E:Value→Shared→Prop}{s:Shared}{b:Addr}{its:Array Value}{Q:List Value→Shared→Prop}(h:IsTup s.heap b its) (q:Q its.toList s):wpAny (model prog w) A (Builtin.Dict.pairItems (.ref b)) Q E s:=by
 obtain ⟨o,ho,hc,n,hd⟩:=h
 unfold Builtin.Dict.pairItems
 refine wpAny_bind (wpAny_typeOf (show s.TypeIs (.ref b) "tuple" from ⟨o,ho,hc⟩) ?_)
 have hT:s.TypeIs (.ref b) "tuple":=⟨o,ho,hc⟩
 obtain ⟨hp,g,d,tk,os⟩:=s
 unfold seqItems?
 have hd':o.data = .seq its n:=hd
 obtain ⟨c,dct,dat,sl⟩:=o
 subst hd'
 repeat (any_goals (first|assumption|wp_step))
end
end L2
namespace L2
open PySem PySem.Spec PyProof.Rows
def PairAt (h:Heap) (u:Value) (k:Key) (r:Value):Prop:=∃ b ku,u = .ref b∧IsTup h b #[ku,r]∧RelV (kV k) ku
section
variable {prog:Program}{w:World}{A:Around}{R:Result→Shared→Prop}
theorem dupd_loop {it l S:Addr}{items:Array Value}(hh:A.in1.handled=none) (hne:l≠it) (hSi:S≠it) (hSl:S≠l) (ps:List (Key × Value)) (hps:ps.length=items.size) (hps':ps.length≤sizeLine) :
  ∀ (k i:Nat) (s:Shared) (vs:List (Key × Value)),items.size - i=k→i≤items.size→s.heap.IsListIter it l i→s.heap.IsList l items→s.heap.DictOf (z2l prog w) S vs→vs.length≤i →
  (∀ (j:Nat) (kv:Key × Value) (u:Value),ps[j]? = some kv→items[j]? = some u→∃ b,u = .ref b∧b≠S∧b≠it∧PairAt s.heap u kv.1 kv.2) →
  (∀ h' tk,(∀ b o,b≠it→b≠S→s.heap.get? b=some o→h'.get? b=some o)→h'.DictOf (z2l prog w) S (merged vs (ps.drop i))→R (.ok (.ret .none)) { s with heap:=h',toks:=tk }) →
  codeAny (model prog w) A (.builtin "dict.update.loop" ⟨[.ref S,.ref it,rawInt i,.none],[]⟩) R s:=by
 intro k
 have W:=(Walks.list (prog:=prog) (w:=w) (A:=A.in1) hh it l hne items)
 induction k with
 |zero =>
  intro i s vs hk hi h1 h2 hd hvl hp hR
  have hin:i=items.size:=by omega
  subst hin
  refine codeAny_builtin y2b ?_
  rw [Around.under_plainId z6d _]
  show wpAny _ A.in1 (pyNext (.ref it) >>= _) _ _ s
  refine wpAny_bind (W.done s _ _ ⟨h1,h2⟩ fun h' tk' hm=>?_)
  show wpAny _ _ (Builtin.Dict.addKeywords S [] >>= _) _ _ _
  refine wpAny_bind (wpAny_pure (wpAny_pure (hR h' tk' (fun b o hb hb' e=>hm b o (by simpa using hb) e) ?_)))
  rw [List.drop_of_length_le (by omega)]
  obtain ⟨o,es,ep,g,rest⟩:=hd
  exact ⟨o,es,ep,hm S o (by simpa using hSi) g,rest⟩
 |succ k ih =>
  intro i s vs hk hi h1 h2 hd hvl hp hR
  have hlt:i < items.size:=by omega
  have hlt':i < ps.length:=by omega
  refine codeAny_builtin y2b ?_
  rw [Around.under_plainId z6d _]
  show wpAny _ A.in1 (pyNext (.ref it) >>= _) _ _ s
  refine wpAny_bind (W.item i s _ _ hlt ⟨h1,h2⟩ fun v h' tk' hv st' hm=>?_)
  obtain ⟨b,eb,nbS,nbi,pa⟩:=hp i ps[i] v (List.getElem?_eq_getElem hlt') hv
  obtain ⟨b',ku,e2,ht,rk⟩:=pa
  rw [eb] at e2;cases e2
  subst eb
  have kp:∀ c o,c≠it→s.heap.get? c=some o→h'.get? c=some o:=fun c o hc e=>hm c o (by simpa using hc) e
  have ht':IsTup h' b #[ku,ps[i].2]:=by obtain ⟨o,ho,r⟩:=ht;exact ⟨o,kp b o nbi ho,r⟩
  have hd':h'.DictOf (z2l prog w) S vs:=by
   obtain ⟨o,es,ep,g,rest⟩:=hd
   exact ⟨o,es,ep,kp S o hSi g,rest⟩
  show wpAny _ A.in1 (holding [Value.ref b] _ >>= _) _ _ _
  refine wpAny_bind (wpAny_holding ?_)
  refine wpAny_bind ?_
  refine wpAny_tryCatch (pairItems_tup (s:={ s with heap:=h',toks:=tk' }) ht' ?_)
  show wpAny _ A.in1 (holding [ku,ps[i].2] (dictSet S ku ps[i].2)) _ _ _
  refine wpAny_holding (wpAny_dictSet_pairs (kV_is rk) hd' (fun h2' hd2 hs2=>?_) (by omega))
  show wpAny _ A.in1 (again _) _ _ _
  refine wpAny_pure ⟨plainId_quiet z6d _,?_⟩
  have kp2:∀ c o,c≠it→c≠S→s.heap.get? c=some o→h2'.get? c=some o:=fun c o hc hc' e=>(hs2.2 c hc').trans (kp c o hc e)
  have ec:((i:Int)+1)=((i+1:Nat):Int):=by omega
  show codeAny _ _ (.builtin "dict.update.loop" ⟨[.ref S,.ref it,rawInt ((i:Int)+1),.none],[]⟩) _ _
  rw [ec]
  refine ih (i+1) _ (stored vs ps[i].1 ps[i].2) (by omega) hlt (st'.1.at fun o e=>(hs2.2 it (Ne.symm hSi)).trans e) (st'.2.at fun o e=>(hs2.2 l (Ne.symm hSl)).trans e) hd2 ?_ ?_ ?_
  ·have:(stored vs ps[i].1 ps[i].2).length≤vs.length+1:=by
    unfold stored
    split
    ·simp
    ·simp
   omega
  ·intro j kv u ej eu
   obtain ⟨c,e1,n1,n2,c',ku',e2,t2,r2⟩:=hp j kv u ej eu
   rw [e1] at e2;cases e2
   refine ⟨c,e1,n1,n2,c,ku',e1,?_,r2⟩
   obtain ⟨o,ho,r⟩:=t2
   exact ⟨o,kp2 c o n2 n1 ho,r⟩
  ·intro h3 tk3 k3 d3
   refine hR h3 tk3 (fun c o hc hc' e=>k3 c o hc hc' (kp2 c o hc hc' e)) ?_
   have e4:ps.drop i=ps[i]::ps.drop (i+1):=List.drop_eq_getElem_cons hlt'
   rw [e4]
   exact d3
end
section
variable {X:Cx}
theorem KVs_of:∀ {ps:List (Key × V)}{ys:List V}{us:List Value}{H:Hp}{h:Heap},(∀ b o,H b=some o→ObjOk X.prog X.w H h b o)→Vals ys us→ps.length=ys.length→(∀ (i:Nat) y kv,ys[i]? = some y→ps[i]? = some kv→∃ b,y = .ref b∧H b=some (.tup [kV kv.1,kv.2])) →
  ∃ qs:List (Key × Value),KV ps qs∧qs.length=ps.length∧∀ (j:Nat) kv u,qs[j]? = some kv→us[j]? = some u→∃ b,u = .ref b∧(∃ o,H b=some o)∧PairAt h u kv.1 kv.2
 | [],[],_,H,h,hok,.nil,_,_=>⟨[],.nil,rfl,fun j kv u e=>by simp at e⟩
 | [],y::ys,_,H,h,hok,_,hl,_=>by simp at hl
 |p::ps,[],_,H,h,hok,_,hl,_=>by simp at hl
 |p::ps,y::ys,_,H,h,hok,.cons (b:=u) (l₂:=us) r rs,hl,hp=>by
  obtain ⟨qs,k1,k2,k3⟩:=KVs_of (ps:=ps) (ys:=ys) (us:=us) hok rs (by simpa using hl) fun i y kv e1 e2=>hp (i+1) y kv (by simpa using e1) (by simpa using e2)
  obtain ⟨b,rfl,hb⟩:=hp 0 y p rfl rfl
  cases r
  obtain ⟨_,its,rv,ht⟩:=hok b _ hb
  obtain ⟨ku,u2,rfl,rk,ru⟩:=vals2 rv
  refine ⟨(p.1,u2)::qs,.cons ⟨rfl,ru⟩ k1,by simp [k2],fun j kv u e1 e2=>?_⟩
  cases j with
  |zero =>
   simp at e1 e2
   subst e1 e2
   exact ⟨b,rfl,⟨_,hb⟩,b,ku,rfl,ht,rk⟩
  |succ j=>exact k3 j kv u (by simpa using e1) (by simpa using e2)
theorem y0f (hc:X.calm=true):z6j X (.type "dict") (fun xs H Q=>∃ p ys,xs=[.ref p]∧H p=some (.lst ys)∧∃ ps:List (Key × V),ps.length=ys.length∧(∀ (i:Nat) y kv,ys[i]? = some y→ps[i]? = some kv→∃ b,y = .ref b∧H b=some (.tup [kV kv.1,kv.2])) ∧
  ∀ l,H l=none→Q (.ref l) (upd H l (.dK (y1u [] ps)))):=by
 intro pins s σ H xs us Q I r h
 obtain ⟨p,ys,rfl,hp,ps,hl,hpair,q⟩:=h
 obtain ⟨u,rfl,ru⟩:=z8j r
 cases ru
 obtain ⟨hz,its,nn,rv,el⟩:=I.hok p _ hp
 have hlen:=rv.length
 obtain ⟨qs,kv1,kv2,kv3⟩:=KVs_of (X:=X) I.hok rv hl hpair
 have lp:p < s.heap.objs.size:=Heap.lt_size el
 refine callType_codes (Q₁:=fun obj s₁=>obj = .ref s.heap.objs.size∧s₁ = { s with heap:=s.heap.push { cls:=.type "dict",data:=.dict #[] } }) F.kt_called_dict (F.kt_typeCall_dict_1 _) F.entry_dict_init (kt_code_dict_new _ ⟨rfl,rfl⟩) ?_
 rintro obj s₁ ⟨rfl,rfl⟩
 have hnew:(s.heap.push { cls:=.type "dict",data:=.dict #[] }).DictOf (z2l X.prog X.w) s.heap.objs.size []:=Heap.DictOf.new s.heap
 refine ⟨hnew.typeIs,F.args_dict_init_2 _ _,?_⟩
 unfold Builtin.«dict.__init__»
 refine wpAny_bind ?_
 unfold Builtin.Dict.selfAndRest
 refine wpAny_bind (wpAny_notOrdered_dict hnew.typeIs ?_)
 show wpAny _ _ (pure (s.heap.objs.size,[Value.ref p])) _ _ _
 refine wpAny_pure ?_
 show wpAny _ _ (Builtin.Dict.updateFrom "dict.__init__" s.heap.objs.size (.ref p) [] .none) _ _ _
 unfold Builtin.Dict.updateFrom
 have el1:(s.heap.push { cls:=.type "dict",data:=.dict #[] }).get? p=some { cls:=.type "list",data:=.seq its.toArray nn }:=Heap.get?_push_of_some _ el
 refine wpAny_bind (wpAny_typeOf (show Shared.TypeIs _ (.ref p) "list" from ⟨_,el1,rfl⟩) ?_)
 rw [if_pos (by decide)]
 refine wpAny_bind (getAttr?_miss_list el1 (I.ok.hd hc) fun h2 tk2 k2=>?_)
 show wpAny _ _ (rule _ >>= fun _=>pyIter (.ref p) >>= fun it=>again (Code.builtin "dict.update.loop" { pos:=[Value.ref s.heap.objs.size,it,rawInt 0,Value.none] })) _ _ _
 refine wpAny_bind (wpAny_rule ?_)
 have up1:∀ b o,s.heap.get? b=some o→h2.get? b=some o:=fun b o e=>k2 b o (Heap.get?_push_of_some _ e)
 have el2:h2.get? p=some { cls:=.type "list",data:=.seq its.toArray nn }:=up1 _ _ el
 have isl2:h2.IsList p its.toArray:=⟨_,el2,rfl,_,rfl⟩
 refine wpAny_bind (wpAny_pyIter_list (s:={ s with heap:=h2,toks:=tk2 }) isl2 ?_)
 have hS2:∃ o,h2.get? s.heap.objs.size=some o:=⟨_,k2 _ _ (Heap.get?_push_size _ rfl)⟩
 have ltS:s.heap.objs.size < h2.objs.size:=let ⟨_,e⟩:=hS2;Heap.lt_size e
 have ltp:p < h2.objs.size:=Heap.lt_size el2
 have hd2:h2.DictOf (z2l X.prog X.w) s.heap.objs.size []:=by
  obtain ⟨o,es,ep,g,rest⟩:=hnew
  exact ⟨o,es,ep,k2 _ _ g,rest⟩
 have hd3:(h2.push { cls:=.type "list_iterator",data:=.fields #[.ref p,.int 0 0] }).DictOf (z2l X.prog X.w) s.heap.objs.size []:=hd2.push _
 refine wpAny_pure ⟨plainId_quiet z6d _,?_⟩
 refine dupd_loop (A:=X.A.in1) (prog:=X.prog) (w:=X.w) (it:=h2.objs.size) (l:=p) (S:=s.heap.objs.size) (items:=its.toArray) (I.ok.hd hc) (Nat.ne_of_lt ltp) (Nat.ne_of_lt ltS) (Nat.ne_of_gt lp) qs (by simp [kv2,hl,hlen]) (by rw [kv2,hl];exact hz) _ 0 { s with heap:=h2.push { cls:=.type "list_iterator",data:=.fields #[.ref p,.int 0 0] },toks:=tk2 } [] rfl (Nat.zero_le _) ⟨_,Heap.get?_push_size _ rfl,rfl,rfl⟩ (isl2.push _) hd3 (Nat.le_refl _) ?_ ?_
 ·intro j kv u e1 e2
  obtain ⟨b,rfl,⟨o,hb⟩,b',ku,e3,t3,r3⟩:=kv3 j kv u e1 (by simpa using e2)
  cases e3
  obtain ⟨o',ho',rr⟩:=t3
  have lb:b < s.heap.objs.size:=Heap.lt_size ho'
  exact ⟨b,rfl,Nat.ne_of_lt lb,Nat.ne_of_lt (Nat.lt_trans lb ltS),b,ku,rfl,⟨o',Heap.get?_push_of_some _ (up1 _ _ ho'),rr⟩,r3⟩
 ·intro h' tk k3 d3
  refine ⟨rfl,.ref s.heap.objs.size,upd H s.heap.objs.size (.dK (y1u [] ps)),I.laid (t':=tk) (fun b o e=>?_) (Nat.le_refl _) (dk_new ?_ (beq_eq_false_iff_ne.mpr (Ne.symm (Nat.ne_of_lt I.big))) (KV.merge kv1 .nil) d3),rfl,q _ I.fresh⟩
  ·have lb:b < s.heap.objs.size:=Heap.lt_size e
   exact k3 b o (Nat.ne_of_lt (Nat.lt_trans lb ltS)) (Nat.ne_of_lt lb) (Heap.get?_push_of_some _ (up1 b o e))
  ·have:∀ (ps kvs:List (Key × V)),(y1u kvs ps).length≤kvs.length+ps.length:=by
    intro ps
    induction ps with
    |nil=>intro kvs;exact Nat.le_refl _
    |cons a r ih =>
     intro kvs
     have h1:=ih (putK kvs a.1 a.2)
     have h2:=z6t kvs a.1 a.2
     show (y1u (putK kvs a.1 a.2) r).length≤_
     simp only [List.length_cons]
     omega
   have:=this ps []
   simp at this
   omega
end
end L2
namespace L2
open PySem PySem.Spec PyProof.Rows
section
variable {X:Cx}
end
end L2
namespace L2
open PySem PySem.Spec PyProof.Rows PySem.SeqAt
section
variable {X:Cx}
def Itn (a:Addr):It :=
 ⟨fun i H=>∃ xs x,H a=some (.lst xs)∧xs[i]? = some x,
 fun i H v H'=>∃ t,v = .ref t∧H t=none∧∀ xs,H a=some (.lst xs)→∃ x,xs[i]? = some x∧H' = upd H t (.tup [.int (i:Int),x]),
 fun i H=>∃ xs,H a=some (.lst xs)∧xs[i]? = none⟩
theorem turn_enum {P:Program}{w:World}{K:PySem.W.Frag}{elts:List Expr}{x1:Nat}{pos:Pos}{l e it:Addr}(nd:e≠it) :
  Turn P w K (.Tuple elts x1 pos) (Itn l) [e,it] e (fun i h=>(∃ old,IsEnum h e it ((i:Nat):Int) old)∧h.IsListIter it l i) where
 mem:=by simp
 obj:=fun i h st b hb=>by
  obtain ⟨⟨old,h1⟩,⟨o4,e4,c4,d4⟩⟩:=st
  simp only [List.mem_cons,List.not_mem_nil,or_false] at hb
  rcases hb with rfl|rfl
  ·exact ⟨_,h1,fun v z=>by cases z⟩
  ·exact ⟨_,e4,fun v z=>by rw [d4] at z;cases z⟩
 keep:=fun i h h' ⟨⟨old,h1⟩,h4⟩ k=>⟨⟨old,k e (by simp) _ h1⟩,h4.at fun o q=>k it (by simp) o q⟩
 item:=by
  intro X hP hw hK hc i pins s σ H E I hf st hg
  subst hP hw hK
  obtain ⟨⟨old,h1⟩,h4⟩:=st
  obtain ⟨xs,x,ha,hx⟩:=hg
  obtain ⟨us,ru,pu,_⟩:=I.list (SqL.of ha)
  obtain ⟨ux,ex,rx⟩:=ru.get hx
  refine wpAny_pyNext_enum_item h1 h4 pu.isList (x:=ux) (by simpa using ex) nd fun h' a1 a3 a5 a6 a7=>?_
  have I1:Inv X pins σ (upd H s.heap.objs.size (.tup [.int (i:Int),x])) { s with heap:=h',toks:=s.toks+1 }:=I.turnsLaid (t':=s.toks+1) (ch:=[e,it]) (fun b u hb q=>a7 b u (fun z=>hb (by simp [z])) (fun z=>hb (by simp [z])) q)
   hf (Nat.le_refl _) (show ObjOk X.prog X.w _ h' _ (.tup [.int (i:Int),x]) from ⟨by show 2≤sizeLine;decide,[_,ux],.cons ⟨_,rfl⟩ (.cons rx .nil),⟨_,a5,rfl,_,rfl⟩⟩)
  have hfr:=I.fresh
  have old':∀ b∈[e,it],upd H s.heap.objs.size (.tup [.int (i:Int),x]) b=none:=fun b hb=>by
   rw [upd_none]
   refine ⟨fun q=>?_,(hf b hb).1⟩
   have ob:∃ o,s.heap.get? b=some o:=by
    obtain ⟨o4,e4,_⟩:=h4
    simp only [List.mem_cons,List.not_mem_nil,or_false] at hb
    rcases hb with rfl|rfl
    ·exact ⟨_,h1⟩
    ·exact ⟨_,e4⟩
   obtain ⟨o,eo⟩:=ob
   exact absurd (Heap.lt_size eo) (by rw [q];exact Nat.lt_irrefl _)
  refine ⟨_,rfl,wpAny_letOwnedTupleGo_enum (s:={ s with heap:=h',toks:=s.toks+1 }) a1 fun h2' b1 b2=>?_⟩
  obtain ⟨_,f1,f2,f3,f4⟩:=hf e (by simp)
  have I2:Inv X pins σ (upd H s.heap.objs.size (.tup [.int (i:Int),x])) { s with heap:=h2',toks:=s.toks+1 }:=I1.turned (t':=s.toks+1) (fun b o hb q=>(b2.2 b hb).trans q) (old' e (by simp)) f1 f3 f4.1 f4.2
  refine ⟨.ref s.heap.objs.size,_,I2,rfl,⟨_,rfl,hfr,fun xs' q1=>?_⟩,⟨⟨ux,?_⟩,a3.at fun o q=>(b2.2 it (Ne.symm nd)).trans q⟩,old'⟩
  ·rw [ha] at q1;cases q1
   exact ⟨x,hx,rfl⟩
  ·have:((i+1:Nat):Int)=(i:Int)+1:=by push_cast;rfl
   rw [this];exact b1
 done:=by
  intro X hP hw hK hc i pins s σ H E I hf st hg
  subst hP hw hK
  obtain ⟨⟨old,h1⟩,h4⟩:=st
  obtain ⟨xs,ha,hend⟩:=hg
  obtain ⟨us,ru,pu,_⟩:=I.list (SqL.of ha)
  refine wpAny_pyNext_enum_end (I.ok.hd hc) h1 h4 pu.isList (by simpa using Vals.none_of ru hend) fun h' hk=>⟨rfl,I.turneds (t':=s.toks) (ch:=[e,it]) (fun b u hb q=>hk b u (fun z=>hb (by simp [z])) q) hf⟩
 self:=fun _ _ _ _ _ st h=>by
  obtain ⟨⟨old,h1⟩,_⟩:=st
  exact wpAny_pyIter_enum h1 h
def iEnum (ta:TA):TI:=fun σ H R=>ta σ H fun vs H1=>∃ a,vs=[.ref a]∧∃ xs,H1 a=some (.lst xs)∧R (Itn a) H1
theorem pi_enum {elts:List Expr}{x1:Nat}{pt:Pos}{e1:Expr}{ta:TA}{p pos:Pos}(hg:Gl X "enumerate") (hm:X.mg "enumerate" = none) (ha:PA X [e1] ta) (hs:starEach [e1] X.env=(false,eval e1 X.env)::starEach [] X.env:=by rfl) (hpl:(backTo pos (starEach [] X.env)).any (·.1)=false:=by rfl) :
  PI X (.Tuple elts x1 pt) (.Call (.Name "enumerate" p) [e1] [] pos) (iEnum ta):=by
 intro pins s σ H R I h
 refine wpAny_Call_Name_kw (z5s I hg hm PyProof.Rows.boot_enumerate ?_)
 refine PyProof.Rows.callWith_type1 (thn (ha pos pins s σ H _ I h) fun us s1 ⟨vs,H1,I1,r1,q1⟩=>?_) hs hpl
 obtain ⟨a,rfl,xs,hA,q⟩:=q1
 obtain ⟨u,rfl,ru⟩:=z8j r1
 cases ru
 obtain ⟨us,ru,pu,_⟩:=I1.list (SqL.of hA)
 refine call_enumerate_list pu.isList fun h' z1 z2 z3 z7=>wpAny_pyIter_enum z1 ?_
 refine ⟨s1.heap.objs.size+1,_,_,_,H1,rfl,I1.kept (t':=s1.toks) z7,turn_enum (by show (_:Nat)≠_;omega),⟨⟨_,z1⟩,z2⟩,fun c hc=>?_,q⟩
 have hge:s1.heap.objs.size≤c:=by
  simp only [List.mem_cons,List.not_mem_nil,or_false] at hc
  rcases hc with rfl|rfl
  ·exact Nat.le_add_right _ _
  ·exact Nat.le_refl _
 exact I1.fpOk hge (I1.hok.fresh hge)
end
end L2
namespace L2
open PySem PySem.Spec PyProof.Rows
def stepS (acc:List Str) (x:Str):List Str:=if x∈acc then acc else acc ++ [x]
def metS (val:Nat→Str) (i:Nat):List Str:=((List.range i).map val).foldl stepS []
theorem metS_up (val:Nat→Str) (i:Nat):metS val (i+1)=stepS (metS val i) (val i):=by
 unfold metS
 rw [List.range_succ,List.map_append,List.foldl_append]
 rfl
theorem stepS_len (acc:List Str) (x:Str):(stepS acc x).length=if decide (x∈acc)=true then acc.length else acc.length+1:=by
 unfold stepS
 by_cases h:x∈acc <;> simp [h]
theorem stepS_mem (acc:List Str) (x y:Str):decide (y∈stepS acc x)=(decide (y∈acc) || decide (y=x)):=by
 unfold stepS
 by_cases h:x∈acc
 ·rw [if_pos h]
  by_cases e:y=x
  ·subst e;simp [h]
  ·simp [e]
 ·rw [if_neg h];simp
theorem metS_len (val:Nat→Str):∀ i,(metS val i).length≤i
 |0=>Nat.le_refl _
 |i+1=>by
  have h0:=metS_len val i
  rw [metS_up,stepS_len]
  split <;> omega
section
variable {pg:Program}{w:World}{A:Around}{R:Result→Shared→Prop}{J:Addr}{fp wr:List Addr}{G:Array GenState→Array GenState→Prop}{n:Nat}{P:Nat→Value→Prop}{St:Nat→Shared→Prop}
theorem y2f {a:Addr}{M:Str→Bool}{c:Nat}{h1 h2:Heap}(k:∀ o,h1.get? a=some o→h2.get? a=some o) (z:h1.SetOf (strKind pg w) a M c):h2.SetOf (strKind pg w) a M c:=by
 obtain ⟨o,es,ep,tb,ho,more⟩:=z
 exact ⟨o,es,ep,tb,k _ ho,more⟩
theorem y1z (W:WalksS pg w A.in1 J fp wr G n P St) (a:Addr) (out:a∉fp) (val:Nat→Str) (txt:∀ i v,P i v→∃ t,v = .str (val i) t) (room:n+1 < scanBound) :
  ∀ (k i:Nat) (s:Shared),n - i=k→i≤n→St i s→s.heap.SetOf (strKind pg w) a (fun c=>decide (c∈metS val i)) (metS val i).length →
   (∀ s2,Moved (a::wr) G s s2→s2.heap.SetOf (strKind pg w) a (fun c=>decide (c∈metS val n)) (metS val n).length→R (.ok (.ret .none)) s2) →
   codeAny (model pg w) A (.builtin "set.update.loop" ⟨[.ref a,.ref J],[]⟩) R s:=by
 have outw:a∉wr:=fun z=>out (W.sub _ z)
 have wider:∀ b∈wr,b∈a::wr:=fun b q=>List.mem_cons_of_mem _ q
 intro k
 induction k with
 |zero =>
  intro i s ek le st z kR
  have e:i=n:=by omega
  subst e
  refine codeAny_builtin PyProof.Rows.F.entry_set_update_loop ?_
  rw [Around.under_plainId PyProof.Rows.F.plain_set_update_loop _]
  show wpAny _ A.in1 (pyNext (.ref J) >>= _) _ _ s
  refine wpAny_bind (W.done s _ _ st fun s2 mv=>?_)
  show wpAny _ A.in1 (ret Value.none) _ _ s2
  exact wpAny_pure (kR s2 (mv.mono wider) (y2f (fun o q=>mv.heap a o outw q) z))
 |succ k ih =>
  intro i s ek le st z kR
  have lt:i < n:=by omega
  refine codeAny_builtin PyProof.Rows.F.entry_set_update_loop ?_
  rw [Around.under_plainId PyProof.Rows.F.plain_set_update_loop _]
  show wpAny _ A.in1 (pyNext (.ref J) >>= _) _ _ s
  refine wpAny_bind (W.item i s _ _ lt st fun v s2 hP st2 mv=>?_)
  obtain ⟨t,rfl⟩:=txt i v hP
  have z2:=y2f (pg:=pg) (w:=w) (fun o q=>mv.heap a o outw q) z
  show wpAny _ A.in1 (holding [Value.str (val i) t] (setAdd a (.str (val i) t)) >>= _) _ _ s2
  refine wpAny_bind (wpAny_holding ?_)
  unfold setAdd
  refine wpAny_holding ?_
  refine wpAny_bind ((strKind pg w).pyHash (k:=val i) (strKind_is _ _ _ _) ?_)
  have few:=metS_len val i
  refine wpAny_setAddHashed_of (knd:=strKind pg w) (s:={ s2 with toks:=s2.toks+1 }) (strKind_is _ _ _ _) rfl z2 (by omega) fun h2 sb z3=>?_
  have z4:h2.SetOf (strKind pg w) a (fun c=>decide (c∈metS val (i+1))) (metS val (i+1)).length :=
   PyProof.Rows.SetOf_congr z3 (fun c=>by rw [metS_up,stepS_mem]) (by rw [metS_up,stepS_len])
  refine wpAny_pure ⟨plainId_quiet PyProof.Rows.F.plain_set_update_loop _,ih (i+1) _ (by omega) lt (W.frame _ s2 _ _ st2 (Nat.le_succ _) fun b hb o q=>?_) z4 fun s3 mv3 z5=>?_⟩
  ·rw [sb.2 b (fun y:b=a=>out (by rw [← y];exact hb))];exact q
  ·refine kR s3 (Moved.trans W.gtrans ((mv.mono wider).then_heap (Nat.le_succ _) fun b o hb q=>?_) mv3) z5
   rw [sb.2 b (fun y:b=a=>hb (by rw [y];exact List.mem_cons_self))];exact q
end
section
variable {pg:Program}{w:World}{A:Around}{E:Value→Shared→Prop}{s:Shared}
set_option maxHeartbeats 3200000 in
theorem y1w {l:Addr}{its:Array Value}{ks:List Str}{Q:Value→Shared→Prop}(calm:A.handled=none) (lst:s.heap.IsList l its)
  (txt:∀ (i:Nat) (v:Value),its[i]? = some v→∃ t,v = .str (ks.getD i "") t) (room:its.size+1 < scanBound)
  (kQ:∀ (h2:Heap) (tk:Nat),h2.SetOf (strKind pg w) s.heap.objs.size (fun c=>decide (c∈metS (fun i=>ks.getD i "") its.size)) (metS (fun i=>ks.getD i "") its.size).length →
   (∀ b o,b < s.heap.objs.size→s.heap.get? b=some o→h2.get? b=some o)→Q (.ref s.heap.objs.size) { s with heap:=h2,toks:=tk }) :
  wpAny (model pg w) A (call (.type "set") [.ref l]) Q E s:=by
 obtain ⟨c0,c1,mro⟩:=PySem.F.called_set.mro
 have made0:=PySem.F.called_set.made
 have sub0:=PySem.F.called_set.sub
 refine wpAny_call (codeAny_of_tree (?_:wpAny _ _ (callAny (.type "set") _) _ _ _))
 refine wpAny_pure ⟨Code.quiet_builtin _ (by decide +kernel),codeAny_builtin PySem.F.entry_type_call ?_⟩
 rw [Around.under_plain (weight_type_call_type "set" [.ref l] []) rfl]
 have f1:=PySem.F.called_set.notType
 have f2:=PySem.F.called_set.canCreate
 have f3:=PySem.F.typeCall_set_1 (.ref l)
 repeat (any_goals (first|assumption|wp_step))
 refine codeAny_mono (code_set_new_1 (.ref l) (E:=E) (Q₁:=fun ob s2=>∃ led:Bool,ob = .ref s.heap.objs.size∧s2 = { s with heap:=s.heap.push (⟨.type "set",none,.set #[] 0 (.fresh 0 0 led),#[]⟩:Obj) }) fun led=>⟨led,rfl,rfl⟩) fun r s2 hr=>?_
 cases r with
 |error e=>exact hr
 |ok fl =>
  cases fl with
  |ret ob =>
   obtain ⟨led,rfl,rfl⟩:=hr
   have at0:(s.heap.push (⟨.type "set",none,.set #[] 0 (.fresh 0 0 led),#[]⟩:Obj)).get? s.heap.objs.size=some ⟨.type "set",none,.set #[] 0 (.fresh 0 0 led),#[]⟩:=Heap.get?_push_size _ rfl
   have ty0:Shared.TypeIs { s with heap:=s.heap.push (⟨.type "set",none,.set #[] 0 (.fresh 0 0 led),#[]⟩:Obj) } (.ref s.heap.objs.size) "set":=⟨_,at0,rfl⟩
   have f4:=PySem.F.called_set.init.lookup
   have f5:=PySem.F.called_set.init.bind (.ref s.heap.objs.size)
   repeat (any_goals (first|assumption|wp_step))
   refine codeAny_mono (codeAny_call_builtin (R:=wants (fun r s3=>r = .none∧∃ h2 tk,s3 = { s with heap:=h2,toks:=tk } ∧
     h2.SetOf (strKind pg w) s.heap.objs.size (fun c=>decide (c∈metS (fun i=>ks.getD i "") its.size)) (metS (fun i=>ks.getD i "") its.size).length ∧
     (∀ b o,b < s.heap.objs.size→s.heap.get? b=some o→h2.get? b=some o)) E) PySem.F.called_set.init.plain PySem.F.entry_set_init (check_set_init_1 ty0 ?_)) fun r3 s3 hr3=>?_
   ·obtain ⟨⟨ocls,odict,odata,oslots⟩,ol1,ol2,nl,ol3⟩:=lst
    replace ol2:ocls = .type "list":=ol2
    replace ol3:odata = .seq its nl:=ol3
    subst ol2 ol3
    have ol4:(s.heap.push (⟨.type "set",none,.set #[] 0 (.fresh 0 0 led),#[]⟩:Obj)).get? l=some ⟨.type "list",odict,.seq its nl,oslots⟩:=Heap.get?_push_of_some _ ol1
    have f6:=PySem.F.sub_list_set
    have f7:=PySem.F.sub_list_frozenset
    have f8:(Value.type "list" == Value.type "dict")=false:=by decide
    have lst1:(s.heap.push (⟨.type "set",none,.set #[] 0 (.fresh 0 0 led),#[]⟩:Obj)).IsList l its:=⟨_,ol4,rfl,nl,rfl⟩
    unfold Builtin.«set.__init__» noKeywords Builtin.Frozenset.updateFrom
    generalize ePI:pyIter=PI
    wp_walk
    subst ePI
    refine wpAny_pyIter_list lst1 (wpAny_bind (wpAny_runValue ?_))
    have lt0:l < s.heap.objs.size:=Heap.lt_size ol1
    have calm3:A.in1.in1.in1.handled=none:=by simp [calm]
    have far:l≠(s.heap.push (⟨.type "set",none,.set #[] 0 (.fresh 0 0 led),#[]⟩:Obj)).objs.size:=by
     rw [Heap.size_push];exact Nat.ne_of_lt (Nat.lt_succ_of_lt lt0)
    have out:s.heap.objs.size∉[(s.heap.push (⟨.type "set",none,.set #[] 0 (.fresh 0 0 led),#[]⟩:Obj)).objs.size,l]:=by
     rw [Heap.size_push]
     simp only [List.mem_cons,List.mem_singleton,List.not_mem_nil,or_false,not_or]
     exact ⟨Nat.ne_of_lt (Nat.lt_succ_self _),Nat.ne_of_gt lt0⟩
    refine y1z ((Walks.list calm3 _ l far its).toS) s.heap.objs.size out (fun i=>ks.getD i "") txt room (its.size - 0) 0 _ (by omega) (Nat.zero_le _) ⟨⟨_,Heap.get?_push_size _ rfl,rfl,rfl⟩,lst1.push _⟩ ?z0 ?kR
    case z0 =>
     have at1:=Heap.get?_push_of_some (⟨.type "list_iterator",none,.fields #[.ref l,.int 0 0],#[]⟩:Obj) at0
     exact PyProof.Rows.SetOf_congr ((PyProof.Rows.setObjOf_fresh (knd:=strKind pg w) led).setOf at1 (by unfold scanBound;omega)) (fun _=>rfl) rfl
    case kR =>
     rintro ⟨h2,g2,d2,tk2,os2⟩ mv z
     have eg:g2=s.gens:=mv.gens
     have ed:d2=s.drawn:=mv.drawn
     have eo:os2=s.os:=mv.os
     subst eg ed eo
     refine (?_:wpAny _ _ _ _ _ _)
     refine wpAny_pure (?_:wpAny _ _ (ret Value.none) _ _ _)
     refine wpAny_pure ⟨rfl,h2,tk2,rfl,z,fun b o hb q=>mv.heap b o ?_ (Heap.get?_push_of_some _ (Heap.get?_push_of_some _ q))⟩
     simp only [List.mem_cons,List.mem_singleton,List.not_mem_nil,or_false,not_or]
     exact ⟨Nat.ne_of_lt hb,by rw [Heap.size_push];exact Nat.ne_of_lt (Nat.lt_succ_of_lt hb)⟩
   ·cases r3 with
    |error e=>exact hr3
    |ok fl3 =>
     cases fl3 with
     |ret r =>
      obtain ⟨rfl,h2,tk,rfl,z,kk⟩:=hr3
      repeat (any_goals (first|assumption|wp_step))
      exact kQ _ _ z kk
     |_=>exact hr3.elim
  |_=>exact hr.elim
end
section
variable {X:Cx}
def tLenSet (te:TE):TE:=fun σ H Q=>te σ H fun x H1=>∃ (a:Addr) (ks:List Str),x = .ref a∧H1 a=some (.lst (ks.map V.str))∧ks.length≤4000∧Q (.int (metS (fun i=>ks.getD i "") ks.length).length) H1
theorem pe_lenSet {e:Expr}{te:TE}{p p2 p3 p4:Pos}(hc:X.calm=true) (gl:Gl X "len") (ml:X.mg "len" = none) (gs:Gl X "set") (ms:X.mg "set" = none) (he:PE X e te)
  (s2:starEach [e] X.env=(false,eval e X.env)::starEach [] X.env:=by rfl) (n2:(backTo p3 (starEach [] X.env)).any (·.1)=false:=by rfl)
  (s1:starEach [.Call (.Name "set" p2) [e] [] p3] X.env=(false,eval (.Call (.Name "set" p2) [e] [] p3) X.env)::starEach [] X.env:=by rfl) (n1:(backTo p4 (starEach [] X.env)).any (·.1)=false:=by rfl) :
  PE X (.Call (.Name "len" p) [.Call (.Name "set" p2) [e] [] p3] [] p4) (tLenSet te):=by
 intro pins s σ H Q I h
 refine wpAny_Call_Name_kw (z5s I gl ml PySem.boot_len ?_)
 refine PyProof.Rows.callWith_builtin1 ?_ s1 n1
 rw [s1]
 show wpAny _ _ (spliced ((false,eval (.Call (.Name "set" p2) [e] [] p3) X.env)::backTo p4 (starEach [] X.env))) _ _ s
 refine Calls.spliced_cons ?_
 refine wpAny_Call_Name_kw (z5s I gs ms PyProof.Rows.boot_set ?_)
 refine PyProof.Rows.callWith_type1 (thn (z0k he z1g s2 p3 pins s σ H (fun vs H1=>∃ (a:Addr) (ks:List Str),vs=[.ref a]∧H1 a=some (.lst (ks.map V.str))∧ks.length≤4000∧Q (.int (metS (fun i=>ks.getD i "") ks.length).length) H1) I ?_) fun us sa ⟨vs,H1,I1,r1,q1⟩=>?_) s2 n2
 ·show te σ H fun x H1=>_
  refine (?_:te σ H _)
  have e:(fun (x:V) (H1:Hp)=>∃ (a:Addr) (ks:List Str),x=V.ref a∧H1 a=some (.lst (ks.map V.str))∧ks.length≤4000∧Q (.int (metS (fun i=>ks.getD i "") ks.length).length) H1)=fun x H1=>tNil σ H1 fun vs H2=>∃ (a:Addr) (ks:List Str),x::vs=[V.ref a]∧H2 a=some (.lst (ks.map V.str))∧ks.length≤4000∧Q (.int (metS (fun i=>ks.getD i "") ks.length).length) H2:=by
   funext x H1
   simp only [tNil,List.cons.injEq,and_true]
  rw [← e]
  exact h
 ·obtain ⟨a,ks,rfl,ha,hl,q⟩:=q1
  obtain ⟨u,rfl,ru⟩:=z8j r1
  cases ru
  obtain ⟨its,rv,pl,_⟩:=I1.list (SqL.of ha)
  have len:its.length=ks.length:=by have:=rv.length;simp at this;exact this.symm
  refine y1w (ks:=ks) (I1.ok.hd hc) pl.isList (fun i v ev=>?_) (by simp [len,scanBound];omega) fun h2 tk z kk=>?_
  ·have ev':its[i]? = some v:=by simpa using ev
   have hi:i < ks.length:=by rw [← len];exact (List.getElem?_eq_some_iff.mp ev').1
   obtain ⟨u,eu,ru⟩:=rv.get (i:=i) (x:=.str (ks.getD i "")) (by simp [hi])
   rw [ev'] at eu
   cases eu
   exact ru
  ·refine Calls.spliced_nil ?_
   obtain ⟨o,es,ep,tb,ho,ex,hd,_,_,_,hf,hz⟩:=z
   have I2:Inv X pins σ H1 { sa with heap:=h2,toks:=tk }:=I1.kept (t':=tk) fun b o q=>kk b o (Heap.lt_size q) q
   have few:=metS_len (fun i=>ks.getD i "") its.toArray.size
   refine call_len_set ho ex hd hf (by rw [hz];simp at few ⊢;omega) ⟨.int (es.size:Int),H1,I2.tok _,⟨_,rfl⟩,?_⟩
   rw [hz]
   simpa [len] using q
end
end L2
namespace L2
open PySem PySem.Spec PyProof.Rows
section
variable {X:Cx}
def tSlR (te:TE):TE:=fun σ H Q=>te σ H fun x H1=>∃ a,x = .ref a∧∃ xs,H1 a=some (.lst xs)∧∀ p,H1 p=none→Q (.ref p) (upd H1 p (.lst xs.reverse))
theorem pe_sliceR {e:Expr}{te:TE}{k1:Nat}{p1 p0 p2 pos:Pos}(he:PE X e te):PE X (.Subscript e (.Slice none none (some (.UnaryOp .USub (.Constant (.int 1) k1 p1) p0)) p2) pos) (tSlR te):=by
 intro pins s σ H Q I h
 refine Subscript_ (thn (he pins s σ H _ I h) fun v s1 ⟨x,H1,I1,r1,q1⟩=>?_)
 obtain ⟨a,rfl,xs,ha,q⟩:=q1
 cases r1
 refine wpAny_Slice ?_
 rw [evalPart_none]
 refine wpAny_pure (wpAny_pure ?_)
 refine thn (po_some (pe_un un_neg z3j) pins s1 σ H1 (fun o H2=>o=some (-1)∧H2=H1) I1 ⟨1,rfl,-1,rfl,rfl,rfl⟩) fun vu s3 ⟨o,H3,I3,pu,eo,eH⟩=>?_
 subst eo eH
 have I4:Inv X pins σ H3 { s3 with heap:=s3.heap.push { cls:=.type "slice",data:=.fields #[.none,.none,vu] } }:=I3.kept (t':=s3.toks) fun b ob q=>Heap.get?_push_of_some _ q
 refine (?_:wpAny (model X.prog X.w) X.A (subscriptTail e _ (.ref a) (.ref s3.heap.objs.size)) (EP X pins σ Q) X.xe { s3 with heap:=s3.heap.push { cls:=.type "slice",data:=.fields #[.none,.none,vu] } })
 obtain ⟨its,r,ht,hz⟩:=I4.list (SqL.of ha)
 have hlen:=r.length
 refine tail_any (ops:=[.ref a,.ref s3.heap.objs.size]) ht.isList.typeIs slot_list_getitem.lookup ?_ (by with_unfolding_all rfl)
 refine wpAny_getItem_list_slice ht.isList (Heap.IsSliceOf.new ..) .none .none pu (by simp) ?_ (by rw [List.size_toArray] <;> omega)
 rw [PySem.W.krv_pick]
 refine ⟨.ref _,_,I4.laid (t':=s3.toks) (o:=.lst xs.reverse) (fun b ob q=>Heap.get?_push_of_some _ q) (Nat.le_refl _) ?_,rfl,q _ (I4.hok.fresh (Nat.le_refl _))⟩
 exact ⟨by simpa using hz,its.reverse,0,r.reverse,Heap.get?_push_size _ rfl⟩
end
end L2
namespace VL
open PySem L2
inductive D where
 |non|bl (b:Bool)|int (i:Int)|str (x:Str)|ty (n:String)
 |lst (xs:List D)|tup (xs:List D)|dct (kvs:List (Key × D))
mutual
def Rep (F:Hp):D→V→Prop
 |.non,v=>v = .non
 |.bl b,v=>v = .bl b
 |.int i,v=>v = .int i
 |.str x,v=>v = .str x
 |.ty n,v=>v = .ty n
 |.lst ds,v=>∃ a vs,v = .ref a∧F a=some (.lst vs)∧Reps F ds vs
 |.tup ds,v=>∃ a vs,v = .ref a∧F a=some (.tup vs)∧Reps F ds vs
 |.dct kds,v=>∃ a kvs,v = .ref a∧F a=some (.dK kvs)∧RepK F kds kvs
def Reps (F:Hp):List D→List V→Prop
 | [],vs=>vs=[]
 |d::ds,vs=>∃ v r,vs=v::r∧Rep F d v∧Reps F ds r
def RepK (F:Hp):List (Key × D)→List (Key × V)→Prop
 | [],vs=>vs=[]
 |p::ds,vs=>∃ v r,vs=v::r∧RepP F p v∧RepK F ds r
def RepP (F:Hp):Key × D→Key × V→Prop
 |(k,d),q=>q.1=k∧Rep F d q.2
end
mutual
theorem Rep.mono {F F':Hp}(s:Same F F'):∀ (d:D) (v:V),Rep F d v→Rep F' d v
 |.non,v,h=>h
 |.bl b,v,h=>h
 |.int i,v,h=>h
 |.str x,v,h=>h
 |.ty n,v,h=>h
 |.lst ds,v,h=>by obtain ⟨a,vs,e,h1,h2⟩:=h;exact ⟨a,vs,e,s _ _ h1,Reps.mono s ds vs h2⟩
 |.tup ds,v,h=>by obtain ⟨a,vs,e,h1,h2⟩:=h;exact ⟨a,vs,e,s _ _ h1,Reps.mono s ds vs h2⟩
 |.dct kds,v,h=>by obtain ⟨a,vs,e,h1,h2⟩:=h;exact ⟨a,vs,e,s _ _ h1,RepK.mono s kds vs h2⟩
theorem Reps.mono {F F':Hp}(s:Same F F'):∀ (ds:List D) (vs:List V),Reps F ds vs→Reps F' ds vs
 | [],vs,h=>h
 |d::ds,vs,h=>by obtain ⟨v,r,e,h1,h2⟩:=h;exact ⟨v,r,e,Rep.mono s d v h1,Reps.mono s ds r h2⟩
theorem RepK.mono {F F':Hp}(s:Same F F'):∀ (ds:List (Key × D)) (vs:List (Key × V)),RepK F ds vs→RepK F' ds vs
 | [],vs,h=>h
 |p::ds,vs,h=>by obtain ⟨v,r,e,h1,h2⟩:=h;exact ⟨v,r,e,RepP.mono s p v h1,RepK.mono s ds r h2⟩
theorem RepP.mono {F F':Hp}(s:Same F F'):∀ (p:Key × D) (q:Key × V),RepP F p q→RepP F' p q
 |(k,d),q,h=>⟨h.1,Rep.mono s d q.2 h.2⟩
end
theorem Reps.len {F:Hp}:∀ {ds:List D}{vs:List V},Reps F ds vs→ds.length=vs.length
 | [],vs,h=>by cases (show vs=[] from h);rfl
 |d::ds,vs,h=>by obtain ⟨v,r,rfl,h1,h2⟩:=h;simp [Reps.len h2]
theorem Reps.get {F:Hp}:∀ {ds:List D}{vs:List V}{i:Nat}{d:D},Reps F ds vs→ds[i]? = some d→∃ v,vs[i]? = some v∧Rep F d v
 | [],vs,i,d,h,e=>by simp at e
 |d::ds,vs,0,d',h,e=>by obtain ⟨v,r,rfl,h1,h2⟩:=h;simp at e;subst e;exact ⟨v,rfl,h1⟩
 |d::ds,vs,i+1,d',h,e=>by obtain ⟨v,r,rfl,h1,h2⟩:=h;simpa using Reps.get h2 (by simpa using e)
theorem Reps.get' {F:Hp}:∀ {ds:List D}{vs:List V}{i:Nat}{v:V},Reps F ds vs→vs[i]? = some v→∃ d,ds[i]? = some d∧Rep F d v
 | [],vs,i,d,h,e=>by cases (show vs=[] from h);simp at e
 |d::ds,vs,0,d',h,e=>by obtain ⟨v,r,rfl,h1,h2⟩:=h;simp at e;subst e;exact ⟨d,rfl,h1⟩
 |d::ds,vs,i+1,d',h,e=>by obtain ⟨v,r,rfl,h1,h2⟩:=h;simpa using Reps.get' h2 (by simpa using e)
theorem Reps.app {F:Hp}:∀ {ds es:List D}{vs us:List V},Reps F ds vs→Reps F es us→Reps F (ds ++ es) (vs ++ us)
 | [],es,vs,us,h,h'=>by cases (show vs=[] from h);exact h'
 |d::ds,es,vs,us,h,h'=>by obtain ⟨v,r,rfl,h1,h2⟩:=h;exact ⟨v,r ++ us,rfl,h1,Reps.app h2 h'⟩
theorem Reps.one {F:Hp}{d:D}{v:V}(h:Rep F d v):Reps F [d] [v]:=⟨v,[],rfl,h,rfl⟩
theorem Reps.take {F:Hp}:∀ {ds:List D}{vs:List V}(n:Nat),Reps F ds vs→Reps F (ds.take n) (vs.take n)
 |_,_,0,_=>by rw [List.take_zero,List.take_zero];rfl
 | [],vs,n+1,h=>by cases (show vs=[] from h);rfl
 |d::ds,vs,n+1,h=>by obtain ⟨v,r,rfl,h1,h2⟩:=h;exact ⟨v,r.take n,rfl,h1,Reps.take n h2⟩
theorem Reps.drop {F:Hp}:∀ {ds:List D}{vs:List V}(n:Nat),Reps F ds vs→Reps F (ds.drop n) (vs.drop n)
 |_,_,0,h=>h
 | [],vs,n+1,h=>by cases (show vs=[] from h);rfl
 |d::ds,vs,n+1,h=>by obtain ⟨v,r,rfl,h1,h2⟩:=h;exact Reps.drop n h2
theorem Reps.set {F:Hp}{d:D}{v:V}(h:Rep F d v):∀ {ds:List D}{vs:List V}(n:Nat),Reps F ds vs→Reps F (ds.set n d) (vs.set n v)
 | [],vs,n,h=>by cases (show vs=[] from h);rfl
 |d::ds,vs,0,h=>by obtain ⟨v',r,rfl,h1,h2⟩:=h;exact ⟨_,r,rfl,by assumption,h2⟩
 |d::ds,vs,n+1,h=>by obtain ⟨v',r,rfl,h1,h2⟩:=h;exact ⟨v',r.set n v,rfl,h1,Reps.set (by assumption) n h2⟩
theorem Reps.rev {F:Hp}:∀ {ds:List D}{vs:List V},Reps F ds vs→Reps F ds.reverse vs.reverse
 | [],vs,h=>by cases (show vs=[] from h);rfl
 |d::ds,vs,h=>by
  obtain ⟨v',r,rfl,h1,h2⟩:=h
  rw [List.reverse_cons,List.reverse_cons]
  exact (Reps.rev h2).app (.one h1)
theorem Reps.dropLast {F:Hp}{ds:List D}{vs:List V}(h:Reps F ds vs):Reps F ds.dropLast vs.dropLast:=by
 rw [List.dropLast_eq_take,List.dropLast_eq_take,h.len];exact h.take _
inductive Slot where
 |no
 |fz (d:D)
 |ob (io:Bool) (c:D)
 |sc (K:PySem.W.Frag) (ns:List Int)
def Cont (F H:Hp) (a:Addr):D→Prop
 |.lst ds=>∃ vs,H a=some (.lst vs)∧Reps F ds vs
 |.dct kds=>∃ kvs,H a=some (.dK kvs)∧RepK F kds kvs
 |_=>False
theorem Cont.mono {F F' H H':Hp}{a:Addr}{c:D}(s:Same F F') (e:∀ o,H a=some o→H' a=some o) (h:Cont F H a c):Cont F' H' a c:=by
 cases c with
 |lst ds=>obtain ⟨vs,h1,h2⟩:=h;exact ⟨vs,e _ h1,Reps.mono s _ _ h2⟩
 |dct ds=>obtain ⟨vs,h1,h2⟩:=h;exact ⟨vs,e _ h1,RepK.mono s _ _ h2⟩
 |_=>exact h.elim
theorem Cont.some {F H:Hp}{a:Addr}{c:D}(h:Cont F H a c):∃ o,H a=some o:=by
 cases c with
 |lst ds=>obtain ⟨vs,h1,h2⟩:=h;exact ⟨_,h1⟩
 |dct ds=>obtain ⟨vs,h1,h2⟩:=h;exact ⟨_,h1⟩
 |_=>exact h.elim
theorem Cont.rep {F H:Hp}{a:Addr}{c:D}(h:Cont F H a c) (hf:F a=none):∃ o,H a=Option.some o∧Rep (upd F a o) c (.ref a):=by
 have s:∀ o,Same F (upd F a o):=fun o=>Same.of_new hf
 cases c with
 |lst ds=>obtain ⟨vs,h1,h2⟩:=h;exact ⟨_,h1,a,vs,rfl,z0l,Reps.mono (s _) _ _ h2⟩
 |dct ds=>obtain ⟨vs,h1,h2⟩:=h;exact ⟨_,h1,a,vs,rfl,z0l,RepK.mono (s _) _ _ h2⟩
 |_=>exact h.elim
def SOk (H0 F H:Hp) (io:Option Addr) (o:Option V):Slot→Prop
 |.no=>True
 |.fz d=>∃ v,o=some v∧Rep F d v
 |.ob b c=>∃ a,o=some (.ref a)∧H0 a=none∧F a=none∧Cont F H a c∧(b=true→io=some a)
 |.sc K ns=>∃ a,o=some (.ref a)∧SqL K F a (ns.map V.int)
structure EI (io:List (Option Addr)) (H0 F0 F:Hp) (δ:List Slot) (σ:St) (H:Hp):Prop where
 base:Same H0 H
 sub:Same F H
 ext:Same F0 F
 new:∀ b o,F b=some o→F0 b=none→H0 b=none
 len:δ.length=σ.length
 get:∀ i s,δ[i]? = some s→SOk H0 F H (io.getD i none) (σ.getD i none) s
 apart:∀ i j b c b' c' a,i≠j→δ[i]? = some (.ob b c)→δ[j]? = some (.ob b' c')→σ.getD i none=some (.ref a)→σ.getD j none=some (.ref a)→False
def rsl:Bool→D→Slot
 |true,d=>.ob false d
 |false,d=>.fz d
section
variable {io:List (Option Addr)}{H0 F0 F:Hp}{δ:List Slot}{σ:St}{H:Hp}
theorem SOk.mono {F' H':Hp}{i:Option Addr}{o:Option V}{s:Slot}(sf:Same F F') (h:SOk H0 F H i o s) (hn:∀ a b c,s = .ob b c→o=some (.ref a)→F' a=none∧∀ u,H a=some u→H' a=some u):SOk H0 F' H' i o s:=by
 cases s with
 |no=>trivial
 |fz d=>obtain ⟨v,e,r⟩:=h;exact ⟨v,e,Rep.mono sf _ _ r⟩
 |sc K ns=>obtain ⟨a,e,r⟩:=h;exact ⟨a,e,sf.seq r⟩
 |ob b c =>
  obtain ⟨a,e,h1,h2,h3,h4⟩:=h
  obtain ⟨n1,n2⟩:=hn a b c rfl e
  exact ⟨a,e,h1,n1,h3.mono sf n2,h4⟩
theorem EI.alloc {p:Addr}{o:HO}(I:EI io H0 F0 F δ σ H) (hp:H p=none):EI io H0 F0 F δ σ (upd H p o) where
 base:=I.base.upd (I.base.free hp)
 sub:=I.sub.upd (I.sub.free hp)
 ext:=I.ext
 new:=I.new
 len:=I.len
 get:=fun i s e=>(I.get i s e).mono (Same.refl _) fun a b c es eo=>by
  have h:=I.get i s e
  subst es
  obtain ⟨a',e1,h1,h2,h3,h4⟩:=h
  rw [eo] at e1;cases e1
  obtain ⟨u,hu⟩:=h3.some
  exact ⟨h2,fun u' hu'=>by rw [z0i (z0u hu hp)];exact hu'⟩
 apart:=I.apart
theorem EI.allocF {p:Addr}{o:HO}(I:EI io H0 F0 F δ σ H) (hp:H p=none):EI io H0 F0 (upd F p o) δ σ (upd H p o) where
 base:=I.base.upd (I.base.free hp)
 sub:=fun b u e=>by
  by_cases hb:b=p
  ·subst hb;rw [z0l] at e ⊢;exact e
  ·rw [z0i hb] at e ⊢;exact I.sub b u e
 ext:=I.ext.upd (I.ext.free (I.sub.free hp))
 new:=fun b u e h=>by
  by_cases hb:b=p
  ·subst hb;exact I.base.free hp
  ·rw [z0i hb] at e;exact I.new b u e h
 len:=I.len
 get:=fun i s e=>(I.get i s e).mono (Same.of_new (I.sub.free hp)) fun a b c es eo=>by
  have h:=I.get i s e
  subst es
  obtain ⟨a',e1,h1,h2,h3,h4⟩:=h
  rw [eo] at e1;cases e1
  obtain ⟨u,hu⟩:=h3.some
  have ne:=z0u hu hp
  exact ⟨by rw [z0i ne];exact h2,fun u' hu'=>by rw [z0i ne];exact hu'⟩
 apart:=I.apart
theorem EI.push {s:Slot}{v:V}(I:EI io H0 F0 F δ σ H) (h:SOk H0 F H none (some v) s) (ha:∀ b c a,s = .ob b c→v = .ref a→∀ j b' c',δ[j]? = some (.ob b' c')→σ.getD j none=some (.ref a)→False):EI (none::io) H0 F0 F (s::δ) (some v::σ) H where
 base:=I.base
 sub:=I.sub
 ext:=I.ext
 new:=I.new
 len:=by simp [I.len]
 get:=fun i t e=>by
  cases i with
  |zero=>simp at e;subst e;exact h
  |succ i=>simpa using I.get i t (by simpa using e)
 apart:=fun i j b c b' c' a ne e1 e2 e3 e4=>by
  cases i with
  |zero =>
   cases j with
   |zero=>exact ne rfl
   |succ j =>
    simp at e1 e2 e3 e4
    exact ha b c a e1 e3 j b' c' e2 (by simpa using e4)
  |succ i =>
   cases j with
   |zero =>
    simp at e1 e2 e3 e4
    exact ha b' c' a e2 e4 i b c e1 (by simpa using e3)
   |succ j =>
    simp at e1 e2 e3 e4
    exact I.apart i j b c b' c' a (by omega) e1 e2 (by simpa using e3) (by simpa using e4)
theorem EI.pushF {d:D}{v:V}(I:EI io H0 F0 F δ σ H) (h:Rep F d v):EI (none::io) H0 F0 F (.fz d::δ) (some v::σ) H :=
 I.push ⟨v,rfl,h⟩ fun b c a e=>by cases e
theorem EI.pop {x:Option Addr}{s:Slot}{o:Option V}(I:EI (x::io) H0 F0 F (s::δ) (o::σ) H):EI io H0 F0 F δ σ H where
 base:=I.base
 sub:=I.sub
 ext:=I.ext
 new:=I.new
 len:=by simpa using I.len
 get:=fun i t e=>by simpa using I.get (i+1) t (by simpa using e)
 apart:=fun i j b c b' c' a ne e1 e2 e3 e4=>I.apart (i+1) (j+1) b c b' c' a (by omega) (by simpa using e1) (by simpa using e2) (by simpa using e3) (by simpa using e4)
theorem EI.freeze {i:Nat}{c:D}(I:EI io H0 F0 F δ σ H) (e:δ[i]? = some (.ob false c)):∃ F' a,Same F F'∧EI io H0 F0 F' (δ.set i (.fz c)) σ H∧σ.getD i none=some (.ref a)∧Rep F' c (.ref a):=by
 obtain ⟨a,e1,h1,h2,h3,_⟩:=I.get i _ e
 obtain ⟨o,ho,hr⟩:=h3.rep h2
 have hs:Same F (upd F a o):=Same.of_new h2
 refine ⟨upd F a o,a,hs,⟨I.base,fun b u eb=>?_,I.ext.trans hs,fun b u eb hb=>?_,by simp [I.len],fun j s ej=>?_,fun j k b c1 b' c' a' ne e1 e2 e3 e4=>?_⟩,e1,hr⟩
 ·by_cases hb:b=a
  ·subst hb;rw [z0l] at eb;cases eb;exact ho
  ·rw [z0i hb] at eb;exact I.sub b u eb
 ·by_cases hb':b=a
  ·subst hb';exact h1
  ·rw [z0i hb'] at eb;exact I.new b u eb hb
 ·rw [List.getElem?_set] at ej
  split at ej
  ·rename_i hij
   subst hij
   split at ej
   ·cases ej
    exact ⟨_,e1,hr⟩
   ·cases ej
  ·rename_i hij
   refine (I.get j s ej).mono hs fun a' b' c' es eo=>?_
   subst es
   obtain ⟨a'',q1,q2,q3,q4,_⟩:=I.get j _ ej
   rw [eo] at q1;cases q1
   refine ⟨?_,fun u hu=>hu⟩
   rw [z0i]
   ·exact q3
   ·rintro rfl
    exact I.apart i j _ _ _ _ _ hij e ej e1 eo
 ·rw [List.getElem?_set] at e1 e2
  split at e1
  ·split at e1 <;> cases e1
  ·split at e2
   ·split at e2 <;> cases e2
   ·exact I.apart j k b c1 b' c' a' ne e1 e2 e3 e4
theorem EI.fr {b:Bool}{d:D}{v:V}(I:EI (none::io) H0 F0 F (rsl b d::δ) (some v::σ) H):∃ F',Same F F'∧EI io H0 F0 F' δ σ H∧Rep F' d v:=by
 cases b with
 |false =>
  obtain ⟨v',e,r⟩:=I.get 0 _ rfl
  simp at e;subst e
  exact ⟨F,Same.refl _,I.pop,r⟩
 |true =>
  obtain ⟨F',a,hs,I',e,r⟩:=I.freeze (i:=0) (c:=d) rfl
  simp at e;subst e
  exact ⟨F',hs,I'.pop,r⟩
def peek (δ:List Slot) (i:Nat):Option D :=
 match δ[i]? with
 |some (.fz d)=>some d
 |some (.ob _ c)=>some c
 |_=>none
def Pk (F H:Hp) (d:D) (v:V):Prop:=Rep F d v ∨ ∃ a,v = .ref a∧Cont F H a d
theorem EI.pk {i:Nat}{d:D}(I:EI io H0 F0 F δ σ H) (e:peek δ i=some d):∃ v,σ[i]? = some (some v)∧Pk F H d v:=by
 unfold peek at e
 split at e
 ·rename_i d' h
  cases e
  obtain ⟨v,e1,r⟩:=I.get i _ h
  refine ⟨v,?_,.inl r⟩
  rw [List.getD_eq_getElem?_getD] at e1
  cases q:σ[i]? with
  |none=>rw [q] at e1;cases e1
  |some o=>rw [q] at e1;simp at e1;rw [e1]
 ·rename_i b c h
  cases e
  obtain ⟨a,e1,_,_,h3,_⟩:=I.get i _ h
  refine ⟨.ref a,?_,.inr ⟨a,rfl,h3⟩⟩
  rw [List.getD_eq_getElem?_getD] at e1
  cases q:σ[i]? with
  |none=>rw [q] at e1;cases e1
  |some o=>rw [q] at e1;simp at e1;rw [e1]
 ·cases e
theorem Pk.lst {ds:List D}{v:V}(I:EI io H0 F0 F δ σ H) (h:Pk F H (.lst ds) v):∃ a vs,v = .ref a∧H a=some (.lst vs)∧Reps F ds vs:=by
 rcases h with ⟨a,vs,e,h1,h2⟩|⟨a,e,vs,h1,h2⟩
 ·exact ⟨a,vs,e,I.sub _ _ h1,h2⟩
 ·exact ⟨a,vs,e,h1,h2⟩
theorem Pk.tup {ds:List D}{v:V}(I:EI io H0 F0 F δ σ H) (h:Pk F H (.tup ds) v):∃ a vs,v = .ref a∧H a=some (.tup vs)∧Reps F ds vs:=by
 rcases h with ⟨a,vs,e,h1,h2⟩|⟨a,e,h⟩
 ·exact ⟨a,vs,e,I.sub _ _ h1,h2⟩
 ·exact h.elim
theorem Pk.dct {ds:List (Key × D)}{v:V}(I:EI io H0 F0 F δ σ H) (h:Pk F H (.dct ds) v):∃ a vs,v = .ref a∧H a=some (.dK vs)∧RepK F ds vs:=by
 rcases h with ⟨a,vs,e,h1,h2⟩|⟨a,e,vs,h1,h2⟩
 ·exact ⟨a,vs,e,I.sub _ _ h1,h2⟩
 ·exact ⟨a,vs,e,h1,h2⟩
theorem Pk.int {i:Int}{v:V}(h:Pk F H (.int i) v):v = .int i:=by
 rcases h with h|⟨a,e,h⟩
 ·exact h
 ·exact h.elim
theorem Pk.str {x:Str}{v:V}(h:Pk F H (.str x) v):v = .str x:=by
 rcases h with h|⟨a,e,h⟩
 ·exact h
 ·exact h.elim
theorem Pk.bl {x:Bool}{v:V}(h:Pk F H (.bl x) v):v = .bl x:=by
 rcases h with h|⟨a,e,h⟩
 ·exact h
 ·exact h.elim
theorem Pk.non {v:V}(h:Pk F H .non v):v = .non:=by
 rcases h with h|⟨a,e,h⟩
 ·exact h
 ·exact h.elim
theorem EI.setv {i:Nat}{b:Bool}{d:D}{v:V}(I:EI (none::io) H0 F0 F (rsl b d::δ) (some v::σ) H) (hn:∀ c,δ[i]? ≠ some (.ob true c)) (hi:i < δ.length):EI io H0 F0 F (δ.set i (rsl b d)) (σ.set i (some v)) H:=by
 have J:=I.pop
 refine ⟨I.base,I.sub,I.ext,I.new,by simpa using J.len,fun j s e=>?_,fun j k b1 c1 b2 c2 a ne e1 e2 e3 e4=>?_⟩
 ·rw [List.getElem?_set] at e
  split at e
  ·rename_i hij
   subst hij
   cases e
   have hl:i < σ.length:=by rw [← J.len];exact hi
   have h0:=I.get 0 _ rfl
   simp [List.getD_eq_getElem?_getD,hl]
   cases b with
   |false=>obtain ⟨v',e',r⟩:=h0;simp at e';subst e';exact ⟨v,rfl,r⟩
   |true=>obtain ⟨a,e',h1,h2,h3,h4⟩:=h0;simp at e';subst e';exact ⟨a,rfl,h1,h2,h3,fun z=>by cases z⟩
  ·rename_i hij
   have:=J.get j s e
   simp only [List.getD_eq_getElem?_getD] at this ⊢
   rw [List.getElem?_set_ne hij]
   exact this
 ·have hl:i < σ.length:=by rw [← J.len];exact hi
  have key:∀ {j:Nat}{b' c' b1 c1 a},j≠i→(rsl b d) = .ob b1 c1→δ[j]? = some (.ob b' c')→v = .ref a→σ.getD j none=some (.ref a)→False:=fun {j b' c' b1 c1 a} hj e1 e2 e3 e4 =>
   I.apart 0 (j+1) b1 c1 b' c' a (by omega) (by simp [e1]) (by simpa using e2) (by simp [e3]) (by simpa using e4)
  rw [List.getElem?_set] at e1 e2
  rw [List.getD_eq_getElem?_getD,List.getElem?_set] at e3 e4
  by_cases hj:i=j
  ·subst hj
   by_cases hk:i=k
   ·exact ne hk
   ·rw [if_pos rfl,if_pos hi] at e1
    rw [if_pos rfl,if_pos hl] at e3
    rw [if_neg hk] at e2 e4
    exact key (fun z=>hk z.symm) (Option.some.inj e1) e2 (by simpa using e3) (by simpa [List.getD_eq_getElem?_getD] using e4)
  ·rw [if_neg hj] at e1 e3
   by_cases hk:i=k
   ·subst hk
    rw [if_pos rfl,if_pos hi] at e2
    rw [if_pos rfl,if_pos hl] at e4
    exact key (fun z=>hj z.symm) (Option.some.inj e2) e1 (by simpa using e4) (by simpa [List.getD_eq_getElem?_getD] using e3)
   ·rw [if_neg hk] at e2 e4
    exact J.apart j k b1 c1 b2 c2 a ne e1 e2 (by simpa [List.getD_eq_getElem?_getD] using e3) (by simpa [List.getD_eq_getElem?_getD] using e4)
theorem EI.forget {i:Nat}(I:EI io H0 F0 F δ σ H):EI io H0 F0 F (δ.set i .no) σ H:=by
 refine ⟨I.base,I.sub,I.ext,I.new,by simpa using I.len,fun j s e=>?_,fun j k b1 c1 b2 c2 a ne e1 e2 e3 e4=>?_⟩
 ·rw [List.getElem?_set] at e
  split at e
  ·split at e
   ·cases e;trivial
   ·cases e
  ·exact I.get j s e
 ·rw [List.getElem?_set] at e1 e2
  split at e1
  ·split at e1 <;> cases e1
  ·split at e2
   ·split at e2 <;> cases e2
   ·exact I.apart j k b1 c1 b2 c2 a ne e1 e2 e3 e4
theorem EI.change {i:Nat}{b:Bool}{c c':D}{a:Addr}{o:HO}(I:EI io H0 F0 F δ σ H) (e:δ[i]? = some (.ob b c)) (ea:σ.getD i none=some (.ref a)) (hc:Cont F (upd H a o) a c'):EI io H0 F0 F (δ.set i (.ob b c')) σ (upd H a o):=by
 obtain ⟨a',e1,h1,h2,h3,h4⟩:=I.get i _ e
 rw [ea] at e1;cases e1
 refine ⟨I.base.upd h1,I.sub.upd h2,I.ext,I.new,by simpa using I.len,fun j s ej=>?_,fun j k b1 c1 b2 c2 a' ne e1 e2 e3 e4=>?_⟩
 ·rw [List.getElem?_set] at ej
  split at ej
  ·rename_i hij
   subst hij
   split at ej
   ·cases ej
    exact ⟨a,ea,h1,h2,hc,h4⟩
   ·cases ej
  ·rename_i hij
   refine (I.get j s ej).mono (Same.refl _) fun a' b' c' es eo=>?_
   subst es
   obtain ⟨a'',q1,q2,q3,q4,_⟩:=I.get j _ ej
   rw [eo] at q1;cases q1
   refine ⟨q3,fun u hu=>?_⟩
   rw [z0i]
   ·exact hu
   ·rintro rfl
    exact I.apart i j _ _ _ _ _ hij e ej ea eo
 ·have key:∀ {j:Nat}{b1:Bool}{c1:D},(δ.set i (.ob b c'))[j]? = some (Slot.ob b1 c1)→∃ b2 c2,δ[j]? = some (Slot.ob b2 c2):=fun {j b1 c1} h=>by
   rw [List.getElem?_set] at h
   split at h
   ·rename_i hij;subst hij;exact ⟨_,_,e⟩
   ·exact ⟨_,_,h⟩
  obtain ⟨b3,c3,q1⟩:=key e1
  obtain ⟨b4,c4,q2⟩:=key e2
  exact I.apart j k _ _ _ _ a' ne q1 q2 e3 e4
end
end VL
namespace VL
open PySem L2
abbrev TEd:=List Slot→(Bool→D→List Slot→Prop)→Prop
abbrev TTd:=List Slot→(Bool→List Slot→Prop)→Prop
abbrev TLd:=List Slot→(List D→List Slot→Prop)→Prop
structure EndsD where
 nx:List Slot→Prop
 rt:Bool→D→List Slot→Prop
 bk:List Slot→Prop:=fun _=>False
 ct:List Slot→Prop:=fun _=>False
abbrev TSd:=EndsD→List Slot→Prop
abbrev TGd:=D→List Slot→(List Slot→Prop)→Prop
def Sim (te:TE) (td:TEd):Prop:=∀ (io:List (Option Addr)) (H0 F0 F:Hp) (δ:List Slot) (σ:St) (H:Hp) (Q:VK) (Qd:Bool→D→List Slot→Prop),EI io H0 F0 F δ σ H→td δ Qd →
 (∀ b d v δ' F' H',Same F F'→EI (none::io) H0 F0 F' (rsl b d::δ') (some v::σ) H'→Qd b d δ'→Q v H')→te σ H Q
def SimT (te:TT) (td:TTd):Prop:=∀ (io:List (Option Addr)) (H0 F0 F:Hp) (δ:List Slot) (σ:St) (H:Hp) (Q:Bool→Hp→Prop) (Qd:Bool→List Slot→Prop),EI io H0 F0 F δ σ H→td δ Qd →
 (∀ b δ' F' H',Same F F'→EI io H0 F0 F' δ' σ H'→Qd b δ'→Q b H')→te σ H Q
def SimL (te:TA) (td:TLd):Prop:=∀ (io:List (Option Addr)) (H0 F0 F:Hp) (δ:List Slot) (σ:St) (H:Hp) (Q:List V→Hp→Prop) (Qd:List D→List Slot→Prop),EI io H0 F0 F δ σ H→td δ Qd →
 (∀ ds vs δ' F' H',Same F F'→EI io H0 F0 F' δ' σ H'→Reps F' ds vs→Qd ds δ'→Q vs H')→te σ H Q
def SimG (g:TG) (gd:TGd):Prop:=∀ (io:List (Option Addr)) (H0 F0 F:Hp) (δ:List Slot) (σ:St) (H:Hp) (d:D) (v:V) (Q:St→Hp→Prop) (Qd:List Slot→Prop),EI io H0 F0 F δ σ H→Rep F d v→gd d δ Qd →
 (∀ δ' σ',EI io H0 F0 F δ' σ' H→Qd δ'→Q σ' H)→g v σ H Q
structure ESim (io:List (Option Addr)) (H0 F0 F:Hp) (Ed:EndsD) (E:Ends):Prop where
 nx:∀ F' δ' σ' H',Same F F'→EI io H0 F0 F' δ' σ' H'→Ed.nx δ'→E.nx σ' H'
 rt:∀ b d v F' δ' σ' H',Same F F'→EI (none::io) H0 F0 F' (rsl b d::δ') (some v::σ') H'→Ed.rt b d δ'→E.rt v H'
 bk:∀ F' δ' σ' H',Same F F'→EI io H0 F0 F' δ' σ' H'→Ed.bk δ'→E.bk σ' H'
 ct:∀ F' δ' σ' H',Same F F'→EI io H0 F0 F' δ' σ' H'→Ed.ct δ'→E.ct σ' H'
theorem ESim.mono {io:List (Option Addr)}{H0 F0 F F1:Hp}{Ed:EndsD}{E:Ends}(s:Same F F1) (h:ESim io H0 F0 F Ed E):ESim io H0 F0 F1 Ed E :=
 ⟨fun F' δ' σ' H' q=>h.nx F' δ' σ' H' (s.trans q),fun b d v F' δ' σ' H' q=>h.rt b d v F' δ' σ' H' (s.trans q),fun F' δ' σ' H' q=>h.bk F' δ' σ' H' (s.trans q),fun F' δ' σ' H' q=>h.ct F' δ' σ' H' (s.trans q)⟩
def SimS (t:TS) (td:TSd):Prop:=∀ (io:List (Option Addr)) (H0 F0 F:Hp) (δ:List Slot) (σ:St) (H:Hp) (E:Ends) (Ed:EndsD),EI io H0 F0 F δ σ H→td Ed δ→ESim io H0 F0 F Ed E→t E σ H
def DE (X:Cx) (e:Expr) (td:TEd):Prop:=∃ te,PE X e te∧Sim te td
def DT (X:Cx) (e:Expr) (td:TTd):Prop:=∃ te,PT X e te∧SimT te td
def DW (X:Cx) (e:Expr) (td:TTd):Prop:=∃ te,PW X e te∧SimT te td
def DL (X:Cx) (es:List Expr) (td:TLd):Prop:=∃ te,PA X es te∧SimL te td
def DG (X:Cx) (e:Expr) (gd:TGd):Prop:=∃ g,PG X e g∧SimG g gd
def DS (X:Cx) (s:Stmt) (td:TSd):Prop:=∃ t,PS X s t∧SimS t td
def DSs (X:Cx) (s:List Stmt) (td:TSd):Prop:=∃ t,PSs X s t∧SimS t td
section
variable {io:List (Option Addr)}{H0 F0 F:Hp}{δ:List Slot}{σ:St}{H:Hp}
theorem Sim.fz {te:TE}{td:TEd}(s:Sim te td) {Q:VK}{Qd:D→List Slot→Prop}(I:EI io H0 F0 F δ σ H) (h:td δ fun _ d δ'=>Qd d δ')
  (k:∀ d v δ' F' H',Same F F'→EI io H0 F0 F' δ' σ H'→Rep F' d v→Qd d δ'→Q v H'):te σ H Q :=
 s io H0 F0 F δ σ H Q _ I h fun b d v δ' F' H' sf I' q=>by
  obtain ⟨F2,s2,I2,r⟩:=I'.fr
  exact k d v δ' F2 H' (sf.trans s2) I2 r q
theorem z2b {o:V}{i:Nat}(h:σ.getD i none=some o):σ[i]? = some (some o):=by
 rw [List.getD_eq_getElem?_getD] at h
 cases q:σ[i]? with
 |none=>rw [q] at h;cases h
 |some z=>rw [q] at h;simp at h;rw [h]
end
def dC (d:D):TEd:=fun δ Q=>Q false d δ
theorem sim_C {d:D}{v:V}(h:∀ F,Rep F d v):Sim (tC v) (dC d):=fun io H0 F0 F δ σ H Q Qd I q k=>k false d v δ F H (Same.refl _) (I.pushF (h F)) q
def dVar (i:Nat):TEd:=fun δ Q =>
 match δ[i]? with
 |some (.fz d)=>Q false d δ
 |some (.ob false c)=>Q false c (δ.set i (.fz c))
 |_=>False
def dMv (i:Nat):TEd:=fun δ Q =>
 match δ[i]? with
 |some (.fz d)=>Q false d δ
 |some (.ob false c)=>Q true c (δ.set i .no)
 |_=>False
theorem sim_var (i:Nat):Sim (tVar i) (dVar i):=by
 intro io H0 F0 F δ σ H Q Qd I q k
 unfold dVar at q
 split at q
 ·rename_i d h
  obtain ⟨v,e,r⟩:=I.get i _ h
  exact ⟨v,z2b e,k false d v δ F H (Same.refl _) (I.pushF r) q⟩
 ·rename_i c h
  obtain ⟨F',a,sf,I',e,r⟩:=I.freeze h
  exact ⟨.ref a,z2b e,k false c (.ref a) _ F' H sf (I'.pushF r) q⟩
 ·exact q.elim
theorem sim_mv (i:Nat):Sim (tVar i) (dMv i):=by
 intro io H0 F0 F δ σ H Q Qd I q k
 unfold dMv at q
 split at q
 ·rename_i d h
  obtain ⟨v,e,r⟩:=I.get i _ h
  exact ⟨v,z2b e,k false d v δ F H (Same.refl _) (I.pushF r) q⟩
 ·rename_i c h
  obtain ⟨a,e,h1,h2,h3,h4⟩:=I.get i _ h
  refine ⟨.ref a,z2b e,k true c (.ref a) _ F H (Same.refl _) (I.forget.push ⟨a,rfl,h1,h2,h3,fun z=>by cases z⟩ ?_) q⟩
  intro b c' a' es ev j b2 c2 ej eo
  cases ev
  rw [List.getElem?_set] at ej
  split at ej
  ·split at ej <;> cases ej
  ·rename_i hij
   exact I.apart i j _ _ _ _ a hij h ej e eo
 ·exact q.elim
section
variable {X:Cx}{pos:Pos}
theorem z0d {i j pos}:DE X (.Constant (.int i) j pos) (dC (.int i)):=⟨_,z3j,sim_C fun _=>rfl⟩
theorem de_bl {b j pos}:DE X (.Constant (.bool b) j pos) (dC (.bl b)):=⟨_,pe_bl,sim_C fun _=>rfl⟩
theorem z0z {x j pos}:DE X (.Constant (.str x) j pos) (dC (.str x)):=⟨_,pe_str,sim_C fun _=>rfl⟩
theorem dv (i:Nat) {x:Str}{pos:Pos}(hN:X.N[i]? = some x:=by rfl) (hv:Vis X.env.scope x:=by first|exact Or.inl rfl|exact Or.inr (Or.inl rfl)|exact Or.inr (Or.inr rfl)) (hd:(x == ("__debug__":Str))=false:=by decide)
  (hcd:(x == ("__classdict__":Str))=false:=by decide):DE X (.Name x pos) (dVar i):=⟨_,pe_var hN hv hd hcd,sim_var i⟩
theorem dm (i:Nat) {x:Str}{pos:Pos}(hN:X.N[i]? = some x:=by rfl) (hv:Vis X.env.scope x:=by first|exact Or.inl rfl|exact Or.inr (Or.inl rfl)|exact Or.inr (Or.inr rfl)) (hd:(x == ("__debug__":Str))=false:=by decide)
  (hcd:(x == ("__classdict__":Str))=false:=by decide):DE X (.Name x pos) (dMv i):=⟨_,pe_var hN hv hd hcd,sim_mv i⟩
theorem de_glob {x:Str}{d:D}{v:V}{u:Value}{pos:Pos}(hs:∀ F,Rep F d v) (hg:Gl X x) (hm:X.mg x=some u) (r:RelV v u) (hd:(x == ("__debug__":Str))=false:=by decide):DE X (.Name x pos) (dC d):=⟨_,pe_glob hg hm r hd,sim_C hs⟩
theorem z5l {x:Str}{n:String}{pos:Pos}(hg:Gl X x) (hm:X.mg x=none) (hv:bootBuiltins x=some (.type n)) (hn:x ≠ "__name__":=by decide) (hd:(x == ("__debug__":Str))=false:=by decide):DE X (.Name x pos) (dC (.ty n)):=⟨_,pe_bltn (v:=.ty n) hg hm hv rfl hn hd,sim_C fun _=>rfl⟩
end
def OpS (r:R2) (f:D→D→(Bool→D→Prop)→Prop):Prop:=∀ (io:List (Option Addr)) (H0 F0 F:Hp) (δ:List Slot) (σ:St) (H:Hp) (x y:D) (v u:V) (Q:VK) (Qd:Bool→D→Prop),EI io H0 F0 F δ σ H→Pk F H x v→Pk F H y u→f x y Qd →
 (∀ b d w F' H',Same F F'→EI (none::io) H0 F0 F' (rsl b d::δ) (some w::σ) H'→Qd b d→Q w H')→r v u H Q
def dOp (f:D→D→(Bool→D→Prop)→Prop) (da db:TEd):TEd:=fun δ Q=>da δ fun _ x δ1=>db δ1 fun _ y δ2=>f x y fun b d=>Q b d δ2
def dOpV (f:D→D→(Bool→D→Prop)→Prop) (i:Nat) (db:TEd):TEd:=fun δ Q=>(peek δ i).isSome=true∧db δ fun _ y δ2=>∃ x,peek δ2 i=some x∧f x y fun b d=>Q b d δ2
def dOpW (f:D→D→(Bool→D→Prop)→Prop) (da:TEd) (j:Nat):TEd:=fun δ Q=>da δ fun _ x δ1=>∃ y,peek δ1 j=some y∧f x y fun b d=>Q b d δ1
theorem sim_op {r:R2}{f:D→D→(Bool→D→Prop)→Prop}{ta tb:TE}{da db:TEd}(hs:OpS r f) (sa:Sim ta da) (sb:Sim tb db):Sim (tOp r ta tb) (dOp f da db):=by
 intro io H0 F0 F δ σ H Q Qd I q k
 refine sa.fz I q fun x v δ1 F1 H1 s1 I1 r1 q1=>sb.fz I1 q1 fun y u δ2 F2 H2 s2 I2 r2 q2=>?_
 exact hs io H0 F0 F2 δ2 σ H2 x y v u Q _ I2 (.inl (Rep.mono s2 _ _ r1)) (.inl r2) q2 fun b d w F' H' s' I' z=>k b d w δ2 F' H' ((s1.trans s2).trans s') I' z
theorem sim_opV {r:R2}{f:D→D→(Bool→D→Prop)→Prop}{tb:TE}{i:Nat}{db:TEd}(hs:OpS r f) (sb:Sim tb db):Sim (tOp r (tVar i) tb) (dOpV f i db):=by
 intro io H0 F0 F δ σ H Q Qd I q k
 obtain ⟨p0,q⟩:=q
 obtain ⟨d0,e0⟩:=Option.isSome_iff_exists.mp p0
 obtain ⟨v0,ev,_⟩:=I.pk e0
 refine ⟨v0,ev,?_⟩
 refine sb.fz I q fun y u δ2 F2 H2 s2 I2 r2 q2=>?_
 obtain ⟨x,ex,q2⟩:=q2
 obtain ⟨v,ev',pv⟩:=I2.pk ex
 rw [ev] at ev';cases ev'
 exact hs io H0 F0 F2 δ2 σ H2 x y _ u Q _ I2 pv (.inl r2) q2 fun b d w F' H' s' I' z=>k b d w δ2 F' H' (s2.trans s') I' z
theorem sim_opW {r:R2}{f:D→D→(Bool→D→Prop)→Prop}{ta:TE}{j:Nat}{da:TEd}(hs:OpS r f) (sa:Sim ta da):Sim (tOp r ta (tVar j)) (dOpW f da j):=by
 intro io H0 F0 F δ σ H Q Qd I q k
 refine sa.fz I q fun x v δ1 F1 H1 s1 I1 r1 q1=>?_
 obtain ⟨y,ey,q1⟩:=q1
 obtain ⟨u,eu,pu⟩:=I1.pk ey
 exact ⟨u,eu,hs io H0 F0 F1 δ1 σ H1 x y v u Q _ I1 (.inl r1) pu q1 fun b d w F' H' s' I' z=>k b d w δ1 F' H' (s1.trans s') I' z⟩
section
variable {X:Cx}{pos:Pos}{a b:Expr}{da db:TEd}{f:D→D→(Bool→D→Prop)→Prop}{r:R2}
theorem z0m {op:Operator}(hs:OpS r f) (ho:OpR X (binaryOp op) r) (ha:DE X a da) (hb:DE X b db):DE X (.BinOp a op b pos) (dOp f da db):=by
 obtain ⟨ta,pa,sa⟩:=ha;obtain ⟨tb,pb,sb⟩:=hb;exact ⟨_,pe_op ho pa pb,sim_op hs sa sb⟩
theorem de_cmp {op:CmpOp}(hs:OpS r f) (ho:OpR X (compareOp op) r) (ha:DE X a da) (hb:DE X b db) (hm:behindInMarks op b=false):DE X (.Compare a [op] [b] pos) (dOp f da db):=by
 obtain ⟨ta,pa,sa⟩:=ha;obtain ⟨tb,pb,sb⟩:=hb;exact ⟨_,z8l ho pa pb hm,sim_op hs sa sb⟩
theorem de_cmpV {op:CmpOp}{i:Nat}{x:Str}{p:Pos}(hs:OpS r f) (ho:OpR X (compareOp op) r) (ha:PE X (.Name x p) (tVar i)) (hb:DE X b db) (hm:behindInMarks op b=false):DE X (.Compare (.Name x p) [op] [b] pos) (dOpV f i db):=by
 obtain ⟨tb,pb,sb⟩:=hb;exact ⟨_,z8l ho ha pb hm,sim_opV hs sb⟩
theorem de_ix (hs:OpS r f) (ho:IxR X r) (ha:DE X a da) (hb:DE X b db) (h:PlainIx b):DE X (.Subscript a b pos) (dOp f da db):=by
 obtain ⟨ta,pa,sa⟩:=ha;obtain ⟨tb,pb,sb⟩:=hb;exact ⟨_,z5z ho pa pb h,sim_op hs sa sb⟩
theorem z0g {i:Nat}{x:Str}{p:Pos}(hs:OpS r f) (ho:IxR X r) (ha:PE X (.Name x p) (tVar i)) (hb:DE X b db) (h:PlainIx b):DE X (.Subscript (.Name x p) b pos) (dOpV f i db):=by
 obtain ⟨tb,pb,sb⟩:=hb;exact ⟨_,z5z ho ha pb h,sim_opV hs sb⟩
end
section
def fI (g:Int→Int→D):D→D→(Bool→D→Prop)→Prop:=fun x y Q=>∃ i j,x = .int i∧y = .int j∧Q false (g i j)
def fIc (C:Int→Int→Prop) (g:Int→Int→D):D→D→(Bool→D→Prop)→Prop:=fun x y Q=>∃ i j,x = .int i∧y = .int j∧C i j∧Q false (g i j)
theorem os_I {g:Int→Int→V}{g':Int→Int→D}(h:∀ i j F,Rep F (g' i j) (g i j)):OpS (rI0 g) (fI g'):=by
 intro io H0 F0 F δ σ H x y v u Q Qd I px py q k
 obtain ⟨i,j,rfl,rfl,q⟩:=q
 exact ⟨i,j,px.int,py.int,k false _ _ F H (Same.refl _) (I.pushF (h i j F)) q⟩
theorem os_Ic {C:Int→Int→Prop}{g:Int→Int→V}{g':Int→Int→D}(h:∀ i j F,Rep F (g' i j) (g i j)):OpS (rI C g) (fIc C g'):=by
 intro io H0 F0 F δ σ H x y v u Q Qd I px py q k
 obtain ⟨i,j,rfl,rfl,c,q⟩:=q
 exact ⟨i,j,px.int,py.int,c,k false _ _ F H (Same.refl _) (I.pushF (h i j F)) q⟩
end
end VL
namespace VL
open PySem L2
section
variable {io:List (Option Addr)}{H0 F0 F:Hp}{δ:List Slot}{σ:St}{H:Hp}
theorem EI.pS {x:Str}(I:EI io H0 F0 F δ σ H):EI (none::io) H0 F0 F (rsl false (.str x)::δ) (some (.str x)::σ) H:=I.pushF rfl
theorem EI.pI {x:Int}(I:EI io H0 F0 F δ σ H):EI (none::io) H0 F0 F (rsl false (.int x)::δ) (some (.int x)::σ) H:=I.pushF rfl
theorem EI.pB {x:Bool}(I:EI io H0 F0 F δ σ H):EI (none::io) H0 F0 F (rsl false (.bl x)::δ) (some (.bl x)::σ) H:=I.pushF rfl
theorem EI.pN (I:EI io H0 F0 F δ σ H):EI (none::io) H0 F0 F (rsl false .non::δ) (some .non::σ) H:=I.pushF rfl
end
theorem z2h:OpS (rI0 fun i j=>.int (i+j)) (fI fun i j=>.int (i+j)):=os_I fun _ _ _=>rfl
theorem os_sub:OpS (rI0 fun i j=>.int (i - j)) (fI fun i j=>.int (i - j)):=os_I fun _ _ _=>rfl
theorem z7w:OpS (rI CMul fun i j=>.int (i * j)) (fIc CMul fun i j=>.int (i * j)):=os_Ic fun _ _ _=>rfl
theorem z1q:OpS (rI (fun _ j=>0 < j) fun i j=>.int (i % j)) (fIc (fun _ j=>0 < j) fun i j=>.int (i % j)):=os_Ic fun _ _ _=>rfl
theorem z3b:OpS (rI (fun _ j=>0 < j∧j.natAbs.log2 < 9000) fun i j=>.int (i / j)) (fIc (fun _ j=>0 < j∧j.natAbs.log2 < 9000) fun i j=>.int (i / j)):=os_Ic fun _ _ _=>rfl
theorem os_lt:OpS (rI0 fun i j=>.bl (decide (i < j))) (fI fun i j=>.bl (decide (i < j))):=os_I fun _ _ _=>rfl
theorem os_gt:OpS (rI0 fun i j=>.bl (decide (j < i))) (fI fun i j=>.bl (decide (j < i))):=os_I fun _ _ _=>rfl
theorem os_ge:OpS (rI0 fun i j=>.bl (decide (j≤i))) (fI fun i j=>.bl (decide (j≤i))):=os_I fun _ _ _=>rfl
def sEq:D→D→Option Bool
 |.int i,.int j=>some (decide (i=j))
 |.str i,.str j=>some (decide (i=j))
 |.bl i,.bl j=>some (decide (i=j))
 |.non,.non=>some true
 |.non,.int _=>some false | .int _,.non=>some false | .non,.str _=>some false | .str _,.non=>some false | .non,.bl _=>some false | .bl _,.non=>some false
 |.int _,.str _=>some false | .str _,.int _=>some false | .bl _,.str _=>some false | .str _,.bl _=>some false
 |_,_=>none
def fEq:D→D→(Bool→D→Prop)→Prop:=fun x y Q=>∃ b,sEq x y=some b∧Q false (.bl b)
def fNe:D→D→(Bool→D→Prop)→Prop:=fun x y Q=>∃ b,sEq x y=some b∧Q false (.bl (!b))
theorem sEq_scal {F H:Hp}{x y:D}{v u:V}{b:Bool}(px:Pk F H x v) (py:Pk F H y u) (h:sEq x y=some b):scal v u=true∧decide (v=u)=b:=by
 cases x <;> cases y <;> simp only [sEq] at h <;> first
  |(cases h;fail)
  |(have e1:=px.int;have e2:=py.int;subst e1 e2;cases h;exact ⟨rfl,by simp⟩)
  |(have e1:=px.str;have e2:=py.str;subst e1 e2;cases h;exact ⟨rfl,by simp⟩)
  |(have e1:=px.bl;have e2:=py.bl;subst e1 e2;cases h;exact ⟨rfl,by simp⟩)
  |(have e1:=px.non;have e2:=py.non;subst e1 e2;cases h;exact ⟨rfl,by simp⟩)
  |(have e1:=px.non;have e2:=py.int;subst e1 e2;cases h;exact ⟨rfl,by simp⟩)
  |(have e1:=px.int;have e2:=py.non;subst e1 e2;cases h;exact ⟨rfl,by simp⟩)
  |(have e1:=px.non;have e2:=py.str;subst e1 e2;cases h;exact ⟨rfl,by simp⟩)
  |(have e1:=px.str;have e2:=py.non;subst e1 e2;cases h;exact ⟨rfl,by simp⟩)
  |(have e1:=px.non;have e2:=py.bl;subst e1 e2;cases h;exact ⟨rfl,by simp⟩)
  |(have e1:=px.bl;have e2:=py.non;subst e1 e2;cases h;exact ⟨rfl,by simp⟩)
  |(have e1:=px.int;have e2:=py.str;subst e1 e2;cases h;exact ⟨rfl,by simp⟩)
  |(have e1:=px.str;have e2:=py.int;subst e1 e2;cases h;exact ⟨rfl,by simp⟩)
  |(have e1:=px.bl;have e2:=py.str;subst e1 e2;cases h;exact ⟨rfl,by simp⟩)
  |(have e1:=px.str;have e2:=py.bl;subst e1 e2;cases h;exact ⟨rfl,by simp⟩)
  |(cases h)
theorem z3d:OpS rEq fEq:=by
 intro io H0 F0 F δ σ H x y v u Q Qd I px py q k
 obtain ⟨b,e,q⟩:=q
 obtain ⟨h1,h2⟩:=sEq_scal px py e
 refine ⟨h1,k false (.bl b) _ F H (Same.refl _) (I.pushF ?_) q⟩
 rw [h2];rfl
theorem os_ne:OpS rNe fNe:=by
 intro io H0 F0 F δ σ H x y v u Q Qd I px py q k
 obtain ⟨b,e,q⟩:=q
 obtain ⟨h1,h2⟩:=sEq_scal px py e
 refine ⟨h1,k false (.bl (!b)) _ F H (Same.refl _) (I.pushF ?_) q⟩
 rw [h2];rfl
def fCatS:D→D→(Bool→D→Prop)→Prop:=fun x y Q=>∃ i j,x = .str i∧y = .str j∧i.length+j.length≤sizeLine∧Q false (.str (i ++ j))
theorem os_catS:OpS (fun x y H Q=>∃ i j,x = .str i∧y = .str j∧i.length+j.length≤sizeLine∧Q (.str (i ++ j)) H) fCatS:=by
 intro io H0 F0 F δ σ H x y v u Q Qd I px py q k
 obtain ⟨i,j,rfl,rfl,h,q⟩:=q
 exact ⟨i,j,px.str,py.str,h,k false _ _ F H (Same.refl _) I.pS q⟩
theorem EI.newL {io:List (Option Addr)}{H0 F0 F:Hp}{δ:List Slot}{σ:St}{H:Hp}{p:Addr}{ds:List D}{vs:List V}(I:EI io H0 F0 F δ σ H) (hp:H p=none) (r:Reps F ds vs):EI (none::io) H0 F0 F (rsl true (.lst ds)::δ) (some (.ref p)::σ) (upd H p (.lst vs)):=by
 refine (I.alloc hp).push ⟨p,rfl,I.base.free hp,I.sub.free hp,⟨vs,z0l,r⟩,fun z=>by cases z⟩ fun b c a es ev j b' c' ej eo=>?_
 cases ev
 obtain ⟨a',e1,_,_,h3,_⟩:=I.get j _ ej
 rw [eo] at e1;cases e1
 obtain ⟨u,hu⟩:=h3.some
 rw [hp] at hu;cases hu
theorem EI.newD {io:List (Option Addr)}{H0 F0 F:Hp}{δ:List Slot}{σ:St}{H:Hp}{p:Addr}{ds:List (Key × D)}{vs:List (Key × V)}(I:EI io H0 F0 F δ σ H) (hp:H p=none) (r:RepK F ds vs):EI (none::io) H0 F0 F (rsl true (.dct ds)::δ) (some (.ref p)::σ) (upd H p (.dK vs)):=by
 refine (I.alloc hp).push ⟨p,rfl,I.base.free hp,I.sub.free hp,⟨vs,z0l,r⟩,fun z=>by cases z⟩ fun b c a es ev j b' c' ej eo=>?_
 cases ev
 obtain ⟨a',e1,_,_,h3,_⟩:=I.get j _ ej
 rw [eo] at e1;cases e1
 obtain ⟨u,hu⟩:=h3.some
 rw [hp] at hu;cases hu
theorem EI.newT {io:List (Option Addr)}{H0 F0 F:Hp}{δ:List Slot}{σ:St}{H:Hp}{p:Addr}{ds:List D}{vs:List V}(I:EI io H0 F0 F δ σ H) (hp:H p=none) (r:Reps F ds vs):∃ F',Same F F'∧EI io H0 F0 F' δ σ (upd H p (.tup vs))∧Rep F' (.tup ds) (.ref p) :=
 ⟨upd F p (.tup vs),Same.of_new (I.sub.free hp),I.allocF hp,p,vs,rfl,z0l,Reps.mono (Same.of_new (I.sub.free hp)) _ _ r⟩
def fCat:D→D→(Bool→D→Prop)→Prop:=fun x y Q=>∃ xs ys,x = .lst xs∧y = .lst ys∧xs.length+ys.length≤sizeLine∧Q true (.lst (xs ++ ys))
theorem z3n:OpS rCat fCat:=by
 intro io H0 F0 F δ σ H x y v u Q Qd I px py q k
 obtain ⟨xs,ys,rfl,rfl,hl,q⟩:=q
 obtain ⟨a,vs,rfl,h1,r1⟩:=px.lst I
 obtain ⟨b,us,rfl,h2,r2⟩:=py.lst I
 exact ⟨a,b,vs,us,rfl,rfl,h1,h2,by rw [← r1.len,← r2.len];exact hl,fun p hp=>k true _ _ F _ (Same.refl _) (I.newL hp (r1.app r2)) q⟩
def fIxL:D→D→(Bool→D→Prop)→Prop:=fun x y Q=>∃ xs i d,x = .lst xs∧y = .int i∧atI xs i=some d∧Q false d
def fIxT:D→D→(Bool→D→Prop)→Prop:=fun x y Q=>∃ xs i d,x = .tup xs∧y = .int i∧atI xs i=some d∧Q false d
def fIxS:D→D→(Bool→D→Prop)→Prop:=fun x y Q=>∃ z i c,x = .str z∧y = .int i∧z.length≤sizeLine∧atI z.cps.toList i=some c∧Q false (.str ⟨#[c]⟩)
theorem Reps.atI {F:Hp}{ds:List D}{vs:List V}{i:Int}{d:D}(r:Reps F ds vs) (h:atI ds i=some d):∃ v,L2.atI vs i=some v∧Rep F d v:=by
 unfold L2.atI at h ⊢
 rw [← r.len]
 cases e:ixN ds.length i with
 |none=>rw [e] at h;cases h
 |some j=>rw [e] at h;exact r.get h
theorem z2j:OpS (fun x y H Q=>∃ p i,x = .ref p∧y = .int i∧∃ xs,H p=some (.lst xs)∧∃ v,atI xs i=some v∧Q v H) fIxL:=by
 intro io H0 F0 F δ σ H x y v u Q Qd I px py q k
 obtain ⟨xs,i,d,rfl,rfl,h,q⟩:=q
 obtain ⟨a,vs,rfl,h1,r1⟩:=px.lst I
 obtain ⟨w,e,r⟩:=r1.atI h
 exact ⟨a,i,rfl,py.int,vs,h1,w,e,k false d w F H (Same.refl _) (I.pushF r) q⟩
theorem z0j:OpS (fun x y H Q=>∃ p i,x = .ref p∧y = .int i∧∃ xs,H p=some (.tup xs)∧∃ v,atI xs i=some v∧Q v H) fIxT:=by
 intro io H0 F0 F δ σ H x y v u Q Qd I px py q k
 obtain ⟨xs,i,d,rfl,rfl,h,q⟩:=q
 obtain ⟨a,vs,rfl,h1,r1⟩:=px.tup I
 obtain ⟨w,e,r⟩:=r1.atI h
 exact ⟨a,i,rfl,py.int,vs,h1,w,e,k false d w F H (Same.refl _) (I.pushF r) q⟩
theorem os_ixS:OpS rIxS fIxS:=by
 intro io H0 F0 F δ σ H x y v u Q Qd I px py q k
 obtain ⟨z,i,c,rfl,rfl,hl,h,q⟩:=q
 exact ⟨z,i,c,px.str,py.int,hl,h,k false _ _ F H (Same.refl _) I.pS q⟩
mutual
def eqb:D→Bool
 |.int _=>true
 |.str _=>true
 |.lst xs=>eqbL xs
 |.tup xs=>eqbL xs
 |_=>false
def eqbL:List D→Bool
 | []=>true
 |d::r=>eqb d && eqbL r
end
mutual
def dep:D→Nat
 |.lst xs=>depL xs+1
 |.tup xs=>depL xs+1
 |_=>0
def depL:List D→Nat
 | []=>0
 |d::r=>max (dep d) (depL r)
end
mutual
theorem eqT_of {F H:Hp}(s:Same F H):∀ (d:D) (n:Nat) (v u:V),eqb d=true→dep d≤n→Rep F d v→Rep F d u→EqT H n v u
 |.int i,n,v,u,_,_,h1,h2=>by cases (show v = .int i from h1);cases (show u = .int i from h2);exact .int i
 |.str i,n,v,u,_,_,h1,h2=>by cases (show v = .str i from h1);cases (show u = .str i from h2);exact .str i
 |.lst ds,0,v,u,_,h,h1,h2=>by simp [dep] at h
 |.lst ds,n+1,v,u,he,hn,h1,h2=>by
  obtain ⟨a,vs,rfl,e1,r1⟩:=h1
  obtain ⟨b,us,rfl,e2,r2⟩:=h2
  exact .lst (s _ _ e1) (s _ _ e2) (by rw [← r1.len,← r2.len]) (y1s s ds n vs us (by simpa [eqb] using he) (by simp [dep] at hn;omega) r1 r2)
 |.tup ds,0,v,u,_,h,h1,h2=>by simp [dep] at h
 |.tup ds,n+1,v,u,he,hn,h1,h2=>by
  obtain ⟨a,vs,rfl,e1,r1⟩:=h1
  obtain ⟨b,us,rfl,e2,r2⟩:=h2
  exact .tup (s _ _ e1) (s _ _ e2) (by rw [← r1.len,← r2.len]) (y1s s ds n vs us (by simpa [eqb] using he) (by simp [dep] at hn;omega) r1 r2)
 |.non,n,v,u,h,_,h1,h2=>by simp [eqb] at h
 |.bl _,n,v,u,h,_,h1,h2=>by simp [eqb] at h
 |.ty _,n,v,u,h,_,h1,h2=>by simp [eqb] at h
 |.dct _,n,v,u,h,_,h1,h2=>by simp [eqb] at h
theorem y1s {F H:Hp}(s:Same F H):∀ (ds:List D) (n:Nat) (vs us:List V),eqbL ds=true→depL ds≤n→Reps F ds vs→Reps F ds us→∀ (i:Nat) x y,vs[i]? = some x→us[i]? = some y→EqT H n x y
 | [],n,vs,us,_,_,h1,h2,i,x,y,e1,e2=>by cases (show vs=[] from h1);simp at e1
 |d::ds,n,vs,us,he,hn,h1,h2,i,x,y,e1,e2=>by
  obtain ⟨v,r,rfl,q1,r1⟩:=h1
  obtain ⟨u,r',rfl,q2,r2⟩:=h2
  simp [eqbL] at he
  simp [depL] at hn
  cases i with
  |zero=>simp at e1 e2;subst e1 e2;exact eqT_of s d n v u he.1 (by omega) q1 q2
  |succ i=>exact y1s s ds n r r' he.2 (by omega) r1 r2 i x y (by simpa using e1) (by simpa using e2)
end
def fEqL:D→D→(Bool→D→Prop)→Prop:=fun x y Q=>∃ xs ys,x = .lst xs∧y = .lst ys∧((xs.length≠ys.length∧Q false (.bl false))∨(xs=ys∧eqbL xs=true∧depL xs≤90∧Q false (.bl true)))
def fNeL:D→D→(Bool→D→Prop)→Prop:=fun x y Q=>∃ xs ys,x = .lst xs∧y = .lst ys∧((xs.length≠ys.length∧Q false (.bl true))∨(xs=ys∧eqbL xs=true∧depL xs≤90∧Q false (.bl false)))
theorem os_eqL {X:Cx}(hu:X.A.units+100 < cLine):OpS (fun x y H Q=>∃ a b,x = .ref a∧y = .ref b∧∃ xs,H a=some (.lst xs)∧∃ ys,H b=some (.lst ys)∧X.A.units < cLine ∧
  ((xs.length≠ys.length∧Q (.bl false) H)∨(xs.length=ys.length∧(∃ n,(∀ (i:Nat) x y,xs[i]? = some x→ys[i]? = some y→EqT H n x y)∧X.A.units+n+1 < cLine)∧Q (.bl true) H))) fEqL:=by
 intro io H0 F0 F δ σ H x y v u Q Qd I px py q k
 obtain ⟨xs,ys,rfl,rfl,q⟩:=q
 obtain ⟨a,vs,rfl,h1,r1⟩:=px.lst I
 obtain ⟨b,us,rfl,h2,r2⟩:=py.lst I
 refine ⟨a,b,rfl,rfl,vs,h1,us,h2,by omega,?_⟩
 rcases q with ⟨hl,q⟩|⟨rfl,he,hd,q⟩
 ·exact .inl ⟨by rw [← r1.len,← r2.len];exact hl,k false _ _ F H (Same.refl _) I.pB q⟩
 ·exact .inr ⟨by rw [← r1.len,← r2.len],⟨90,y1s I.sub xs 90 vs us he hd r1 r2,by omega⟩,k false _ _ F H (Same.refl _) I.pB q⟩
theorem os_neL {X:Cx}(hu:X.A.units+100 < cLine):OpS (fun x y H Q=>∃ a b,x = .ref a∧y = .ref b∧∃ xs,H a=some (.lst xs)∧∃ ys,H b=some (.lst ys)∧X.A.units < cLine ∧
  ((xs.length≠ys.length∧Q (.bl true) H)∨(xs.length=ys.length∧(∃ n,(∀ (i:Nat) x y,xs[i]? = some x→ys[i]? = some y→EqT H n x y)∧X.A.units+n+1 < cLine)∧Q (.bl false) H))) fNeL:=by
 intro io H0 F0 F δ σ H x y v u Q Qd I px py q k
 obtain ⟨xs,ys,rfl,rfl,q⟩:=q
 obtain ⟨a,vs,rfl,h1,r1⟩:=px.lst I
 obtain ⟨b,us,rfl,h2,r2⟩:=py.lst I
 refine ⟨a,b,rfl,rfl,vs,h1,us,h2,by omega,?_⟩
 rcases q with ⟨hl,q⟩|⟨rfl,he,hd,q⟩
 ·exact .inl ⟨by rw [← r1.len,← r2.len];exact hl,k false _ _ F H (Same.refl _) I.pB q⟩
 ·exact .inr ⟨by rw [← r1.len,← r2.len],⟨90,y1s I.sub xs 90 vs us he hd r1 r2,by omega⟩,k false _ _ F H (Same.refl _) I.pB q⟩
theorem Reps.strs {F:Hp}:∀ {ks:List Str}{vs:List V},Reps F (ks.map D.str) vs→vs=ks.map V.str
 | [],vs,h=>h
 |k::ks,vs,h=>by obtain ⟨v,r,rfl,h1,h2⟩:=h;rw [Reps.strs h2];cases (show v = .str k from h1);rfl
theorem Reps.ints {F:Hp}:∀ {ks:List Int}{vs:List V},Reps F (ks.map D.int) vs→vs=ks.map V.int
 | [],vs,h=>h
 |k::ks,vs,h=>by obtain ⟨v,r,rfl,h1,h2⟩:=h;rw [Reps.ints h2];cases (show v = .int k from h1);rfl
theorem Reps.bls {F:Hp}:∀ {ks:List Bool}{vs:List V},Reps F (ks.map D.bl) vs→vs=ks.map V.bl
 | [],vs,h=>h
 |k::ks,vs,h=>by obtain ⟨v,r,rfl,h1,h2⟩:=h;rw [Reps.bls h2];cases (show v = .bl k from h1);rfl
def fNotInL:D→D→(Bool→D→Prop)→Prop:=fun x y Q=>∃ (k:Str) (ks:List Str),x = .str k∧y = .lst (ks.map .str)∧Q false (.bl (!decide (k∈ks)))
def fInT:D→D→(Bool→D→Prop)→Prop:=fun x y Q=>∃ (k:Str) (ks:List Str),x = .str k∧y = .tup (ks.map .str)∧Q false (.bl (decide (k∈ks)))
theorem y1j:OpS (fun x y H Q=>∃ p,y = .ref p∧∃ xs,H p=some (.lst xs)∧z4f x=true∧xs.all z4f=true∧Q (.bl (!inV x xs)) H) fNotInL:=by
 intro io H0 F0 F δ σ H x y v u Q Qd I px py q k
 obtain ⟨s,ks,rfl,rfl,q⟩:=q
 obtain ⟨b,us,rfl,h2,r2⟩:=py.lst I
 cases px.str
 cases r2.strs
 refine ⟨b,rfl,_,h2,rfl,flat_strs ks,k false _ _ F H (Same.refl _) (I.pushF ?_) q⟩
 rw [inV_strs];rfl
theorem os_inT:OpS (fun x y H Q=>∃ p,y = .ref p∧∃ xs,H p=some (.tup xs)∧z4f x=true∧xs.all z4f=true∧Q (.bl (inV x xs)) H) fInT:=by
 intro io H0 F0 F δ σ H x y v u Q Qd I px py q k
 obtain ⟨s,ks,rfl,rfl,q⟩:=q
 obtain ⟨b,us,rfl,h2,r2⟩:=py.tup I
 cases px.str
 cases r2.strs
 refine ⟨b,rfl,_,h2,rfl,flat_strs ks,k false _ _ F H (Same.refl _) (I.pushF ?_) q⟩
 rw [inV_strs];rfl
end VL
namespace VL
open PySem L2
def z6x (td:TEd):TTd:=fun δ Q=>td δ fun _ d δ'=>∃ c,d = .bl c∧Q c δ'
theorem z8b {te:TE}{td:TEd}(s:Sim te td):SimT (tB te) (z6x td):=by
 intro io H0 F0 F δ σ H Q Qd I q k
 refine s.fz I q fun d v δ' F' H' sf I' r q'=>?_
 obtain ⟨c,rfl,q'⟩:=q'
 exact ⟨c,r,k c δ' F' H' sf I' q'⟩
theorem y1q {te:TE}{td:TEd}(s:Sim te td):SimT (tTest te) (z6x td):=z8b s
def dNot (t:TTd):TTd:=fun δ Q=>t δ fun c δ'=>Q (!c) δ'
def dAnd (t u:TTd):TTd:=fun δ Q=>t δ fun c δ'=>if c=true then u δ' Q else Q false δ'
def dOr (t u:TTd):TTd:=fun δ Q=>t δ fun c δ'=>if c=true then Q true δ' else u δ' Q
theorem simT_not {t:TT}{td:TTd}(s:SimT t td):SimT (tNot t) (dNot td):=fun io H0 F0 F δ σ H Q Qd I q k =>
 s io H0 F0 F δ σ H _ _ I q fun b δ' F' H' sf I' q'=>k (!b) δ' F' H' sf I' q'
theorem simT_and {t u:TT}{td ud:TTd}(s:SimT t td) (s':SimT u ud):SimT (tAnd t u) (dAnd td ud):=by
 intro io H0 F0 F δ σ H Q Qd I q k
 refine s io H0 F0 F δ σ H _ _ I q fun b δ' F' H' sf I' q'=>?_
 cases b with
 |true=>rw [if_pos rfl] at q' ⊢;exact s' io H0 F0 F' δ' σ H' _ _ I' q' fun b δ2 F2 H2 s2 I2 q2=>k b δ2 F2 H2 (sf.trans s2) I2 q2
 |false=>rw [if_neg Bool.false_ne_true] at q' ⊢;exact k false δ' F' H' sf I' q'
theorem simT_or {t u:TT}{td ud:TTd}(s:SimT t td) (s':SimT u ud):SimT (tOr t u) (dOr td ud):=by
 intro io H0 F0 F δ σ H Q Qd I q k
 refine s io H0 F0 F δ σ H _ _ I q fun b δ' F' H' sf I' q'=>?_
 cases b with
 |false=>rw [if_neg Bool.false_ne_true] at q' ⊢;exact s' io H0 F0 F' δ' σ H' _ _ I' q' fun b δ2 F2 H2 s2 I2 q2=>k b δ2 F2 H2 (sf.trans s2) I2 q2
 |true=>rw [if_pos rfl] at q' ⊢;exact k true δ' F' H' sf I' q'
def truD:D→Option Bool
 |.lst xs=>some (!xs.isEmpty)
 |.tup xs=>some (!xs.isEmpty)
 |.dct xs=>some (!xs.isEmpty)
 |.bl b=>some b
 |.int i=>some (i != 0)
 |.non=>some false
 |_=>none
theorem Reps.isEmpty {F:Hp}{ds:List D}{vs:List V}(h:Reps F ds vs):vs.isEmpty=ds.isEmpty:=by
 cases ds with
 |nil=>cases (show vs=[] from h);rfl
 |cons d ds=>obtain ⟨v,r,rfl,_⟩:=h;rfl
theorem RepK.isEmpty {F:Hp}{ds:List (Key × D)}{vs:List (Key × V)}(h:RepK F ds vs):vs.isEmpty=ds.isEmpty:=by
 cases ds with
 |nil=>cases (show vs=[] from h);rfl
 |cons d ds=>obtain ⟨v,r,rfl,_⟩:=h;rfl
theorem truV_of {K:PySem.W.Frag}{io:List (Option Addr)}{H0 F0 F:Hp}{δ:List Slot}{σ:St}{H:Hp}{d:D}{v:V}{b:Bool}(I:EI io H0 F0 F δ σ H) (p:Pk F H d v) (h:truD d=some b):TruV K v H b:=by
 cases d with
 |lst xs =>
  obtain ⟨a,vs,rfl,h1,r⟩:=p.lst I
  cases h
  exact .inl ⟨vs,SqL.of h1,by rw [r.isEmpty]⟩
 |tup xs =>
  obtain ⟨a,vs,rfl,h1,r⟩:=p.tup I
  cases h
  exact .inr (.inl ⟨vs,SqT.of h1,by rw [r.isEmpty]⟩)
 |dct xs =>
  obtain ⟨a,vs,rfl,h1,r⟩:=p.dct I
  cases h
  exact .inr (.inr ⟨vs,h1,by rw [r.isEmpty]⟩)
 |bl c=>cases p.bl;cases h;rfl
 |int c=>cases p.int;cases h;rfl
 |non=>cases p.non;cases h;rfl
 |str c=>cases h
 |ty c=>cases h
def dTruV (i:Nat):TTd:=fun δ Q=>∃ d c,peek δ i=some d∧truD d=some c∧Q c δ
section
variable {X:Cx}{pos:Pos}{a b:Expr}{da db:TEd}{f:D→D→(Bool→D→Prop)→Prop}{r:R2}{rest:List Expr}
theorem z3p (h:DE X a da) (he:∀ whole,isTrue a X.env whole=(do let v ← whole;standAt a.pos;holding [v] (truthy v)):=by intro _;rfl):DT X a (z6x da):=by
 obtain ⟨ta,pa,sa⟩:=h;exact ⟨_,y2j pa he,z8b sa⟩
theorem z1c {op:CmpOp}(hs:OpS r f) (ho:OpR X (compareOp op) r) (ha:DE X a da) (hb:DE X b db) (hm:behindInMarks op b=false):DT X (.Compare a [op] [b] pos) (z6x (dOp f da db)):=by
 obtain ⟨ta,pa,sa⟩:=ha;obtain ⟨tb,pb,sb⟩:=hb;exact ⟨_,z8s ho pa pb hm,y1q (sim_op hs sa sb)⟩
theorem dt_cmpV {op:CmpOp}{i:Nat}{x:Str}{p:Pos}(hs:OpS r f) (ho:OpR X (compareOp op) r) (ha:PE X (.Name x p) (tVar i)) (hb:DE X b db) (hm:behindInMarks op b=false):DT X (.Compare (.Name x p) [op] [b] pos) (z6x (dOpV f i db)):=by
 obtain ⟨tb,pb,sb⟩:=hb;exact ⟨_,z8s ho ha pb hm,y1q (sim_opV hs sb)⟩
theorem dt_cmpW {op:CmpOp}{i:Nat}{x:Str}{p:Pos}(hs:OpS r f) (ho:OpR X (compareOp op) r) (ha:DE X a da) (hb:PE X (.Name x p) (tVar i)) (hm:behindInMarks op (.Name x p)=false):DT X (.Compare a [op] [.Name x p] pos) (z6x (dOpW f da i)):=by
 obtain ⟨ta,pa,sa⟩:=ha;exact ⟨_,z8s ho pa hb hm,y1q (sim_opW hs sa)⟩
theorem z4y {t:TTd}(h:DT X a t):DT X (.UnaryOp .Not a pos) (dNot t):=by obtain ⟨u,p,s⟩:=h;exact ⟨_,pt_not p,simT_not s⟩
theorem z5t {t:TTd}(h:DT X a t):DW X (.BoolOp .And [a] pos) t:=by obtain ⟨u,p,s⟩:=h;exact ⟨_,pw_and1 p,s⟩
theorem dw_or1 {t:TTd}(h:DT X a t):DW X (.BoolOp .Or [a] pos) t:=by obtain ⟨u,p,s⟩:=h;exact ⟨_,pw_or1 p,s⟩
theorem z9b {t u:TTd}(h:DT X a t) (h':DW X (.BoolOp .And (b::rest) pos) u):DW X (.BoolOp .And (a::b::rest) pos) (dAnd t u):=by
 obtain ⟨t',p,s⟩:=h;obtain ⟨u',p',s'⟩:=h';exact ⟨_,pw_and p p',simT_and s s'⟩
theorem dw_or {t u:TTd}(h:DT X a t) (h':DW X (.BoolOp .Or (b::rest) pos) u):DW X (.BoolOp .Or (a::b::rest) pos) (dOr t u):=by
 obtain ⟨t',p,s⟩:=h;obtain ⟨u',p',s'⟩:=h';exact ⟨_,pw_or p p',simT_or s s'⟩
theorem dt_w {t:TTd}(h:DW X a t):DT X a t:=by obtain ⟨u,p,s⟩:=h;exact ⟨_,p.pt,s⟩
theorem dt_truthV {i:Nat}{x:Str}{p:Pos}(ha:PE X (.Name x p) (tVar i)) (he:∀ whole,isTrue (.Name x p) X.env whole=(do let v ← whole;standAt (Expr.Name x p).pos;holding [v] (truthy v)):=by intro _;rfl):DT X (.Name x p) (dTruV i):=by
 refine ⟨_,pt_truth ha he,fun io H0 F0 F δ σ H Q Qd I q k=>?_⟩
 obtain ⟨d,c,e,ec,q⟩:=q
 obtain ⟨v,ev,pk⟩:=I.pk e
 exact ⟨v,ev,c,truV_of I pk ec,k c δ F H (Same.refl _) I q⟩
def dAndV (ta tb:TEd):TEd:=fun δ Q=>ta δ fun _ x δ'=>∃ c,x = .bl c∧if c=true then tb δ' Q else Q false (.bl false) δ'
def dNotV (ta:TEd):TEd:=fun δ Q=>ta δ fun _ x δ'=>∃ c,x = .bl c∧Q false (.bl (!c)) δ'
def dIf (t:TTd) (ta tb:TEd):TEd:=fun δ Q=>t δ fun c δ'=>if c=true then ta δ' Q else tb δ' Q
theorem de_one {op} (h:DE X a da):DE X (.BoolOp op [a] pos) da:=by obtain ⟨t,p,s⟩:=h;exact ⟨_,pe_one p,s⟩
theorem de_and (ha:DE X a da) (hb:DE X (.BoolOp .And (b::rest) pos) db):DE X (.BoolOp .And (a::b::rest) pos) (dAndV da db):=by
 obtain ⟨ta,pa,sa⟩:=ha;obtain ⟨tb,pb,sb⟩:=hb
 refine ⟨_,pe_and pa pb,fun io H0 F0 F δ σ H Q Qd I q k=>sa.fz I q fun d v δ' F' H' sf I' r q'=>?_⟩
 obtain ⟨c,rfl,q'⟩:=q'
 refine ⟨c,r,?_⟩
 cases c with
 |true=>rw [if_pos rfl] at q' ⊢;exact sb io H0 F0 F' δ' σ H' Q Qd I' q' fun b d v δ2 F2 H2 s2 I2 q2=>k b d v δ2 F2 H2 (sf.trans s2) I2 q2
 |false=>rw [if_neg Bool.false_ne_true] at q' ⊢;exact k false _ _ δ' F' H' sf I'.pB q'
theorem de_not (ha:DE X a da):DE X (.UnaryOp .Not a pos) (dNotV da):=by
 obtain ⟨ta,pa,sa⟩:=ha
 refine ⟨_,pe_not pa,fun io H0 F0 F δ σ H Q Qd I q k=>sa.fz I q fun d v δ' F' H' sf I' r q'=>?_⟩
 obtain ⟨c,rfl,q'⟩:=q'
 exact ⟨c,r,k false _ _ δ' F' H' sf I'.pB q'⟩
theorem de_if {c:Expr}{t:TTd}(hc:DT X c t) (ha:DE X a da) (hb:DE X b db):DE X (.IfExp c a b pos) (dIf t da db):=by
 obtain ⟨tc,pc,sc⟩:=hc;obtain ⟨ta,pa,sa⟩:=ha;obtain ⟨tb,pb,sb⟩:=hb
 refine ⟨_,pe_ifExp pc pa pb,fun io H0 F0 F δ σ H Q Qd I q k=>sc io H0 F0 F δ σ H _ _ I q fun c δ' F' H' sf I' q'=>?_⟩
 cases c with
 |true=>rw [if_pos rfl] at q' ⊢;exact sa io H0 F0 F' δ' σ H' Q Qd I' q' fun b d v δ2 F2 H2 s2 I2 q2=>k b d v δ2 F2 H2 (sf.trans s2) I2 q2
 |false=>rw [if_neg Bool.false_ne_true] at q' ⊢;exact sb io H0 F0 F' δ' σ H' Q Qd I' q' fun b d v δ2 F2 H2 s2 I2 q2=>k b d v δ2 F2 H2 (sf.trans s2) I2 q2
def dNeg (ta:TEd):TEd:=fun δ Q=>ta δ fun _ x δ'=>∃ i,x = .int i∧Q false (.int (-i)) δ'
theorem de_neg (ha:DE X a da):DE X (.UnaryOp .USub a pos) (dNeg da):=by
 obtain ⟨ta,pa,sa⟩:=ha
 refine ⟨_,pe_un un_neg pa,fun io H0 F0 F δ σ H Q Qd I q k=>sa.fz I q fun d v δ' F' H' sf I' r q'=>?_⟩
 obtain ⟨c,rfl,q'⟩:=q'
 exact ⟨c,r,k false _ _ δ' F' H' sf I'.pI q'⟩
def dNil:TLd:=fun δ Q=>Q [] δ
def z7c (t:TEd) (u:TLd):TLd:=fun δ Q=>t δ fun _ d δ'=>u δ' fun ds δ''=>Q (d::ds) δ''
theorem z0e:DL X [] dNil:=⟨_,z1g,fun io H0 F0 F δ σ H Q Qd I q k=>k [] [] δ F H (Same.refl _) I rfl q⟩
theorem z0a {es:List Expr}{u:TLd}(ha:DE X a da) (hr:DL X es u) (hs:starEach (a::es) X.env=(false,eval a X.env)::starEach es X.env:=by rfl):DL X (a::es) (z7c da u):=by
 obtain ⟨ta,pa,sa⟩:=ha;obtain ⟨tr,pr,sr⟩:=hr
 refine ⟨_,z0k pa pr hs,fun io H0 F0 F δ σ H Q Qd I q k=>sa.fz I q fun d v δ' F' H' sf I' r q'=>sr io H0 F0 F' δ' σ H' _ _ I' q' fun ds vs δ2 F2 H2 s2 I2 r2 q2=>?_⟩
 exact k (d::ds) (v::vs) δ2 F2 H2 (sf.trans s2) I2 ⟨v,vs,rfl,Rep.mono s2 _ _ r,r2⟩ q2
def dTup (u:TLd):TEd:=fun δ Q=>u δ fun ds δ'=>ds.length≤sizeLine∧Q false (.tup ds) δ'
def dLst (u:TLd):TEd:=fun δ Q=>u δ fun ds δ'=>ds.length≤sizeLine∧Q true (.lst ds) δ'
theorem z2a {x1} {es:List Expr}{u:TLd}(h:DL X es u):DE X (.Tuple es x1 pos) (dTup u):=by
 obtain ⟨t,p,s⟩:=h
 refine ⟨_,pe_tup p,fun io H0 F0 F δ σ H Q Qd I q k=>s io H0 F0 F δ σ H _ _ I q fun ds vs δ' F' H' sf I' r q'=>⟨by rw [← r.len];exact q'.1,fun p hp=>?_⟩⟩
 obtain ⟨F2,s2,I2,r2⟩:=I'.newT hp r
 exact k false _ _ δ' F2 _ (sf.trans s2) (I2.pushF r2) q'.2
theorem z1f {es:List Expr}{u:TLd}(h:DL X es u):DE X (.List es pos) (dLst u):=by
 obtain ⟨t,p,s⟩:=h
 exact ⟨_,z5y p,fun io H0 F0 F δ σ H Q Qd I q k=>s io H0 F0 F δ σ H _ _ I q fun ds vs δ' F' H' sf I' r q'=>⟨by rw [← r.len];exact q'.1,fun p hp=>k true _ _ δ' F' _ sf (I'.newL hp r) q'.2⟩⟩
end
def z7a (r:List V→Hp→VK→Prop) (f:List D→(Bool→D→Prop)→Prop):Prop:=∀ (io:List (Option Addr)) (H0 F0 F:Hp) (δ:List Slot) (σ:St) (H:Hp) (xs:List D) (vs:List V) (Q:VK) (Qd:Bool→D→Prop),EI io H0 F0 F δ σ H→Paired (Pk F H) xs vs→f xs Qd →
 (∀ b d w F' H',Same F F'→EI (none::io) H0 F0 F' (rsl b d::δ) (some w::σ) H'→Qd b d→Q w H')→r vs H Q
theorem Reps.pks {F H:Hp}:∀ {ds:List D}{vs:List V},Reps F ds vs→Paired (Pk F H) ds vs
 | [],vs,h=>by cases (show vs=[] from h);exact .nil
 |d::ds,vs,h=>by obtain ⟨v,r,rfl,h1,h2⟩:=h;exact .cons (.inl h1) (Reps.pks h2)
def dCB (f:List D→(Bool→D→Prop)→Prop) (u:TLd):TEd:=fun δ Q=>u δ fun ds δ'=>f ds fun b d=>Q b d δ'
def dCBV (f:List D→(Bool→D→Prop)→Prop) (i:Nat):TEd:=fun δ Q=>∃ d,peek δ i=some d∧f [d] fun b d=>Q b d δ
theorem sim_CB {r:List V→Hp→VK→Prop}{f:List D→(Bool→D→Prop)→Prop}{t:TA}{u:TLd}(hs:z7a r f) (s:SimL t u):Sim (tCB r t) (dCB f u):=fun io H0 F0 F δ σ H Q Qd I q k =>
 s io H0 F0 F δ σ H _ _ I q fun ds vs δ' F' H' sf I' r q'=>hs io H0 F0 F' δ' σ H' ds vs Q _ I' r.pks q' fun b d w F2 H2 s2 I2 q2=>k b d w δ' F2 H2 (sf.trans s2) I2 q2
theorem sim_CBV {r:List V→Hp→VK→Prop}{f:List D→(Bool→D→Prop)→Prop}{i:Nat}(hs:z7a r f):Sim (tCB r (y1p (tVar i) tNil)) (dCBV f i):=fun io H0 F0 F δ σ H Q Qd I q k=>by
 obtain ⟨d,e,q⟩:=q
 obtain ⟨v,ev,pk⟩:=I.pk e
 exact ⟨v,ev,hs io H0 F0 F δ σ H [d] [v] Q _ I (.cons pk .nil) q fun b d w F2 H2 s2 I2 q2=>k b d w δ F2 H2 s2 I2 q2⟩
section
variable {X:Cx}{pos p p':Pos}{e:Expr}{es:List Expr}{x y:Str}{u:TLd}{f:List D→(Bool→D→Prop)→Prop}{r:List V→Hp→VK→Prop}{id T:String}
theorem z1r (hs:z7a r f) (hc:z6j X (.builtin id) r) (hg:Gl X x) (hm:X.mg x=none) (hv:bootBuiltins x=some (.builtin id)) (ha:DL X (e::es) u) (hn:x ≠ "__name__":=by decide) (hdb:(x == ("__debug__":Str))=false:=by decide)
  (he:starEach (e::es) X.env=(false,eval e X.env)::starEach es X.env:=by rfl) (hpl:(backTo pos (starEach es X.env)).any (·.1)=false:=by rfl):DE X (.Call (.Name x p) (e::es) [] pos) (dCB f u):=by
 obtain ⟨t,pt,s⟩:=ha;exact ⟨_,z9y hc hg hm hv pt hn hdb he hpl,sim_CB hs s⟩
theorem z1u {i:Nat}(hs:z7a r f) (hc:z6j X (.builtin id) r) (hg:Gl X x) (hm:X.mg x=none) (hv:bootBuiltins x=some (.builtin id)) (ha:PE X (.Name y p') (tVar i)) (hn:x ≠ "__name__":=by decide) (hdb:(x == ("__debug__":Str))=false:=by decide)
  (he:starEach [.Name y p'] X.env=[(false,eval (.Name y p') X.env)]:=by rfl) (hpl:(backTo pos (starEach [] X.env)).any (·.1)=false:=by rfl):DE X (.Call (.Name x p) [.Name y p'] [] pos) (dCBV f i) :=
 ⟨_,z9y hc hg hm hv (z0k ha z1g he) hn hdb he hpl,sim_CBV hs⟩
theorem z4w (hs:z7a r f) (hc:z6j X (.type T) r) (hg:Gl X x) (hm:X.mg x=none) (hv:bootBuiltins x=some (.type T)) (ha:DL X (e::es) u) (hn:x ≠ "__name__":=by decide) (hdb:(x == ("__debug__":Str))=false:=by decide)
  (he:starEach (e::es) X.env=(false,eval e X.env)::starEach es X.env:=by rfl) (hpl:(backTo pos (starEach es X.env)).any (·.1)=false:=by rfl):DE X (.Call (.Name x p) (e::es) [] pos) (dCB f u):=by
 obtain ⟨t,pt,s⟩:=ha;exact ⟨_,pe_callTy hc hg hm hv pt hn hdb he hpl,sim_CB hs s⟩
end
theorem pks1 {F H:Hp}{d:D}{vs:List V}(h:Paired (Pk F H) [d] vs):∃ v,vs=[v]∧Pk F H d v:=by
 cases h with
 |cons h t=>cases t;exact ⟨_,rfl,h⟩
theorem pks2 {F H:Hp}{d d':D}{vs:List V}(h:Paired (Pk F H) [d,d'] vs):∃ v v',vs=[v,v']∧Pk F H d v∧Pk F H d' v':=by
 cases h with
 |cons h t =>
  cases t with
  |cons h' t=>cases t;exact ⟨_,_,rfl,h,h'⟩
def fLenL:List D→(Bool→D→Prop)→Prop:=fun ds Q=>∃ xs,ds=[.lst xs]∧Q false (.int xs.length)
def fLenS:List D→(Bool→D→Prop)→Prop:=fun ds Q=>∃ z,ds=[.str z]∧z.length≤sizeLine∧Q false (.int z.length)
theorem z3o:z7a (fun xs H Q=>∃ p,xs=[.ref p]∧∃ ys,H p=some (.lst ys)∧Q (.int ys.length) H) fLenL:=by
 intro io H0 F0 F δ σ H xs vs Q Qd I px q k
 obtain ⟨ys,rfl,q⟩:=q
 obtain ⟨v,rfl,pk⟩:=pks1 px
 obtain ⟨a,us,rfl,h1,r⟩:=pk.lst I
 refine ⟨a,rfl,us,h1,k false (.int ys.length) _ F H (Same.refl _) (I.pushF ?_) q⟩
 rw [r.len];rfl
theorem cs_lenS:z7a (fun xs H Q=>∃ z,xs=[.str z]∧z.length≤sizeLine∧Q (.int z.length) H) fLenS:=by
 intro io H0 F0 F δ σ H xs vs Q Qd I px q k
 obtain ⟨z,rfl,hz,q⟩:=q
 obtain ⟨v,rfl,pk⟩:=pks1 px
 cases pk.str
 exact ⟨z,rfl,hz,k false _ _ F H (Same.refl _) I.pI q⟩
def tyD:D→String
 |.non=>"NoneType" | .bl _=>"bool" | .int _=>"int" | .str _=>"str" | .ty _=>"type" | .lst _=>"list" | .tup _=>"tuple" | .dct _=>"dict"
def isTy (t T:String):Bool:=t == T || (t == "bool" && T == "int")
def KitOk (K:PySem.W.Frag):Prop:=∀ t∈["str","int","bool","list","tuple","dict","NoneType"],∀ T∈["str","int","bool","list","tuple","dict"],PySem.W.kitOne K (.type t) (.type T)=some (isTy t T)
def fIsI:List D→(Bool→D→Prop)→Prop:=fun ds Q=>∃ d T,ds=[d,.ty T]∧tyD d ≠ "type"∧T∈["str","int","bool","list","tuple","dict"]∧Q false (.bl (isTy (tyD d) T))
theorem tyOf_pk {K:PySem.W.Frag}{io:List (Option Addr)}{H0 F0 F:Hp}{δ:List Slot}{σ:St}{H:Hp}{d:D}{v:V}(I:EI io H0 F0 F δ σ H) (p:Pk F H d v) (h:tyD d ≠ "type"):TyOf K H v (.type (tyD d)):=by
 cases d with
 |lst xs=>obtain ⟨a,vs,rfl,h1,r⟩:=p.lst I;exact .lst h1
 |tup xs=>obtain ⟨a,vs,rfl,h1,r⟩:=p.tup I;exact .tup h1
 |dct xs=>obtain ⟨a,vs,rfl,h1,r⟩:=p.dct I;exact .dK h1
 |bl c=>cases p.bl;exact .bl c
 |int c=>cases p.int;exact .int c
 |str c=>cases p.str;exact .str c
 |non=>cases p.non;exact .non
 |ty c=>exact absurd rfl h
theorem z3t {K:PySem.W.Frag}(hk:KitOk K):z7a (fun xs H Q=>∃ x T t b,xs=[x,.ty T]∧TyOf K H x t∧PySem.W.kitOne K t (.type T)=some b∧Q (.bl b) H) fIsI:=by
 intro io H0 F0 F δ σ H xs vs Q Qd I px q k
 obtain ⟨d,T,rfl,hd,hT,q⟩:=q
 obtain ⟨v,v',rfl,p1,p2⟩:=pks2 px
 have e:v' = .ty T:=by
  rcases p2 with h|⟨a,_,h⟩
  ·exact h
  ·exact h.elim
 subst e
 refine ⟨v,T,_,_,rfl,tyOf_pk I p1 hd,hk _ ?_ T hT,k false _ _ F H (Same.refl _) I.pB q⟩
 cases d <;> first|exact absurd rfl hd|simp [tyD]
def fListOf:List D→(Bool→D→Prop)→Prop:=fun ds Q=>∃ xs,ds=[.lst xs]∧Q true (.lst xs)
theorem cs_list:z7a (fun xs H Q=>∃ p,xs=[.ref p]∧∃ ys,H p=some (.lst ys)∧∀ l,H l=none→Q (.ref l) (upd H l (.lst ys))) fListOf:=by
 intro io H0 F0 F δ σ H xs vs Q Qd I px q k
 obtain ⟨ys,rfl,q⟩:=q
 obtain ⟨v,rfl,pk⟩:=pks1 px
 obtain ⟨a,us,rfl,h1,r⟩:=pk.lst I
 exact ⟨a,rfl,us,h1,fun l hl=>k true _ _ F _ (Same.refl _) (I.newL hl r) q⟩
def fInt1:List D→(Bool→D→Prop)→Prop:=fun ds Q=>(∃ i,ds=[.int i]∧Q false (.int i)) ∨ ∃ b,ds=[.bl b]∧Q false (.int (if b then 1 else 0))
theorem cs_int:z7a (fun xs H Q=>(∃ i,xs=[.int i]∧Q (.int i) H) ∨ ∃ k,xs=[.bl k]∧Q (.int (if k then 1 else 0)) H) fInt1:=by
 intro io H0 F0 F δ σ H xs vs Q Qd I px q k
 rcases q with ⟨i,rfl,q⟩|⟨b,rfl,q⟩
 ·obtain ⟨v,rfl,pk⟩:=pks1 px
  cases pk.int
  exact .inl ⟨i,rfl,k false _ _ F H (Same.refl _) I.pI q⟩
 ·obtain ⟨v,rfl,pk⟩:=pks1 px
  cases pk.bl
  exact .inr ⟨b,rfl,k false _ _ F H (Same.refl _) I.pI q⟩
def MtS (r:V→List V→Hp→VK→Prop) (f:D→List D→(D→D→Prop)→Prop):Prop:=∀ (F H:Hp) (a:Addr) (c:D) (xs:List D) (vs:List V) (Q:VK) (Qd:D→D→Prop),Same F H→Cont F H a c→F a=none→Reps F xs vs→f c xs Qd →
 (∀ c' d w o,Cont F (upd H a o) a c'→Rep F d w→Qd c' d→Q w (upd H a o))→r (.ref a) vs H Q
def isL:D→Bool
 |.lst _=>true
 |_=>false
def dMt (f:D→List D→(D→D→Prop)→Prop) (i:Nat) (u:TLd):TEd:=fun δ Q=>((peek δ i).map isL=some true)∧u δ fun ds δ'=>∃ fl c,δ'[i]? = some (.ob fl c)∧f c ds fun c' d=>Q false d (δ'.set i (.ob fl c'))
theorem isL_ex {d:D}(h:isL d=true):∃ xs,d = .lst xs:=by cases d <;> first|exact ⟨_,rfl⟩|cases h
theorem sim_mt {r:V→List V→Hp→VK→Prop}{f:D→List D→(D→D→Prop)→Prop}{i:Nat}{t:TA}{u:TLd}(hs:MtS r f) (s:SimL t u):Sim (tLM r (tVar i) t) (dMt f i u):=fun io H0 F0 F δ σ H Q Qd I q k=>by
 obtain ⟨h0,q⟩:=q
 obtain ⟨d0,e0,e1⟩:=Option.map_eq_some_iff.mp h0
 obtain ⟨xs,rfl⟩:=isL_ex e1
 obtain ⟨v,ev,pk⟩:=I.pk e0
 obtain ⟨a,vs,rfl,h1,_⟩:=pk.lst I
 refine ⟨_,ev,a,rfl,⟨vs,h1⟩,s io H0 F0 F δ σ H _ _ I q fun ds us δ' F' H' sf I' r q'=>?_⟩
 obtain ⟨fl,c,ec,q'⟩:=q'
 obtain ⟨a',ea,n1,n2,hc,hio⟩:=I'.get i _ ec
 have:a' = a:=by
  have:=z2b ea
  rw [ev] at this;cases this;rfl
 subst this
 refine hs F' H' a' c ds us Q _ I'.sub hc n2 r q' fun c' d w o hc' rd qd=>?_
 exact k false d w _ F' _ sf ((I'.change ec ea hc').pushF rd) qd
theorem sim_mt0 {r:V→List V→Hp→VK→Prop}{f:D→List D→(D→D→Prop)→Prop}{i:Nat}(hs:MtS r f):Sim (tLM0 r (tVar i)) (dMt f i dNil):=fun io H0 F0 F δ σ H Q Qd I q k=>by
 obtain ⟨v,ev,a,e,h1,h2⟩:=(sim_mt (t:=tNil) (u:=dNil) hs fun io H0 F0 F δ σ H Q Qd I q k=>k [] [] δ F H (Same.refl _) I rfl q) io H0 F0 F δ σ H Q Qd I q k
 exact ⟨v,ev,a,e,h1,h2⟩
section
variable {X:Cx}{x name:Str}{p apos cpos:Pos}{e:Expr}{es:List Expr}{i:Nat}{u:TLd}{f:D→List D→(D→D→Prop)→Prop}{r:V→List V→Hp→VK→Prop}{id:String}
theorem de_mt0 (hs:MtS r f) (slot:PySem.Slot "list" name id) (hty:typeOf (.builtin id)=pure (.type "method_descriptor")) (hm:MtR X id r) (ho:PE X (.Name x p) (tVar i))
  (hbase:attributeBase (.Name x p) name X.env (eval (.Name x p) X.env)=eval (.Name x p) X.env:=by rfl) (hline:(apos.endLine == cpos.line)=true:=by rfl):DE X (.Call (.Attribute (.Name x p) name apos) [] [] cpos) (dMt f i dNil):=⟨_,pe_lm0 slot hty hm ho hbase hline,sim_mt0 hs⟩
theorem z5m (hs:MtS r f) (slot:PySem.Slot "list" name id) (hty:typeOf (.builtin id)=pure (.type "method_descriptor")) (hm:MtR X id r) (ho:PE X (.Name x p) (tVar i)) (ha:DL X (e::es) u)
  (hbase:attributeBase (.Name x p) name X.env (eval (.Name x p) X.env)=eval (.Name x p) X.env:=by rfl)
  (hfew:((backTo cpos (starEach (e::es) X.env)).all (fun x=>!x.1) && (backToKw cpos (keywordEach [] X.env)).all (fun x=>x.1.isSome)
   && decide ((e::es).length+([]:List Keyword).length+(if ([]:List Keyword).isEmpty then 0 else 1) < 30))=true:=by rfl)
  (hline:(apos.endLine == cpos.line)=true:=by rfl) (hst:starEach (e::es) X.env=(false,eval e X.env)::starEach es X.env:=by rfl) (hplain:(backTo cpos (starEach es X.env)).any (·.1)=false:=by rfl) :
  DE X (.Call (.Attribute (.Name x p) name apos) (e::es) [] cpos) (dMt f i u):=by
 obtain ⟨t,pt,s⟩:=ha;exact ⟨_,pe_lm slot hty hm ho pt hbase hfew hline hst hplain,sim_mt hs s⟩
end
def z8h:D→List D→(D→D→Prop)→Prop:=fun c ds Q=>∃ xs d,c = .lst xs∧ds=[d]∧xs.length < sizeLine∧Q (.lst (xs ++ [d])) .non
def fExtend:D→List D→(D→D→Prop)→Prop:=fun c ds Q=>∃ xs ys,c = .lst xs∧ds=[.lst ys]∧xs.length+ys.length≤sizeLine∧Q (.lst (xs ++ ys)) .non
def fPop:D→List D→(D→D→Prop)→Prop:=fun c ds Q=>∃ xs d,c = .lst xs∧ds=[]∧xs[xs.length - 1]? = some d∧Q (.lst xs.dropLast) d
theorem Reps.one_inv {F:Hp}{d:D}{vs:List V}(h:Reps F [d] vs):∃ v,vs=[v]∧Rep F d v:=by
 obtain ⟨v,r,rfl,h1,h2⟩:=h
 cases (show r=[] from h2)
 exact ⟨v,rfl,h1⟩
theorem z1v:MtS z5q z8h:=by
 intro F H a c xs vs Q Qd s hc hf r q k
 obtain ⟨ys,d,rfl,rfl,hl,q⟩:=q
 obtain ⟨us,h1,r1⟩:=hc
 obtain ⟨v,rfl,rv⟩:=r.one_inv
 exact ⟨a,us,v,rfl,rfl,h1,by rw [← r1.len];exact hl,k (.lst _) .non .non _ ⟨_,z0l,r1.app (.one rv)⟩ rfl q⟩
theorem ms_extend:MtS rExtend fExtend:=by
 intro F H a c xs vs Q Qd s hc hf r q k
 obtain ⟨ys,d,rfl,rfl,hl,q⟩:=q
 obtain ⟨us,h1,r1⟩:=hc
 obtain ⟨v,rfl,b,ws,rfl,h2,r2⟩:=r.one_inv
 exact ⟨a,b,us,ws,rfl,rfl,h1,s _ _ h2,by rw [← r1.len,← r2.len];exact hl,k (.lst _) .non .non _ ⟨_,z0l,r1.app r2⟩ rfl q⟩
theorem ms_pop:MtS rPop fPop:=by
 intro F H a c xs vs Q Qd s hc hf r q k
 obtain ⟨ys,d,rfl,rfl,hl,q⟩:=q
 obtain ⟨us,h1,r1⟩:=hc
 cases (show vs=[] from r)
 obtain ⟨v,ev,rv⟩:=r1.get hl
 exact ⟨a,us,v,rfl,rfl,h1,by rw [← r1.len];exact ev,k (.lst _) d v _ ⟨_,z0l,r1.dropLast⟩ rv q⟩
end VL
namespace VL
open PySem L2
def dNext:TSd:=fun E δ=>E.nx δ
def dSeq (t u:TSd):TSd:=fun E δ=>t { E with nx:=u E } δ
def dRet (td:TEd):TSd:=fun E δ=>td δ E.rt
def dBrk:TSd:=fun E δ=>E.bk δ
def dNever:TSd:=fun _ _=>False
def dDrop (td:TEd):TSd:=fun E δ=>td δ fun _ _ δ'=>E.nx δ'
def dIfS (c:TTd) (t u:TSd):TSd:=fun E δ=>c δ fun b δ'=>if b=true then t E δ' else u E δ'
def noIo (δ:List Slot) (i:Nat):Prop :=
 match δ[i]? with
 |some (.ob true _)=>False
 |none=>False
 |_=>True
theorem noIo.ne {δ:List Slot}{i:Nat}(h:noIo δ i):(∀ c,δ[i]? ≠ some (.ob true c))∧i < δ.length:=by
 unfold noIo at h
 split at h
 ·exact h.elim
 ·exact h.elim
 ·rename_i h1 h2
  refine ⟨fun c e=>h1 c e,?_⟩
  cases q:δ[i]? with
  |none=>exact absurd q h2
  |some s=>exact (List.getElem?_eq_some_iff.mp q).1
def dSet (i:Nat) (td:TEd):TSd:=fun E δ=>td δ fun b d δ'=>noIo δ' i∧E.nx (δ'.set i (rsl b d))
section
variable {X:Cx}{pos:Pos}{a b:Expr}{da db:TEd}
theorem simS_next:SimS tNext dNext:=fun io H0 F0 F δ σ H E Ed I q S=>S.nx F δ σ H (Same.refl _) I q
theorem simS_never:SimS tNever dNever:=fun io H0 F0 F δ σ H E Ed I q S=>q.elim
theorem simS_seq {t u:TS}{td ud:TSd}(s:SimS t td) (s':SimS u ud):SimS (tSeq t u) (dSeq td ud):=fun io H0 F0 F δ σ H E Ed I q S =>
 s io H0 F0 F δ σ H _ _ I q ⟨fun F' δ' σ' H' sf I' q'=>s' io H0 F0 F' δ' σ' H' E Ed I' q' (S.mono sf),S.rt,S.bk,S.ct⟩
theorem simS_ret {te:TE}{td:TEd}(s:Sim te td):SimS (tRet te) (dRet td):=fun io H0 F0 F δ σ H E Ed I q S =>
 s io H0 F0 F δ σ H _ _ I q fun b d v δ' F' H' sf I' q'=>S.rt b d v F' δ' σ H' sf I' q'
theorem simS_drop {te:TE}{td:TEd}(s:Sim te td):SimS (tDrop te) (dDrop td):=fun io H0 F0 F δ σ H E Ed I q S =>
 s io H0 F0 F δ σ H _ _ I q fun b d v δ' F' H' sf I' q'=>S.nx F' δ' σ H' sf I'.pop q'
theorem simS_if {c:TT}{cd:TTd}{t u:TS}{td ud:TSd}(sc:SimT c cd) (s:SimS t td) (s':SimS u ud):SimS (tIfS c t u) (dIfS cd td ud):=fun io H0 F0 F δ σ H E Ed I q S =>
 sc io H0 F0 F δ σ H _ _ I q fun b δ' F' H' sf I' q'=>by
  cases b with
  |true=>rw [if_pos rfl] at q' ⊢;exact s io H0 F0 F' δ' σ H' E Ed I' q' (S.mono sf)
  |false=>rw [if_neg Bool.false_ne_true] at q' ⊢;exact s' io H0 F0 F' δ' σ H' E Ed I' q' (S.mono sf)
theorem simS_set {te:TE}{td:TEd}{i:Nat}(s:Sim te td):SimS (tAsg te (gName i)) (dSet i td):=fun io H0 F0 F δ σ H E Ed I q S =>
 s io H0 F0 F δ σ H _ _ I q fun b d v δ' F' H' sf I' q'=>by
  obtain ⟨h,q'⟩:=q'
  obtain ⟨h1,h2⟩:=h.ne
  exact S.nx F' _ _ H' sf (I'.setv h1 h2) q'
theorem z0t:DSs X [] dNext:=⟨_,y0t,simS_next⟩
theorem z0b {st:Stmt}{rest:List Stmt}{t u:TSd}(h:DS X st t) (h':DSs X rest u):DSs X (st::rest) (dSeq t u):=by
 obtain ⟨t,p,s⟩:=h;obtain ⟨t',p',s'⟩:=h';exact ⟨_,z1o p p',simS_seq s s'⟩
theorem z0f {st:Stmt}{t:TSd}(h:DS X st t):DSs X [st] t:=by obtain ⟨t,p,s⟩:=h;exact ⟨_,z2m p,s⟩
theorem ds_never {st:Stmt}:DS X st dNever:=⟨_,ps_never,simS_never⟩
theorem z0n (h:DE X a da):DS X (.Return (some a) pos) (dRet da):=by obtain ⟨t,p,s⟩:=h;exact ⟨_,ps_ret p,simS_ret s⟩
theorem ds_break:DS X (.Break pos) dBrk:=⟨_,ps_break,fun io H0 F0 F δ σ H E Ed I q S=>S.bk F δ σ H (Same.refl _) I q⟩
theorem z2i (h:DE X a da) (hs:swapsWith a none pos.line X.env=pure false:=by rfl):DS X (.Expr a pos) (dDrop da):=by obtain ⟨t,p,s⟩:=h;exact ⟨_,z4e p hs,simS_drop s⟩
theorem z1m {c:Expr}{x y:List Stmt}{cd:TTd}{t u:TSd}(hc:DT X c cd) (h:DSs X x t) (h':DSs X y u):DS X (.If c x y pos) (dIfS cd t u):=by
 obtain ⟨tc,pc,sc⟩:=hc;obtain ⟨t,p,s⟩:=h;obtain ⟨t',p',s'⟩:=h';exact ⟨_,ps_if pc p p',simS_if sc s s'⟩
theorem z0p {i:Nat}{x:Str}{pos':Pos}(hN:X.N.Nodup) (hi:X.N[i]? = some x) (hx:Loc X.env.scope x) (he:DE X a da) (hs:swapsWith a (some (.Name x pos')) pos.line X.env=pure false:=by rfl) (hf:X.fn x=true∨X.env.scope.names.lookup x=some .local:=by first|exact .inl rfl|exact .inr rfl|assumption) :
  DS X (.Assign [.Name x pos'] a pos) (dSet i da):=by obtain ⟨t,p,s⟩:=he;exact ⟨_,z5k hN hi hx p hs hf,simS_set s⟩
def dgN (i:Nat):TGd:=fun d δ Q=>noIo δ i∧Q (δ.set i (.fz d))
abbrev TGsd:=List D→List Slot→(List Slot→Prop)→Prop
def dgNil:TGsd:=fun ds δ Q=>ds=[]∧Q δ
def dgCons (g:TGd) (u:TGsd):TGsd:=fun ds δ Q=>∃ d r,ds=d::r∧g d δ fun δ'=>u r δ' Q
def dgTup (n:Nat) (u:TGsd):TGd:=fun d δ Q=>∃ ds,d = .tup ds∧ds.length=n∧u ds δ Q
def SimGs (g:TGs) (gd:TGsd):Prop:=∀ (io:List (Option Addr)) (H0 F0 F:Hp) (δ:List Slot) (σ:St) (H:Hp) (ds:List D) (vs:List V) (Q:St→Hp→Prop) (Qd:List Slot→Prop),EI io H0 F0 F δ σ H→Reps F ds vs→gd ds δ Qd →
 (∀ δ' σ',EI io H0 F0 F δ' σ' H→Qd δ'→Q σ' H)→g vs σ H Q
def DGs (X:Cx) (es:List Expr) (gd:TGsd):Prop:=∃ g,PGs X es g∧SimGs g gd
theorem simG_name (i:Nat):SimG (gName i) (dgN i):=fun io H0 F0 F δ σ H d v Q Qd I r q k=>by
 obtain ⟨h,q⟩:=q
 obtain ⟨h1,h2⟩:=h.ne
 exact k _ _ ((I.pushF r).setv (b:=false) h1 h2) q
theorem z1n {i:Nat}{x:Str}(hN:X.N.Nodup) (hi:X.N[i]? = some x) (hx:Loc X.env.scope x) (hf:X.fn x=true∨X.env.scope.names.lookup x=some .local:=by first|exact .inl rfl|exact .inr rfl|assumption):DG X (.Name x pos) (dgN i):=⟨_,z4o hN hi hx hf,simG_name i⟩
theorem y1r:DGs X [] dgNil:=⟨_,pgs_nil,fun io H0 F0 F δ σ H ds vs Q Qd I r q k=>by
 obtain ⟨rfl,q⟩:=q
 exact ⟨r,k _ _ I q⟩⟩
theorem z4a {e:Expr}{es:List Expr}{g:TGd}{u:TGsd}(h1:DG X e g) (h2:DGs X es u)
  (hs:(assignEach (e::es) X.env).map (·.2)=assign e X.env::(assignEach es X.env).map (·.2):=by rfl):DGs X (e::es) (dgCons g u):=by
 obtain ⟨t,p,s⟩:=h1;obtain ⟨t',p',s'⟩:=h2
 refine ⟨_,z9m p p' hs,fun io H0 F0 F δ σ H ds vs Q Qd I r q k=>?_⟩
 obtain ⟨d,dr,rfl,q⟩:=q
 obtain ⟨v,vr,rfl,r1,r2⟩:=r
 exact ⟨v,vr,rfl,s io H0 F0 F δ σ H d v _ _ I r1 q fun δ' σ' I' q'=>s' io H0 F0 F δ' σ' H dr vr Q Qd I' r2 q' k⟩
theorem dg_tup {es:List Expr}{k:Nat}{u:TGsd}{n:Nat}(hc:X.calm=true) (h:DGs X es u)
  (hn:(assignEach es X.env).length=n:=by rfl) (hst:(assignEach es X.env).findIdx? (·.1)=none:=by rfl):DG X (.Tuple es k pos) (dgTup n u):=by
 obtain ⟨t,p,s⟩:=h
 refine ⟨_,pg_tup hc p hn hst,fun io H0 F0 F δ σ H d v Q Qd I r q k=>?_⟩
 obtain ⟨ds,rfl,hl,q⟩:=q
 obtain ⟨a,vs,rfl,h1,r1⟩:=r
 exact ⟨a,vs,rfl,SqT.of (I.sub _ _ h1),by rw [← r1.len];exact hl,s io H0 F0 F δ σ H ds vs Q Qd I r1 q k⟩
def dSetL (i:Nat) (ti tv:TEd):TSd:=fun E δ=>tv δ fun _ v δ1=>(peek δ1 i).isSome=true∧ti δ1 fun _ y δ2=>∃ fl xs k j,δ2[i]? = some (.ob fl (.lst xs))∧y = .int k∧ixN xs.length k=some j∧E.nx (δ2.set i (.ob fl (.lst (xs.set j v))))
theorem ds_setL {i:Nat}{x:Str}{p pos':Pos}{ie ve:Expr}{ti tv:TEd}(ho:PE X (.Name x p) (tVar i)) (hi:DE X ie ti) (hv:DE X ve tv) (ha:∀ v,assign (.Subscript (.Name x p) ie pos') X.env v=(do
   let ov ← holding [v] (eval (.Name x p) X.env)
   let iv ← holding [v,ov] (eval ie X.env)
   standAt pos'
   holding [v,ov,iv] (setItem ov iv v)
   release [v,ov,iv] []):=by intro _;rfl) (hs:swapsWithSole [.Subscript (.Name x p) ie pos'] ve pos.line X.env=pure false:=by rfl) (hw:swappedStores [.Subscript (.Name x p) ie pos'] ve X.env=pure none:=by rfl)
  (h1:(assignEach [.Subscript (.Name x p) ie pos'] X.env).map (·.2)=[assign (.Subscript (.Name x p) ie pos') X.env]:=by rfl):DS X (.Assign [.Subscript (.Name x p) ie pos'] ve pos) (dSetL i ti tv):=by
 obtain ⟨t,pi,si⟩:=hi;obtain ⟨t',pv,sv⟩:=hv
 refine ⟨_,ps_asg pv (pg_sub ho pi set_list ha) hs hw h1,fun io H0 F0 F δ σ H E Ed I q S=>sv.fz I q fun d v δ1 F1 H1 s1 I1 r1 q1=>?_⟩
 obtain ⟨p0,q1⟩:=q1
 obtain ⟨d0,e0⟩:=Option.isSome_iff_exists.mp p0
 obtain ⟨v0,ev,_⟩:=I1.pk e0
 refine ⟨v0,ev,si.fz I1 q1 fun y u δ2 F2 H2 s2 I2 r2 q2=>?_⟩
 obtain ⟨fl,xs,k,j,ec,rfl,hj,q2⟩:=q2
 obtain ⟨a',ea,n1,n2,⟨vs,hc,rc⟩,hio⟩:=I2.get i _ ec
 have e:=z2b ea
 rw [ev] at e;cases e
 exact ⟨a',vs,k,j,rfl,r2,hc,by rw [← rc.len];exact hj,S.nx F2 _ σ _ (s1.trans s2) (I2.change (c':=.lst (xs.set j d)) ec ea ⟨_,z0l,rc.set (Rep.mono s2 _ _ r1) j⟩) q2⟩
def ItOk (J:It) (F:Hp) (ds:List D):Prop:=∀ (io:List (Option Addr)) (H0 F0 F':Hp) (δ:List Slot) (σ:St) (H':Hp),Same F F'→EI io H0 F0 F' δ σ H'→∀ i,
 (∀ d,ds[i]? = some d→J.go i H'∧∀ x H'',J.yld i H' x H''→∃ F'',Same F' F''∧EI io H0 F0 F'' δ σ H''∧Rep F'' d x)∧(i=ds.length→J.stop i H')
def SimI (wi:TI) (di:TLd):Prop:=∀ (io:List (Option Addr)) (H0 F0 F:Hp) (δ:List Slot) (σ:St) (H:Hp) (R:It→Hp→Prop) (Qd:List D→List Slot→Prop),EI io H0 F0 F δ σ H→di δ Qd →
 (∀ J ds δ' F' H',Same F F'→EI io H0 F0 F' δ' σ H'→ItOk J F' ds→Qd ds δ'→R J H')→wi σ H R
def DI (X:Cx) (tg e:Expr) (di:TLd):Prop:=∃ wi,PI X tg e wi∧SimI wi di
def diList (td:TEd):TLd:=fun δ Q=>td δ fun _ d δ'=>∃ ds,d = .lst ds∧Q ds δ'
theorem itOk_list {K:PySem.W.Frag}{F:Hp}{a:Addr}{vs:List V}{ds:List D}(h:F a=some (.lst vs)) (r:Reps F ds vs):ItOk (Itl K a) F ds:=by
 intro io H0 F0 F' δ σ H' sf I i
 have hH:H' a=some (.lst vs):=I.sub _ _ (sf _ _ h)
 refine ⟨fun d e=>?_,fun e=>?_⟩
 ·obtain ⟨v,ev,rv⟩:=r.get e
  refine ⟨⟨vs,v,SqL.of hH,ev⟩,fun x H'' y=>?_⟩
  obtain ⟨e1,y⟩:=y
  subst e1
  have:=y vs (SqL.of hH)
  rw [ev] at this
  cases this
  exact ⟨F',Same.refl _,I,Rep.mono sf _ _ rv⟩
 ·exact ⟨vs,SqL.of hH,by rw [e,r.len];exact Nat.le_refl _⟩
theorem z1l {tg:Expr}(h:DE X a da):DI X tg a (diList da):=by
 obtain ⟨t,p,s⟩:=h
 refine ⟨_,z5n p,fun io H0 F0 F δ σ H R Qd I q k=>s.fz I q fun d v δ' F' H' sf I' r q'=>?_⟩
 obtain ⟨ds,rfl,q'⟩:=q'
 obtain ⟨a,vs,rfl,h1,r1⟩:=r
 exact ⟨a,rfl,⟨vs,SqL.of (I'.sub _ _ h1)⟩,k _ ds δ' F' H' sf I' (itOk_list h1 r1) q'⟩
def rngD (lo:Int) (n:Nat):List D:=(List.range n).map fun (k:Nat)=>D.int (lo+(k:Int))
def diRng1 (u:TLd):TLd:=fun δ Q=>u δ fun ds δ'=>∃ j:Int,ds=[.int j]∧-(2 ^ 62)≤j∧j < 2 ^ 62∧Q (rngD 0 j.toNat) δ'
theorem itOk_rng {F:Hp}(lo:Int) (n:Nat):ItOk (Itr lo n) F (rngD lo n):=by
 intro io H0 F0 F' δ σ H' sf I i
 refine ⟨fun d e=>?_,fun e=>?_⟩
 ·have hi:i < n:=by
   have:=(List.getElem?_eq_some_iff.mp e).1
   simpa [rngD] using this
  have ed:d = .int (lo+(i:Int)):=by
   simp [rngD,hi] at e
   exact e.symm
  subst ed
  refine ⟨by simpa [Itr] using hi,fun x H'' y=>?_⟩
  have y':x = .int (lo+(i:Int))∧H'' = H':=by
   obtain ⟨y1,y2⟩:=y
   first
    |exact ⟨y1,y2⟩
    |exact ⟨y2,y1⟩
    |exact ⟨y1,y2.symm⟩
  obtain ⟨rfl,rfl⟩:=y'
  exact ⟨F',Same.refl _,I,rfl⟩
 ·simp [rngD] at e
  subst e
  simp [Itr]
theorem z4c {tg e:Expr}{u:TLd}{p pos:Pos}(hg:Gl X "range") (hm:X.mg "range" = none) (ha:DL X [e] u) (hs:starEach [e] X.env=[(false,eval e X.env)]:=by rfl):DI X tg (.Call (.Name "range" p) [e] [] pos) (diRng1 u):=by
 obtain ⟨t,pt,s⟩:=ha
 refine ⟨_,pi_range1 hg hm pt hs,fun io H0 F0 F δ σ H R Qd I q k=>s io H0 F0 F δ σ H _ _ I q fun ds vs δ' F' H' sf I' r q'=>?_⟩
 obtain ⟨j,rfl,h1,h2,q'⟩:=q'
 obtain ⟨v,rfl,rv⟩:=r.one_inv
 cases (show v = .int j from rv)
 exact ⟨j,rfl,h1,h2,k _ _ δ' F' H' sf I' (itOk_rng 0 _) q'⟩
def fgt:List Nat→List Slot→List Slot
 | [],δ=>δ
 |i::is,δ=>fgt is (δ.set i .no)
theorem EI.fgt {io:List (Option Addr)}{H0 F0 F H:Hp}{σ:St}:∀ (is:List Nat) {δ:List Slot},EI io H0 F0 F δ σ H→EI io H0 F0 F (VL.fgt is δ) σ H
 | [],_,I=>I
 |i::is,_,I=>EI.fgt is I.forget
def dFor (di:TLd) (g:TGd) (tb:TSd):TSd:=fun E δ=>di δ fun ds δ'=>∃ (fg:List Nat) (P:List D→List Slot→Prop),P ds (fgt fg δ') ∧
 (∀ d r δ,P (d::r) δ→g d δ fun δ2=>tb { E with nx:=fun δ'=>P r (fgt fg δ'),ct:=fun δ'=>P r (fgt fg δ'),bk:=E.nx } δ2)∧∀ δ,P [] δ→E.nx δ
theorem simS_for {wi:TI}{di:TLd}{g:TG}{gd:TGd}{tb:TS}{td:TSd}(si:SimI wi di) (sg:SimG g gd) (s:SimS tb td):SimS (tFor wi g tb) (dFor di gd td):=by
 intro io H0 F0 F δ σ H E Ed I q S
 refine si io H0 F0 F δ σ H _ _ I q fun J ds δ' F' H' sf I' ok q'=>?_
 obtain ⟨fg,P,p0,step,fin⟩:=q'
 refine ⟨fun i m σ H=>m=ds.length - i∧i≤ds.length∧∃ F1 δ1,Same F' F1∧EI io H0 F0 F1 δ1 σ H∧P (ds.drop i) δ1,⟨ds.length,by simp,Nat.zero_le _,F',_,Same.refl _,I'.fgt fg,p0⟩,?_⟩
 rintro i m σ1 H1 ⟨rfl,hi,F1,δ1,s1,I1,p1⟩
 obtain ⟨o1,o2⟩:=ok io H0 F0 F1 δ1 σ1 H1 s1 I1 i
 by_cases hlt:i < ds.length
 ·have ed:ds[i]? = some ds[i]:=by simp [hlt]
  have edr:ds.drop i=ds[i]::ds.drop (i+1):=List.drop_eq_getElem_cons hlt
  rw [edr] at p1
  obtain ⟨go,yl⟩:=o1 _ ed
  refine .inr ⟨go,fun σ' H'=>∃ F2 δ2,Same F' F2∧EI io H0 F0 F2 δ2 σ' H'∧P (ds.drop (i+1)) δ2,fun σ' H' hN=>⟨ds.length - (i+1),by omega,rfl,hlt,hN⟩,fun x H2 y=>?_⟩
  obtain ⟨F2,s2,I2,r2⟩:=yl x H2 y
  refine sg io H0 F0 F2 δ1 σ1 H2 _ x _ _ I2 r2 (step _ _ δ1 p1) fun δ3 σ3 I3 q3=>?_
  refine s io H0 F0 F2 δ3 σ3 H2 _ _ I3 q3 ⟨fun F4 δ4 σ4 H4 s4 I4 q4=>⟨F4,_,(s1.trans s2).trans s4,I4.fgt fg,q4⟩,fun b d v F4 δ4 σ4 H4 s4 I4 q4=>S.rt b d v F4 δ4 σ4 H4 (((sf.trans s1).trans s2).trans s4) I4 q4,fun F4 δ4 σ4 H4 s4 I4 q4=>S.nx F4 δ4 σ4 H4 (((sf.trans s1).trans s2).trans s4) I4 q4,fun F4 δ4 σ4 H4 s4 I4 q4=>⟨F4,_,(s1.trans s2).trans s4,I4.fgt fg,q4⟩⟩
 ·have e:i=ds.length:=by omega
  subst e
  rw [List.drop_length] at p1
  exact .inl ⟨o2 rfl,S.nx F1 δ1 σ1 H1 (sf.trans s1) I1 (fin δ1 p1)⟩
theorem z2t {tg iter:Expr}{body:List Stmt}{di:TLd}{gd:TGd}{td:TSd}(hp:PassesOwn (model X.prog X.w) X.A X.env X.xe) (hc:X.calm=true) (hi:DI X tg iter di) (hg:DG X tg gd) (hb:DSs X body td)
  (hs:∀ x,foldedSetIterable iter X.env x=pure x:=by intro _;rfl):DS X (.For tg iter body [] pos) (dFor di gd td):=by
 obtain ⟨wi,p1,s1⟩:=hi;obtain ⟨g,p2,s2⟩:=hg;obtain ⟨t,p3,s3⟩:=hb
 exact ⟨_,z7p hp hc p1 p2 p3 hs,simS_for s1 s2 s3⟩
def dWhile (c:TTd) (tb:TSd):TSd:=fun E δ=>∃ (fg:List Nat) (P:List Slot→Prop) (μ:List Slot→Nat),P (fgt fg δ)∧∀ δ,P δ→c δ fun b δ'=>if b=true then tb { E with nx:=fun δ2=>P (fgt fg δ2)∧μ (fgt fg δ2) < μ δ,ct:=fun δ2=>P (fgt fg δ2)∧μ (fgt fg δ2) < μ δ,bk:=E.nx } δ' else E.nx δ'
theorem simS_while {c:TT}{cd:TTd}{tb:TS}{td:TSd}(sc:SimT c cd) (s:SimS tb td):SimS (tWhile c tb) (dWhile cd td):=by
 intro io H0 F0 F δ σ H E Ed I q S
 obtain ⟨fg,P,μ,p0,step⟩:=q
 refine ⟨fun m σ H=>∃ F1 δ1,Same F F1∧EI io H0 F0 F1 δ1 σ H∧P δ1∧μ δ1=m,⟨_,F,_,Same.refl _,I.fgt fg,p0,rfl⟩,?_⟩
 rintro m σ1 H1 ⟨F1,δ1,s1,I1,p1,rfl⟩
 refine sc io H0 F0 F1 δ1 σ1 H1 _ _ I1 (step δ1 p1) fun b δ2 F2 H2 s2 I2 q2=>?_
 cases b with
 |false=>rw [if_neg Bool.false_ne_true] at q2 ⊢;exact S.nx F2 δ2 σ1 H2 (s1.trans s2) I2 q2
 |true =>
  rw [if_pos rfl] at q2 ⊢
  refine ⟨fun σ' H'=>∃ F3 δ3,Same F F3∧EI io H0 F0 F3 δ3 σ' H'∧P δ3∧μ δ3 < μ δ1,fun σ' H' ⟨F3,δ3,h1,h2,h3,h4⟩=>⟨μ δ3,h4,F3,δ3,h1,h2,h3,rfl⟩,?_⟩
  exact s io H0 F0 F2 δ2 σ1 H2 _ _ I2 q2 ⟨fun F4 δ4 σ4 H4 s4 I4 q4=>⟨F4,_,(s1.trans s2).trans s4,I4.fgt fg,q4.1,q4.2⟩,fun b d v F4 δ4 σ4 H4 s4 I4 q4=>S.rt b d v F4 δ4 σ4 H4 ((s1.trans s2).trans s4) I4 q4,fun F4 δ4 σ4 H4 s4 I4 q4=>S.nx F4 δ4 σ4 H4 ((s1.trans s2).trans s4) I4 q4,fun F4 δ4 σ4 H4 s4 I4 q4=>⟨F4,_,(s1.trans s2).trans s4,I4.fgt fg,q4.1,q4.2⟩⟩
theorem ds_while {c:Expr}{body:List Stmt}{cd:TTd}{td:TSd}(hp:PassesOwn (model X.prog X.w) X.A X.env X.xe) (hc:DT X c cd) (hb:DSs X body td):DS X (.While c body [] pos) (dWhile cd td):=by
 obtain ⟨t1,p1,s1⟩:=hc;obtain ⟨t,p3,s3⟩:=hb
 exact ⟨_,ps_while hp p1 p3,simS_while s1 s3⟩
end
end VL
namespace VL
open PySem L2 PySem.Spec PyProof.Rows
def er (H:Hp):Option Addr→Hp
 |none=>H
 |some a=>fun b=>if b=a then none else H b
abbrev RD:=List Slot→(Bool→D→List Slot→Prop)→Prop
def spD (R:RD):Sp:=fun vs H Q _=>∃ (Hx:Hp) (ic:List (Option Addr)) (F:Hp) (δ:List Slot) (Qd:Bool→D→List Slot→Prop),(∀ p a,ic.getD p none=some a→vs[p]? = some (.ref a))∧EI ic Hx F F δ (vs.map some) H∧R δ Qd ∧
 ∀ b d v δ' F' H',EI (none::ic) Hx F F' (rsl b d::δ') (some v::vs.map some) H'→Qd b d δ'→Q v H'
section
variable {io ic:List (Option Addr)}{H0 F0 F F' H H':Hp}{δ δc:List Slot}{σ σc:L2.St}{b:Bool}{d:D}{v:V}
theorem EI.back0 (I:EI io H0 F0 F δ σ H) (s:Same F F') (s':Same H H') (sub:Same F' H') (new:∀ b o,F' b=some o→F b=none→H b=none):EI io H0 F0 F' δ σ H' where
 base:=I.base.trans s'
 sub:=sub
 ext:=I.ext.trans s
 new:=fun b o e h=>by
  cases q:F b with
  |none=>exact I.base.free (new b o e q)
  |some u=>exact I.new b u q h
 len:=I.len
 get:=fun i t e=>(I.get i t e).mono s fun a b c es eo=>by
  subst es
  obtain ⟨a',e1,h1,h2,h3,h4⟩:=I.get i _ e
  rw [eo] at e1;cases e1
  obtain ⟨u,hu⟩:=h3.some
  refine ⟨?_,fun u hu=>s' _ _ hu⟩
  cases q:F' a with
  |none=>rfl
  |some o=>rw [new a o q h2] at hu;cases hu
 apart:=I.apart
theorem EI.back (I:EI io H0 F0 F δ σ H) (C:EI ic H F F' (rsl b d::δc) (some v::σc) H'):EI (none::io) H0 F0 F' (rsl b d::δ) (some v::σ) H':=by
 have J:=I.back0 C.ext C.base C.sub C.new
 refine J.push ?_ fun b' c a es ev j b2 c2 ej eo=>?_
 ·have h0:=C.get 0 _ rfl
  cases b with
  |false=>obtain ⟨v',e,r⟩:=h0;simp at e;subst e;exact ⟨v,rfl,r⟩
  |true =>
   obtain ⟨a,e,h1,h2,h3,h4⟩:=h0
   simp at e;subst e
   exact ⟨a,rfl,I.base.free h1,h2,h3,fun z=>by cases z⟩
 ·subst ev
  obtain ⟨a',e1,h1,h2,h3,h4⟩:=I.get j _ ej
  rw [eo] at e1;cases e1
  obtain ⟨u,hu⟩:=h3.some
  have h0:=C.get 0 _ rfl
  cases b with
  |false=>cases es
  |true =>
   obtain ⟨a,e,h1,_⟩:=h0
   simp at e;subst e
   rw [h1] at hu;cases hu
theorem y2h {ds:List D}{vs:List V}(s:Same F H) (r:Reps F ds vs):EI [] H F F (ds.map .fz) (vs.map some) H where
 base:=Same.refl _
 sub:=s
 ext:=Same.refl _
 new:=fun b o e h=>by rw [h] at e;cases e
 len:=by simp [r.len]
 get:=fun i t e=>by
  rw [List.getElem?_map] at e
  cases q:ds[i]? with
  |none=>rw [q] at e;cases e
  |some d =>
   rw [q] at e
   cases e
   obtain ⟨v,ev,rv⟩:=r.get q
   exact ⟨v,by simp [List.getD_eq_getElem?_getD,ev],rv⟩
 apart:=fun i j b c b' c' a ne e1=>by
  rw [List.getElem?_map] at e1
  cases q:ds[i]? <;> rw [q] at e1 <;> cases e1
end
def dCall (R:RD) (u:TLd):TEd:=fun δ Q=>u δ fun ds δ'=>R (ds.map .fz) fun b d _=>Q b d δ'
theorem sim_call {R:RD}{t:TA}{u:TLd}{E:XK}(s:SimL t u):Sim (y1x (spD R) [] E t) (dCall R u):=fun io H0 F0 F δ σ H Q Qd I q k =>
 s io H0 F0 F δ σ H _ _ I q fun ds vs δ' F' H' sf I' r q'=>by
  show spD R (vs ++ []) H' Q E
  rw [List.append_nil]
  refine ⟨H',[],F',_,_,fun p a e=>by simp at e,y2h I'.sub r,q',fun b d v δ2 F2 H2 C q2=>?_⟩
  exact k b d v δ' F2 H2 (sf.trans C.ext) (I'.back C) q2
section
variable {X:Cx}{CX:CXT}{k:Nat}{f:Addr}{fd:FuncData}{ps:List Str}{R:RD}{E:XK}{x:Str}{p pos:Pos}{e:Expr}{es:List Expr}{u:TLd}
theorem z0s (G:FnOk X.prog X.w X.K X.mg X.base CX k f fd ps (spD R)) (hr:Room k X.A) (hg:Gl X x) (hm:X.mg x=some (.ref f)) (hk:PySem.W.keepIn X.K (.ref f)=true) (hb:Binds X.K fd ps []) (hx:z7x CX X E)
  (ha:DL X (e::es) u) (hdb:(x == ("__debug__":Str))=false:=by decide) (he:starEach (e::es) X.env=(false,eval e X.env)::starEach es X.env:=by rfl) (hpl:(backTo pos (starEach es X.env)).any (·.1)=false:=by rfl) :
  DE X (.Call (.Name x p) (e::es) [] pos) (dCall R u):=by
 obtain ⟨t,pt,s⟩:=ha
 exact ⟨_,z1t G hr hg hm hk hb .nil hx pt hdb he hpl,sim_call s⟩
end
abbrev TAd:=List Slot→(List (Option D)→List Slot→Prop)→Prop
def AOk (F:Hp) (w:V) (o:Option D) (v:V):Prop:=match o with|some d=>Rep F d v|none=>v=w
def SimA (i:Nat) (te:TA) (td:TAd):Prop:=∀ (io:List (Option Addr)) (H0 F0 F:Hp) (δ:List Slot) (σ:L2.St) (H:Hp) (w:V) (Q:List V→Hp→Prop) (Qd:List (Option D)→List Slot→Prop),EI io H0 F0 F δ σ H→σ[i]? = some (some w)→td δ Qd →
 (∀ os vs δ' F' H',Same F F'→EI io H0 F0 F' δ' σ H'→Paired (AOk F' w) os vs→Qd os δ'→Q vs H')→te σ H Q
def DA (X:Cx) (i:Nat) (es:List Expr) (td:TAd):Prop:=∃ te,PA X es te∧SimA i te td
def daNil:TAd:=fun δ Q=>Q [] δ
def daV (t:TEd) (u:TAd):TAd:=fun δ Q=>t δ fun _ d δ'=>u δ' fun os δ''=>Q (some d::os) δ''
def daO (u:TAd):TAd:=fun δ Q=>u δ fun os δ''=>Q (none::os) δ''
section
variable {X:Cx}{i:Nat}{a:Expr}{es:List Expr}{da:TEd}{u:TAd}
theorem z4q:DA X i [] daNil:=⟨_,z1g,fun io H0 F0 F δ σ H w Q Qd I hw q k=>k [] [] δ F H (Same.refl _) I .nil q⟩
theorem da_v (ha:DE X a da) (hr:DA X i es u) (hs:starEach (a::es) X.env=(false,eval a X.env)::starEach es X.env:=by rfl):DA X i (a::es) (daV da u):=by
 obtain ⟨ta,pa,sa⟩:=ha;obtain ⟨tr,pr,sr⟩:=hr
 refine ⟨_,z0k pa pr hs,fun io H0 F0 F δ σ H w Q Qd I hw q k=>sa.fz I q fun d v δ' F' H' sf I' r q'=>sr io H0 F0 F' δ' σ H' w _ _ I' hw q' fun ds vs δ2 F2 H2 s2 I2 r2 q2=>?_⟩
 exact k (some d::ds) (v::vs) δ2 F2 H2 (sf.trans s2) I2 (.cons (show Rep F2 d v from Rep.mono s2 _ _ r) r2) q2
theorem da_o {x:Str}{p:Pos}(ha:PE X (.Name x p) (tVar i)) (hr:DA X i es u) (hs:starEach (.Name x p::es) X.env=(false,eval (.Name x p) X.env)::starEach es X.env:=by rfl):DA X i (.Name x p::es) (daO u):=by
 obtain ⟨tr,pr,sr⟩:=hr
 refine ⟨_,z0k ha pr hs,fun io H0 F0 F δ σ H w Q Qd I hw q k=>⟨w,hw,sr io H0 F0 F δ σ H w _ _ I hw q fun ds vs δ2 F2 H2 s2 I2 r2 q2=>?_⟩⟩
 exact k (none::ds) (w::vs) δ2 F2 H2 s2 I2 (.cons rfl r2) q2
end
def y0o (c:D):Option D→Slot
 |some d=>.fz d
 |none=>.ob true c
def y1y:List Slot→Option D
 |.ob true c::_=>some c
 |_::r=>y1y r
 | []=>none
def z6v (R:RD) (i:Nat) (u:TAd):TEd:=fun δ Q=>(peek δ i).isSome=true∧u δ fun os δ'=>∃ fl c,δ'[i]? = some (.ob fl c)∧(os.filter Option.isNone).length=1∧R (os.map (y0o c)) fun b d δ2=>∃ c',y1y δ2=some c'∧Q b d (δ'.set i (.ob fl c'))
theorem z5x:∀ {δ:List Slot}{c:D},y1y δ=some c→∃ p:Nat,δ[p]? = some (Slot.ob true c)
 | [],c,h=>by cases h
 |.no::r,c,h=>by obtain ⟨p,e⟩:=z5x (δ:=r) h;exact ⟨p+1,by simpa using e⟩
 |.fz d::r,c,h=>by obtain ⟨p,e⟩:=z5x (δ:=r) h;exact ⟨p+1,by simpa using e⟩
 |.sc K d::r,c,h=>by obtain ⟨p,e⟩:=z5x (δ:=r) h;exact ⟨p+1,by simpa using e⟩
 |.ob false d::r,c,h=>by obtain ⟨p,e⟩:=z5x (δ:=r) h;exact ⟨p+1,by simpa using e⟩
 |.ob true d::r,c,h=>by cases h;exact ⟨0,rfl⟩
theorem Paired.getE {α β:Type}{R:α→β→Prop}:∀ {xs:List α}{ys:List β}{i:Nat}{x:α},Paired R xs ys→xs[i]? = some x→∃ y,ys[i]? = some y∧R x y
 |_,_,_,_,.nil,e=>by simp at e
 |_,_,0,_,.cons r _,e=>by simp at e;subst e;exact ⟨_,rfl,r⟩
 |_,_,i+1,x,.cons _ t,e=>by
  obtain ⟨u,h1,h2⟩:=Paired.getE (i:=i) (x:=x) t (by simpa using e)
  exact ⟨u,by simpa using h1,h2⟩
theorem one_none {os:List (Option D)}(h:(os.filter Option.isNone).length=1) {i j:Nat}(hi:os[i]? = some none) (hj:os[j]? = some none):i=j:=by
 induction os generalizing i j with
 |nil=>simp at hi
 |cons o os ih =>
  cases o with
  |none =>
   simp at h
   have key:∀ k,os[k]? ≠ some none:=fun k e=>by
    have:=List.mem_of_getElem? e
    exact absurd rfl (h none this)
   cases i with
   |zero =>
    cases j with
    |zero=>rfl
    |succ j=>exact absurd (by simpa using hj) (key j)
   |succ i=>exact absurd (by simpa using hi) (key i)
  |some d =>
   cases i with
   |zero=>simp at hi
   |succ i =>
    cases j with
    |zero=>simp at hj
    |succ j=>exact congrArg (· + 1) (ih (by simpa using h) (by simpa using hi) (by simpa using hj))
theorem sim_callIO {R:RD}{i:Nat}{t:TA}{u:TAd}{E:XK}(s:SimA i t u):Sim (y1x (spD R) [] E t) (z6v R i u):=fun io H0 F0 F δ σ H Q Qd I q k=>by
 obtain ⟨p0,q⟩:=q
 obtain ⟨d0,e0⟩:=Option.isSome_iff_exists.mp p0
 obtain ⟨w,ew,_⟩:=I.pk e0
 refine s io H0 F0 F δ σ H w _ _ I ew q fun os vs δ' F' H' sf I' r q'=>?_
 obtain ⟨fl,c,ec,hone,q'⟩:=q'
 obtain ⟨a,ea,n1,n2,hc,hio⟩:=I'.get i _ ec
 have e:=z2b ea
 rw [ew] at e;cases e
 show spD R (vs ++ []) H' Q E
 rw [List.append_nil]
 have erNe:∀ b,b≠a→er H' (some a) b=H' b:=fun b hb=>if_neg hb
 have erA:er H' (some a) a=none:=if_pos rfl
 have lenE:os.length=vs.length:=Paired.length r
 refine ⟨er H' (some a),os.map (fun o=>match o with|none=>some a|some _=>none),F',_,_,fun p b ep=>?_,⟨fun b o eb=>?_,I'.sub,Same.refl _,fun b o eb hb=>?_,by simp [lenE],fun j t ej=>?_,fun j l b1 c1 b2 c2 a' ne e1 e2 _ _=>?_⟩,q',fun b d v δ2 F2 H2 C q2=>?_⟩
 ·rw [List.getD_eq_getElem?_getD,List.getElem?_map] at ep
  cases eo:os[p]? with
  |none=>rw [eo] at ep;cases ep
  |some o =>
   rw [eo] at ep
   cases o with
   |some d=>cases ep
   |none =>
    cases ep
    obtain ⟨v,ev,rv⟩:=Paired.getE r eo
    cases (show v = .ref a from rv)
    exact ev
 ·by_cases hb:b=a
  ·subst hb;rw [erA] at eb;cases eb
  ·rw [erNe b hb] at eb;exact eb
 ·rw [hb] at eb;cases eb
 ·rw [List.getElem?_map] at ej
  cases eo:os[j]? with
  |none=>rw [eo] at ej;cases ej
  |some o =>
   rw [eo] at ej
   cases ej
   obtain ⟨v,ev,rv⟩:=Paired.getE r eo
   cases o with
   |some d=>exact ⟨v,by simp [List.getD_eq_getElem?_getD,ev],rv⟩
   |none =>
    cases (show v = .ref a from rv)
    exact ⟨a,by simp [List.getD_eq_getElem?_getD,ev],erA,n2,hc,fun _=>by simp [List.getD_eq_getElem?_getD,eo]⟩
 ·rw [List.getElem?_map] at e1 e2
  have key:∀ {j:Nat}{b:Bool}{c':D},Option.map (y0o c) os[j]? = some (.ob b c')→os[j]? = some none:=fun {j b c'} h=>by
   cases eo:os[j]? with
   |none=>rw [eo] at h;cases h
   |some o =>
    rw [eo] at h
    cases o with
    |none=>rfl
    |some d=>cases h
  exact ne (one_none hone (key e1) (key e2))
 ·obtain ⟨c',eo,q2⟩:=q2
  obtain ⟨p,ep⟩:=z5x eo
  obtain ⟨a2,ea2,m1,m2,hc2,hio2⟩:=C.get (p+1) _ (by simpa using ep)
  have ea3:a2=a:=by
   have h1:=hio2 rfl
   simp only [List.getD_cons_succ] at h1
   rw [List.getD_eq_getElem?_getD,List.getElem?_map] at h1
   cases eo:os[p]? with
   |none=>rw [eo] at h1;cases h1
   |some o =>
    rw [eo] at h1
    cases o with
    |some d=>cases h1
    |none=>cases h1;rfl
  subst ea3
  have hnew:∀ b o,F2 b=some o→F' b=none→H' b=none∨b=a2:=fun b o e1 e2=>by
   by_cases hb:b=a2
   ·exact .inr hb
   ·have:=C.new b o e1 e2
    rw [erNe b hb] at this
    exact .inl this
  have oth:∀ j b1 c1 a3,j≠i→δ'[j]? = some (.ob b1 c1)→σ.getD j none=some (.ref a3)→a3≠a2:=fun j b1 c1 a3 hj e1 e2 z=>I'.apart j i _ _ _ _ a2 hj e1 ec (by rw [e2,z]) ea
  have keepH:∀ b o,b≠a2→H' b=some o→H2 b=some o:=fun b o hb e=>C.base b o (by rw [erNe b hb];exact e)
  have J:EI io H0 F0 F2 (δ'.set i (.ob fl c')) σ H2:=by
   refine ⟨fun b o eb=>?_,C.sub,I'.ext.trans C.ext,fun b o e h=>?_,by simpa using I'.len,fun j t ej=>?_,fun j l b1 c1 b2 c2 a' ne e1 e2 e3 e4=>?_⟩
   ·exact keepH b o (fun z=>by rw [z,n1] at eb;cases eb) (I'.base b o eb)
   ·cases q:F' b with
    |some u=>exact I'.new b u q h
    |none =>
     rcases hnew b o e q with z|z
     ·exact I'.base.free z
     ·rw [z];exact n1
   ·rw [List.getElem?_set] at ej
    split at ej
    ·rename_i hij
     subst hij
     split at ej
     ·cases ej
      exact ⟨a2,ea,n1,m2,hc2,hio⟩
     ·cases ej
    ·rename_i hij
     refine (I'.get j t ej).mono C.ext fun a3 b3 c3 es eo=>?_
     subst es
     obtain ⟨a4,e1,h1,h2,h3,h4⟩:=I'.get j _ ej
     rw [eo] at e1;cases e1
     have hne:=oth j _ _ _ (fun z=>hij z.symm) ej eo
     refine ⟨?_,fun u hu=>keepH _ _ hne hu⟩
     cases q:F2 a3 with
     |none=>rfl
     |some o =>
      rcases hnew a3 o q h2 with z|z
      ·obtain ⟨u,hu⟩:=h3.some
       rw [z] at hu;cases hu
      ·exact absurd z hne
   ·have key:∀ {j:Nat}{b1:Bool}{c1:D},(δ'.set i (.ob fl c'))[j]? = some (Slot.ob b1 c1)→∃ b2 c2,δ'[j]? = some (Slot.ob b2 c2):=fun {j b1 c1} h=>by
     rw [List.getElem?_set] at h
     split at h
     ·rename_i hij;subst hij;exact ⟨_,_,ec⟩
     ·exact ⟨_,_,h⟩
    obtain ⟨b3,c3,q1⟩:=key e1
    obtain ⟨b4,c4,q2⟩:=key e2
    exact I'.apart j l _ _ _ _ a' ne q1 q2 e3 e4
  refine k b d v _ F2 H2 (sf.trans C.ext) (J.push ?_ fun b' c3 a3 es ev j b2 c2 ej eo=>?_) q2
  ·have h0:=C.get 0 _ rfl
   cases b with
   |false=>obtain ⟨v',e,r⟩:=h0;simp at e;subst e;exact ⟨v,rfl,r⟩
   |true =>
    obtain ⟨a3,e,h1,h2,h3,h4⟩:=h0
    simp at e;subst e
    refine ⟨a3,rfl,?_,h2,h3,fun z=>by cases z⟩
    by_cases hb:a3=a2
    ·rw [hb];exact n1
    ·rw [erNe a3 hb] at h1;exact I'.base.free h1
  ·subst ev
   have h0:=C.get 0 _ rfl
   cases b with
   |false=>cases es
   |true =>
    obtain ⟨a5,e5,h5,_⟩:=h0
    simp at e5;subst e5
    rw [List.getElem?_set] at ej
    split at ej
    ·rename_i hij
     subst hij
     rw [ea] at eo;cases eo
     exact C.apart 0 (p+1) false d true c' a2 (by omega) rfl (by simpa using ep) rfl ea2
    ·rename_i hij
     have hne:=oth j _ _ _ (fun z=>hij z.symm) ej eo
     rw [erNe _ hne] at h5
     obtain ⟨a4,e1,h1,h2,h3,h4⟩:=I'.get j _ ej
     rw [eo] at e1;cases e1
     obtain ⟨u,hu⟩:=h3.some
     rw [h5] at hu;cases hu
section
variable {X:Cx}{CX:CXT}{k:Nat}{f:Addr}{fd:FuncData}{ps:List Str}{R:RD}{E:XK}{x:Str}{p pos:Pos}{e:Expr}{es:List Expr}{i:Nat}{u:TAd}
theorem z2e (G:FnOk X.prog X.w X.K X.mg X.base CX k f fd ps (spD R)) (hr:Room k X.A) (hg:Gl X x) (hm:X.mg x=some (.ref f)) (hk:PySem.W.keepIn X.K (.ref f)=true) (hb:Binds X.K fd ps []) (hx:z7x CX X E)
  (ha:DA X i (e::es) u) (hdb:(x == ("__debug__":Str))=false:=by decide) (he:starEach (e::es) X.env=(false,eval e X.env)::starEach es X.env:=by rfl) (hpl:(backTo pos (starEach es X.env)).any (·.1)=false:=by rfl) :
  DE X (.Call (.Name x p) (e::es) [] pos) (z6v R i u):=by
 obtain ⟨t,pt,s⟩:=ha
 exact ⟨_,z1t G hr hg hm hk hb .nil hx pt hdb he hpl,sim_callIO s⟩
end
def y2d:Slot→Slot
 |.ob true c=>.ob true c
 |_=>.no
def outS:Nat→List Slot→List Slot
 |0,_=>[]
 |n+1,[]=>.no::outS n []
 |n+1,s::r=>y2d s::outS n r
theorem outS_len:∀ (n:Nat) (δ:List Slot),(outS n δ).length=n
 |0,_=>rfl
 |n+1,[]=>by simp [outS,outS_len n]
 |n+1,s::r=>by simp [outS,outS_len n]
theorem z9t:∀ {n:Nat}{δ:List Slot}{p:Nat}{s:Slot},(outS n δ)[p]? = some s→s = .no ∨ ∃ c,s = .ob true c∧δ[p]? = some (.ob true c)
 |0,δ,p,s,h=>by simp [outS] at h
 |n+1,[],0,s,h=>by simp [outS] at h;exact .inl h.symm
 |n+1,[],p+1,s,h=>by
  rcases z9t (n:=n) (δ:=[]) (p:=p) (s:=s) (by simpa [outS] using h) with z|⟨c,_,z⟩
  ·exact .inl z
  ·simp at z
 |n+1,t::r,0,s,h=>by
  simp [outS] at h
  cases t with
  |no=>exact .inl h.symm
  |fz d=>exact .inl h.symm
  |sc K d=>exact .inl h.symm
  |ob b c =>
   cases b with
   |false=>exact .inl h.symm
   |true=>exact .inr ⟨c,h.symm,rfl⟩
 |n+1,t::r,p+1,s,h=>by simpa using z9t (n:=n) (δ:=r) (p:=p) (s:=s) (by simpa [outS] using h)
section
variable {P:Program}{w:World}{K:PySem.W.Frag}{mg:Str→Option Value}{base:Heap}
theorem Fun.dok {x qual:Str}{st:Stmt}{f:Addr}{fd:FuncData}{N ps:List Str}{k:Nat}{R:RD}(Fn:Fun K x qual st f fd) (S:FnScope N ps (z0c st)) (hlen:∀ δ Qd,R δ Qd→δ.length=ps.length) (hN:ps.length≤N.length)
  (hbody:∀ (cdv:Value) (A:Around) (outer:List Env) (s:Shared) (H:Hp) (E:XK) (δ:List Slot) (Qd:Bool→D→List Slot→Prop),Room k (A.deeper (envOfC qual (z0c st) s.heap.objs.size f cdv))→R δ Qd →
   ∃ td,DSs (cxOf CX0 P w K mg base N qual (z0c st) f cdv A outer s H E).nox (z0o st) td∧td { nx:=fun δ'=>Qd false .non (outS ps.length δ'),rt:=fun b d δ'=>Qd b d (outS ps.length δ') } (δ ++ List.replicate (N.length - ps.length) .no)) :
  FnOk P w K mg base CX0 (k+1) f fd ps (spD R):=by
 refine Fn.ok S (fun vs H Q E h=>?_) (fun cdv A outer s H vs Q E hr h=>?_)
 ·obtain ⟨x,ic,F,δ,Qd,_,I,hR,_⟩:=h
  have:=I.len
  rw [List.length_map] at this
  rw [← this]
  exact hlen _ _ hR
 ·obtain ⟨x,ic,F,δ,Qd,hic,I,hR,kq⟩:=h
  have l1:=I.len
  rw [List.length_map] at l1
  have l2:=hlen _ _ hR
  obtain ⟨td,⟨t,pt,st'⟩,ht⟩:=hbody cdv A outer s H E δ Qd hr hR
  refine ⟨t,pt,?_⟩
  have est:L2.start N vs=vs.map some ++ List.replicate (N.length - ps.length) none:=by rw [L2.start,← l1,l2]
  have I1:EI ic x F F (δ ++ List.replicate (N.length - ps.length) .no) (L2.start N vs) H:=by
   rw [est]
   refine ⟨I.base,I.sub,I.ext,I.new,by simp [l1],fun j s e=>?_,fun i j b c b' c' a ne e1 e2 e3 e4=>?_⟩
   ·by_cases hj:j < δ.length
    ·rw [List.getElem?_append_left hj] at e
     have:=I.get j s e
     rwa [List.getD_eq_getElem?_getD,List.getD_eq_getElem?_getD,List.getElem?_append_left (by simpa [← l1] using hj),← List.getD_eq_getElem?_getD,← List.getD_eq_getElem?_getD]
    ·rw [List.getElem?_append_right (by omega),List.getElem?_replicate] at e
     split at e
     ·cases e;trivial
     ·cases e
   ·have key:∀ {j:Nat}{b:Bool}{c:D},(δ ++ List.replicate (N.length - ps.length) Slot.no)[j]? = some (.ob b c)→j < δ.length∧δ[j]? = some (.ob b c):=fun {j b c} h=>by
     by_cases hj:j < δ.length
     ·rw [List.getElem?_append_left hj] at h;exact ⟨hj,h⟩
     ·rw [List.getElem?_append_right (by omega),List.getElem?_replicate] at h
      split at h <;> cases h
    obtain ⟨z1,q1⟩:=key e1
    obtain ⟨z2,q2⟩:=key e2
    rw [List.getD_eq_getElem?_getD,List.getElem?_append_left (by simpa [← l1] using z1)] at e3
    rw [List.getD_eq_getElem?_getD,List.getElem?_append_left (by simpa [← l1] using z2)] at e4
    exact I.apart i j b c b' c' a ne q1 q2 (by rw [List.getD_eq_getElem?_getD];exact e3) (by rw [List.getD_eq_getElem?_getD];exact e4)
  have fin:∀ (b:Bool) (d:D) (v:V) (F':Hp) (δ':List Slot) (σ':L2.St) (H':Hp),EI (none::ic) x F F' (rsl b d::δ') (some v::σ') H'→EI (none::ic) x F F' (rsl b d::outS ps.length δ') (some v::vs.map some) H':=by
   intro b d v F' δ' σ' H' I2
   have key:∀ {p:Nat}{c:D},δ'[p]? = some (.ob true c)→∃ a,σ'.getD p none=some (.ref a)∧(vs.map some).getD p none=some (.ref a)∧SOk x F' H' (ic.getD p none) (some (.ref a)) (.ob true c):=fun {p c} h=>by
    have q:=I2.get (p+1) _ (by simpa using h)
    simp only [List.getD_cons_succ] at q
    obtain ⟨a,e,h1,h2,h3,h4⟩:=q
    have ev:=hic p a (h4 rfl)
    exact ⟨a,e,by simp [List.getD_eq_getElem?_getD,ev],a,rfl,h1,h2,h3,h4⟩
   refine ⟨I2.base,I2.sub,I2.ext,I2.new,by simp [outS_len,← l1,l2],fun j s e=>?_,fun i j b1 c b' c' a ne e1 e2 e3 e4=>?_⟩
   ·cases j with
    |zero=>simp at e;subst e;exact I2.get 0 _ rfl
    |succ j =>
     simp only [List.getElem?_cons_succ,List.getD_cons_succ] at e ⊢
     rcases z9t e with z|⟨c,z,z2⟩
     ·subst z;trivial
     ·subst z
      obtain ⟨a,_,e2,q⟩:=key z2
      rw [e2];exact q
   ·have k2:∀ {j:Nat}{b1:Bool}{c:D}{a:Addr},(rsl b d::outS ps.length δ')[j]? = some (.ob b1 c)→(some v::vs.map some).getD j none=some (.ref a)→(rsl b d::δ')[j]? = some (.ob b1 c)∧(some v::σ').getD j none=some (.ref a):=fun {j b1 c a} g1 g2=>by
     cases j with
     |zero=>exact ⟨g1,g2⟩
     |succ j =>
      simp only [List.getElem?_cons_succ,List.getD_cons_succ] at g1 g2 ⊢
      rcases z9t g1 with z|⟨c',z,z2⟩
      ·cases z
      ·cases z
       obtain ⟨a',q1,q2,_⟩:=key z2
       rw [g2] at q2;cases q2
       exact ⟨z2,q1⟩
    obtain ⟨u1,u2⟩:=k2 e1 e3
    obtain ⟨u3,u4⟩:=k2 e2 e4
    exact I2.apart i j _ _ _ _ a ne u1 u3 u2 u4
  exact st' ic x F F _ _ H _ _ I1 ht ⟨fun F' δ' σ' H' sf I2 q2=>kq false .non .non _ F' H' (fin _ _ _ _ _ _ _ I2.pN) q2,fun b d v F' δ' σ' H' sf I2 q2=>kq b d v _ F' H' (fin _ _ _ _ _ _ _ I2) q2,fun _ _ _ _ _ _ z=>z.elim,fun _ _ _ _ _ _ z=>z.elim⟩
end
end VL
namespace VL
open PySem L2
section
variable {io:List (Option Addr)}{H0 F0 F F':Hp}{δ:List Slot}{σ:St}{H:Hp}
theorem EI.pushN {o:Option V}(I:EI io H0 F0 F δ σ H):EI (none::io) H0 F0 F (.no::δ) (o::σ) H where
 base:=I.base
 sub:=I.sub
 ext:=I.ext
 new:=I.new
 len:=by simp [I.len]
 get:=fun i t e=>by
  cases i with
  |zero=>simp at e;subst e;trivial
  |succ i=>simpa using I.get i t (by simpa using e)
 apart:=fun i j b c b' c' a ne e1 e2 e3 e4=>by
  cases i with
  |zero=>simp at e1
  |succ i =>
   cases j with
   |zero=>simp at e2
   |succ j=>exact I.apart i j b c b' c' a (by omega) (by simpa using e1) (by simpa using e2) (by simpa using e3) (by simpa using e4)
theorem EI.pad (I:EI io H0 F0 F δ σ H):∀ (τ:St),EI (List.replicate τ.length none ++ io) H0 F0 F (List.replicate τ.length .no ++ δ) (τ ++ σ) H
 | []=>I
 |o::τ=>by
  have:=(I.pad τ).pushN (o:=o)
  simpa [List.replicate_succ] using this
theorem EI.unpad:∀ {τ:St}{δ:List Slot},EI (List.replicate τ.length none ++ io) H0 F0 F δ (τ ++ σ) H→EI io H0 F0 F (δ.drop τ.length) σ H
 | [],δ,I=>I
 |o::τ,[],I=>by have:=I.len;simp at this
 |o::τ,s::δ,I=>by
  have I':EI (none::(List.replicate τ.length none ++ io)) H0 F0 F (s::δ) (o::(τ ++ σ)) H:=by simpa [List.replicate_succ] using I
  simpa using EI.unpad I'.pop
theorem EI.hide {p:Addr}{acc:List D}{ys:List V}(I:EI (none::io) H0 F0 F (.ob false (.lst acc)::δ) (some (.ref p)::σ) H) (hp:H p=some (.lst ys)):EI io (upd H0 p (.lst ys)) F0 F δ σ H:=by
 have J:=I.pop
 obtain ⟨a,e,h1,h2,h3,h4⟩:=I.get 0 _ rfl
 simp at e;subst e
 refine ⟨fun b o eb=>?_,I.sub,I.ext,fun b o e h=>?_,J.len,fun i t e=>?_,J.apart⟩
 ·by_cases hb:b=p
  ·subst hb;rw [z0l] at eb;cases eb;exact hp
  ·rw [z0i hb] at eb;exact I.base b o eb
 ·rw [z0i (fun z=>by rw [z,h2] at e;cases e)]
  exact I.new b o e h
 ·have q:=J.get i t e
  cases t with
  |no=>trivial
  |fz d=>exact q
  |sc K d=>exact q
  |ob b c =>
   obtain ⟨a,e1,g1,g2,g3,g4⟩:=q
   refine ⟨a,e1,?_,g2,g3,g4⟩
   rw [z0i]
   ·exact g1
   ·rintro rfl
    exact I.apart 0 (i+1) _ _ _ _ _ (by omega) rfl (by simpa using e) rfl (by simpa using e1)
theorem EI.unhide {p:Addr}{acc:List D}{ys ys':List V}(I:EI io (upd H0 p (.lst ys)) F0 F δ σ H) (h0:H0 p=none) (hF:F0 p=none) (r:Reps F acc ys'):EI (none::io) H0 F0 F (.ob false (.lst acc)::δ) (some (.ref p)::σ) (upd H p (.lst ys')):=by
 have hFp:F p=none:=by
  cases q:F p with
  |none=>rfl
  |some o=>have:=I.new p o q hF;rw [z0l] at this;cases this
 have ownNe:∀ {i:Nat}{b:Bool}{c:D}{a:Addr},δ[i]? = some (.ob b c)→σ.getD i none=some (.ref a)→a≠p:=fun {i b c a} e eo z=>by
  obtain ⟨a',e1,g1,_⟩:=I.get i _ e
  rw [eo] at e1;cases e1
  rw [z,z0l] at g1;cases g1
 refine ⟨fun b o eb=>?_,I.sub.upd hFp,I.ext,fun b o e h=>?_,by simp [I.len],fun i t e=>?_,fun i j b c b' c' a ne e1 e2 e3 e4=>?_⟩
 ·have hb:b≠p:=fun z=>by rw [z,h0] at eb;cases eb
  rw [z0i hb]
  exact I.base b o (by rw [z0i hb];exact eb)
 ·have q:=I.new b o e h
  by_cases hb:b=p
  ·rw [hb];exact h0
  ·rw [z0i hb] at q;exact q
 ·cases i with
  |zero=>simp at e;subst e;exact ⟨p,rfl,h0,hFp,⟨ys',z0l,r⟩,fun z=>by cases z⟩
  |succ i =>
   have e':δ[i]? = some t:=by simpa using e
   have q:=I.get i t e'
   simp only [List.getD_cons_succ]
   cases t with
   |no=>trivial
   |fz d=>exact q
   |sc K d=>exact q
   |ob b c =>
    obtain ⟨a,e1,g1,g2,g3,g4⟩:=q
    have ne:=ownNe e' e1
    rw [z0i ne] at g1
    exact ⟨a,e1,g1,g2,g3.mono (Same.refl _) (fun o eo=>by rw [z0i ne];exact eo),g4⟩
 ·cases i with
  |zero =>
   cases j with
   |zero=>exact ne rfl
   |succ j=>simp at e1 e3;subst e3;exact ownNe (by simpa using e2) (by simpa using e4) rfl
  |succ i =>
   cases j with
   |zero=>simp at e2 e4;subst e4;exact ownNe (by simpa using e1) (by simpa using e3) rfl
   |succ j=>exact I.apart i j b c b' c' a (by omega) (by simpa using e1) (by simpa using e2) (by simpa using e3) (by simpa using e4)
end
def SimGn (n:Nat) (g:TG) (gd:TGd):Prop:=∀ (io:List (Option Addr)) (H0 F0 F:Hp) (δ:List Slot) (σ:St) (H:Hp) (d:D) (v:V) (Q:St→Hp→Prop) (Qd:List Slot→Prop),EI io H0 F0 F δ σ H→Rep F d v→gd d δ Qd →
 (∀ δ' σ',EI io H0 F0 F δ' σ' H→σ'.drop n=σ.drop n→σ'.length=σ.length→Qd δ'→Q σ' H)→g v σ H Q
def SimGsn (n:Nat) (g:TGs) (gd:TGsd):Prop:=∀ (io:List (Option Addr)) (H0 F0 F:Hp) (δ:List Slot) (σ:St) (H:Hp) (ds:List D) (vs:List V) (Q:St→Hp→Prop) (Qd:List Slot→Prop),EI io H0 F0 F δ σ H→Reps F ds vs→gd ds δ Qd →
 (∀ δ' σ',EI io H0 F0 F δ' σ' H→σ'.drop n=σ.drop n→σ'.length=σ.length→Qd δ'→Q σ' H)→g vs σ H Q
def DGn (X:Cx) (n:Nat) (e:Expr) (gd:TGd):Prop:=∃ g,PG X e g∧SimGn n g gd
def DGsn (X:Cx) (n:Nat) (es:List Expr) (gd:TGsd):Prop:=∃ g,PGs X es g∧SimGsn n g gd
section
variable {X:Cx}{pos:Pos}{n:Nat}
theorem z1s {i:Nat}{x:Str}(hn:i < n) (hN:X.N.Nodup) (hi:X.N[i]? = some x) (hx:Loc X.env.scope x) (hf:X.fn x=true∨X.env.scope.names.lookup x=some .local:=by first|exact .inl rfl|exact .inr rfl|assumption):DGn X n (.Name x pos) (dgN i) :=
 ⟨_,z4o hN hi hx hf,fun io H0 F0 F δ σ H d v Q Qd I r q k=>by
  obtain ⟨h,q⟩:=q
  obtain ⟨h1,h2⟩:=h.ne
  refine k _ _ ((I.pushF r).setv (b:=false) h1 h2) ?_ (by simp) q
  rw [List.drop_set_of_lt (by omega)]⟩
theorem z9u:DGsn X n [] dgNil:=⟨_,pgs_nil,fun io H0 F0 F δ σ H ds vs Q Qd I r q k=>by
 obtain ⟨rfl,q⟩:=q
 exact ⟨r,k _ _ I rfl rfl q⟩⟩
theorem z4b {e:Expr}{es:List Expr}{g:TGd}{u:TGsd}(h1:DGn X n e g) (h2:DGsn X n es u)
  (hs:(assignEach (e::es) X.env).map (·.2)=assign e X.env::(assignEach es X.env).map (·.2):=by rfl):DGsn X n (e::es) (dgCons g u):=by
 obtain ⟨t,p,s⟩:=h1;obtain ⟨t',p',s'⟩:=h2
 refine ⟨_,z9m p p' hs,fun io H0 F0 F δ σ H ds vs Q Qd I r q k=>?_⟩
 obtain ⟨d,dr,rfl,q⟩:=q
 obtain ⟨v,vr,rfl,r1,r2⟩:=r
 exact ⟨v,vr,rfl,s io H0 F0 F δ σ H d v _ _ I r1 q fun δ' σ' I' e1 e2 q'=>s' io H0 F0 F δ' σ' H dr vr Q Qd I' r2 q' fun δ2 σ2 I2 e3 e4 q2=>k δ2 σ2 I2 (e3.trans e1) (e4.trans e2) q2⟩
theorem dgn_tup {es:List Expr}{k:Nat}{u:TGsd}{m:Nat}(hc:X.calm=true) (h:DGsn X n es u)
  (hn:(assignEach es X.env).length=m:=by rfl) (hst:(assignEach es X.env).findIdx? (·.1)=none:=by rfl):DGn X n (.Tuple es k pos) (dgTup m u):=by
 obtain ⟨t,p,s⟩:=h
 refine ⟨_,pg_tup hc p hn hst,fun io H0 F0 F δ σ H d v Q Qd I r q k=>?_⟩
 obtain ⟨ds,rfl,hl,q⟩:=q
 obtain ⟨a,vs,rfl,h1,r1⟩:=r
 exact ⟨a,vs,rfl,SqT.of (I.sub _ _ h1),by rw [← r1.len];exact hl,s io H0 F0 F δ σ H ds vs Q Qd I r1 q k⟩
end
def dYes:TTd:=fun δ Q=>Q true δ
def DF (X:Cx) (ifs:List Expr) (td:TTd):Prop:=∃ t,PF X ifs t∧SimT t td
theorem z5v {X:Cx}:DF X [] dYes:=⟨_,pf_nil,fun io H0 F0 F δ σ H Q Qd I q k=>k true δ F H (Same.refl _) I q⟩
theorem y0y {X:Cx}{c:Expr}{td:TTd}(h:DT X c td):DF X [c] td:=by obtain ⟨t,p,s⟩:=h;exact ⟨t,pf_one p,s⟩
def dComp (n:Nat) (di:TLd) (gd:TGd) (tc:TTd) (te:TEd):TEd:=fun δ Q=>di δ fun ds δ'=>∃ P:List D→List D→List Slot→Prop,P ds [] δ' ∧
 (∀ d r acc δ1,P (d::r) acc δ1→gd d (List.replicate n .no ++ δ1) fun δ2=>tc δ2 fun b δ3=>if b=true then te δ3 fun _ y δ4=>acc.length < sizeLine∧P r (acc ++ [y]) (δ4.drop n) else P r acc (δ3.drop n)) ∧
 ∀ acc δ1,P [] acc δ1→Q true (.lst acc) δ1
theorem sim_comp {n:Nat}{wi:TI}{g:TG}{tc:TT}{te:TE}{di:TLd}{gd:TGd}{cd:TTd}{ed:TEd}(si:SimI wi di) (sg:SimGn n g gd) (sc:SimT tc cd) (se:Sim te ed):Sim (tCompG n wi g tc te) (dComp n di gd cd ed):=by
 intro io H0 F0 F δ σ H Q Qd I q k
 refine si io H0 F0 F δ σ H _ _ I q fun J ds δ' F' H' sf I' ok q' Dp hD=>?_
 obtain ⟨P,p0,step,fin⟩:=q'
 have hF0:F0 Dp=none:=I'.ext.free (I'.sub.free hD)
 refine ⟨fun i m ys H=>m=ds.length - i∧i≤ds.length∧∃ F1 δ1 acc,Same F' F1∧EI (none::io) H0 F0 F1 (.ob false (.lst acc)::δ1) (some (.ref Dp)::σ) H∧H Dp=some (.lst ys)∧P (ds.drop i) acc δ1,⟨ds.length,by simp,Nat.zero_le _,F',δ',[],Same.refl _,I'.newL hD rfl,z0l,p0⟩,?_⟩
 rintro i m ys H1 ⟨rfl,hi,F1,δ1,acc,s1,I1,hy,p1⟩
 refine ⟨hy,?_⟩
 obtain ⟨a,e,hH0,hF1,⟨vs,hv,rv⟩,_⟩:=I1.get 0 _ rfl
 simp at e;subst e
 rw [hy] at hv;cases hv
 have Ih:=I1.hide hy
 obtain ⟨o1,o2⟩:=ok io _ F0 F1 δ1 σ H1 s1 Ih i
 by_cases hlt:i < ds.length
 ·have ed':ds[i]? = some ds[i]:=by simp [hlt]
  have edr:ds.drop i=ds[i]::ds.drop (i+1):=List.drop_eq_getElem_cons hlt
  rw [edr] at p1
  obtain ⟨go,yl⟩:=o1 _ ed'
  refine .inr ⟨go,fun ys' H'=>∃ F2 δ2 acc',Same F' F2∧EI (none::io) H0 F0 F2 (.ob false (.lst acc')::δ2) (some (.ref Dp)::σ) H'∧H' Dp=some (.lst ys')∧P (ds.drop (i+1)) acc' δ2,fun ys' H' hN=>⟨ds.length - (i+1),by omega,rfl,hlt,hN⟩,fun x H2 y τ hτ=>?_⟩
  obtain ⟨F2,s2,I2,r2⟩:=yl x H2 y
  have I2p:=I2.pad τ
  rw [hτ] at I2p
  refine sg _ _ F0 F2 _ (τ ++ σ) H2 _ x _ _ I2p r2 (step _ _ acc δ1 p1) fun δ3 σ3 I3 e1 e2 q3=>?_
  have eσ:σ3=σ3.take n ++ σ:=by
   have h1:σ3.drop n=σ:=by rw [e1,← hτ];simp
   conv=>lhs;rw [← List.take_append_drop n σ3,h1]
  have lτ:(σ3.take n).length=n:=by
   rw [List.length_take,e2,List.length_append,hτ];omega
  refine ⟨⟨σ3.take n,lτ,eσ⟩,?_⟩
  refine sc _ _ F0 F2 δ3 σ3 H2 _ _ I3 q3 fun b δ4 F4 H4 s4 I4 q4=>?_
  have back:∀ {δ5:List Slot}{F5 H5:Hp},EI (List.replicate n none ++ io) (upd H0 Dp (.lst ys)) F0 F5 δ5 σ3 H5→EI io (upd H0 Dp (.lst ys)) F0 F5 (δ5.drop n) σ H5:=fun {δ5 F5 H5} I5=>by
   rw [eσ] at I5
   have I5':EI (List.replicate (σ3.take n).length none ++ io) (upd H0 Dp (.lst ys)) F0 F5 δ5 (σ3.take n ++ σ) H5:=by rw [lτ];exact I5
   have:=EI.unpad I5'
   rwa [lτ] at this
  cases b with
  |false =>
   rw [if_neg Bool.false_ne_true] at q4 ⊢
   have I5:=(back I4)
   have hy4:H4 Dp=some (.lst ys):=I4.base _ _ z0l
   have I6:=I5.unhide (ys':=ys) hH0 hF0 (Reps.mono (s2.trans s4) _ _ rv)
   have eH:upd H4 Dp (.lst ys)=H4:=by
    funext b;by_cases hb:b=Dp
    ·rw [hb,z0l,hy4]
    ·rw [z0i hb]
   rw [eH] at I6
   exact ⟨F4,_,acc,(s1.trans s2).trans s4,I6,hy4,q4⟩
  |true =>
   rw [if_pos rfl] at q4 ⊢
   refine se.fz I4 q4 fun d v δ5 F5 H5 s5 I5 r5 q5=>?_
   refine ⟨I5.base _ _ z0l,by rw [← rv.len];exact q5.1,F5,_,acc ++ [d],((s1.trans s2).trans s4).trans s5,?_,z0l,q5.2⟩
   exact (back I5).unhide hH0 hF0 ((Reps.mono ((s2.trans s4).trans s5) _ _ rv).app (.one r5))
 ·have e:i=ds.length:=by omega
  subst e
  rw [List.drop_length] at p1
  exact .inl ⟨o2 rfl,k true _ _ δ1 F1 H1 (sf.trans s1) I1 (fin acc δ1 p1)⟩
def tOf (td:TEd):TE:=fun σ H Q=>∃ io H0 F0 F δ Qd,EI io H0 F0 F δ σ H∧td δ Qd∧∀ b d v δ' F' H',Same F F'→EI (none::io) H0 F0 F' (rsl b d::δ') (some v::σ) H'→Qd b d δ'→Q v H'
theorem sim_tOf (td:TEd):Sim (tOf td) td:=fun io H0 F0 F δ σ H Q Qd I q k=>⟨io,H0,F0,F,δ,Qd,I,q,k⟩
theorem DE.pe {X:Cx}{e:Expr}{td:TEd}(h:DE X e td):PE X e (tOf td):=by
 obtain ⟨te,p,s⟩:=h
 intro pins s' σ H Q I q
 obtain ⟨io,H0,F0,F,δ,Qd,J,q,k⟩:=q
 exact p pins s' σ H Q I (s io H0 F0 F δ σ H Q Qd J q k)
def ttOf (td:TTd):TT:=fun σ H Q=>∃ io H0 F0 F δ Qd,EI io H0 F0 F δ σ H∧td δ Qd∧∀ b δ' F' H',Same F F'→EI io H0 F0 F' δ' σ H'→Qd b δ'→Q b H'
theorem sim_ttOf (td:TTd):SimT (ttOf td) td:=fun io H0 F0 F δ σ H Q Qd I q k=>⟨io,H0,F0,F,δ,Qd,I,q,k⟩
theorem DF.pf {X:Cx}{e:List Expr}{td:TTd}(h:DF X e td):PF X e (ttOf td):=by
 obtain ⟨te,p,s⟩:=h
 intro pins s' σ H Q I q
 obtain ⟨io,H0,F0,F,δ,Qd,J,q,k⟩:=q
 exact p pins s' σ H Q I (s io H0 F0 F δ σ H Q Qd J q k)
def tgOf (n:Nat) (gd:TGd):TG:=fun v σ H Q=>∃ io H0 F0 F δ d Qd,EI io H0 F0 F δ σ H∧Rep F d v∧gd d δ Qd∧∀ δ' σ',EI io H0 F0 F δ' σ' H→σ'.drop n=σ.drop n→σ'.length=σ.length→Qd δ'→Q σ' H
theorem sim_tgOf (n:Nat) (gd:TGd):SimGn n (tgOf n gd) gd:=fun io H0 F0 F δ σ H d v Q Qd I r q k=>⟨io,H0,F0,F,δ,d,Qd,I,r,q,k⟩
theorem DGn.pg {X:Cx}{n:Nat}{e:Expr}{gd:TGd}(h:DGn X n e gd):PG X e (tgOf n gd):=by
 obtain ⟨g,p,s⟩:=h
 intro pins s' σ H v u Q I r q
 obtain ⟨io,H0,F0,F,δ,d,Qd,J,rd,q,k⟩:=q
 exact p pins s' σ H v u Q I r (s io H0 F0 F δ σ H d v Q Qd J rd q k)
section
variable {X:Cx}
theorem z3v {elt iter tg:Expr}(xs:List Str) {pos:Pos}{ifs:List Expr}{sc:Scope}(M:List Str) {di:TLd}{gd:TGd}{cd:TTd}{ed:TEd}(hc:X.calm=true) (S:CScopeG X.env.scope X.N xs sc M) (hi:DI X tg iter di) (hg:∀ pins ex H₀ s₀ C,DGn (z3s X sc (xs ++ M) pins ex H₀ s₀ C) xs.length tg gd)
  (ht:∀ pins ex H₀ s₀ C,DF (z3s X sc (xs ++ M) pins ex H₀ s₀ C) ifs cd) (he:∀ pins ex H₀ s₀ C,DE (z3s X sc (xs ++ M) pins ex H₀ s₀ C) elt ed)
  (hs:∀ v,foldedSetIterable iter X.env v=pure v:=by intro _;rfl):DE X (.ListComp elt [⟨tg,iter,ifs,0⟩] sc pos) (dComp xs.length di gd cd ed):=by
 obtain ⟨wi,p2,s2⟩:=hi
 exact ⟨_,pe_compG xs M hc (fun pins ex H₀ s₀ C=>(hg pins ex H₀ s₀ C).pg) S p2 (fun pins ex H₀ s₀ C=>(ht pins ex H₀ s₀ C).pf) (fun pins ex H₀ s₀ C=>(he pins ex H₀ s₀ C).pe) hs,sim_comp s2 (sim_tgOf _ _) (sim_ttOf _) (sim_tOf _)⟩
theorem y0d {elt iter tg:Expr}{y:Str}(xs:List Str) {py pos spos:Pos}{ifs:List Expr}{sc:Scope}{j:Nat}(M:List Str) {di:TLd}{gd:TGd}{cd:TTd}{ed:TEd}(hN:X.N.Nodup) (hj:X.N[j]? = some y) (hy:X.env.scope.names.lookup y=some .local) (hc:X.calm=true) (S:CScopeG X.env.scope X.N xs sc M) (hi:DI X tg iter di)
  (hg:∀ pins ex H₀ s₀ C,DGn (z3s X sc (xs ++ M) pins ex H₀ s₀ C) xs.length tg gd) (ht:∀ pins ex H₀ s₀ C,DF (z3s X sc (xs ++ M) pins ex H₀ s₀ C) ifs cd) (he:∀ pins ex H₀ s₀ C,DE (z3s X sc (xs ++ M) pins ex H₀ s₀ C) elt ed)
  (hsw:swapsWith (.ListComp elt [⟨tg,iter,ifs,0⟩] sc pos) (some (.Name y py)) spos.line X.env=pure true:=by rfl)
  (hs:∀ v,foldedSetIterable iter X.env v=pure v:=by intro _;rfl):DS X (.Assign [.Name y py] (.ListComp elt [⟨tg,iter,ifs,0⟩] sc pos) spos) (dSet j (dComp xs.length di gd cd ed)):=by
 obtain ⟨wi,p2,s2⟩:=hi
 exact ⟨_,ps_compG xs M hN hj hy hc (fun pins ex H₀ s₀ C=>(hg pins ex H₀ s₀ C).pg) S p2 (fun pins ex H₀ s₀ C=>(ht pins ex H₀ s₀ C).pf) (fun pins ex H₀ s₀ C=>(he pins ex H₀ s₀ C).pe) hsw hs,simS_set (sim_comp s2 (sim_tgOf _ _) (sim_ttOf _) (sim_tOf _))⟩
end
end VL
namespace VL
open PySem L2
section
variable {X:Cx}{pos:Pos}
theorem de_gS {x:Str}{z:Str}{pos:Pos}(hg:Gl X x) (hm:∃ t,X.mg x=some (.str z t)) (hd:(x == ("__debug__":Str))=false:=by decide):DE X (.Name x pos) (dC (.str z)):=by
 obtain ⟨t,hm⟩:=hm;exact de_glob (v:=.str z) (fun _=>rfl) hg hm ⟨t,rfl⟩ hd
def fIxQ:D→D→(Bool→D→Prop)→Prop:=fun x y Q=>∃ xs i d,(x = .lst xs∨x = .tup xs)∧y = .int i∧atI xs i=some d∧Q false d
theorem os_ixQ {K:PySem.W.Frag}:OpS (rIx K) fIxQ:=by
 intro io H0 F0 F δ σ H x y v u Q Qd I px py q k
 obtain ⟨xs,i,d,hx,rfl,h,q⟩:=q
 rcases hx with rfl|rfl
 ·obtain ⟨a,vs,rfl,h1,r1⟩:=px.lst I
  obtain ⟨w,e,r⟩:=r1.atI h
  exact .inl ⟨a,vs,i,w,rfl,py.int,SqL.of h1,e,k false d w F H (Same.refl _) (I.pushF r) q⟩
 ·obtain ⟨a,vs,rfl,h1,r1⟩:=px.tup I
  obtain ⟨w,e,r⟩:=r1.atI h
  exact .inr (.inl ⟨a,vs,i,w,rfl,py.int,SqT.of h1,e,k false d w F H (Same.refl _) (I.pushF r) q⟩)
def fLenQ:List D→(Bool→D→Prop)→Prop:=fun ds Q=>∃ xs,(ds=[.lst xs]∨ds=[.tup xs])∧Q false (.int xs.length)
theorem cs_lenQ {K:PySem.W.Frag}:z7a (fun xs H Q=>∃ p ys,xs=[.ref p]∧(SqL K H p ys∨SqT K H p ys)∧Q (.int ys.length) H) fLenQ:=by
 intro io H0 F0 F δ σ H xs vs Q Qd I px q k
 obtain ⟨ys,h,q⟩:=q
 rcases h with rfl|rfl
 ·obtain ⟨v,rfl,pk⟩:=pks1 px
  obtain ⟨a,us,rfl,h1,r⟩:=pk.lst I
  refine ⟨a,us,rfl,.inl (SqL.of h1),k false (.int ys.length) _ F H (Same.refl _) (I.pushF ?_) q⟩
  rw [r.len];rfl
 ·obtain ⟨v,rfl,pk⟩:=pks1 px
  obtain ⟨a,us,rfl,h1,r⟩:=pk.tup I
  refine ⟨a,us,rfl,.inr (SqT.of h1),k false (.int ys.length) _ F H (Same.refl _) (I.pushF ?_) q⟩
  rw [r.len];rfl
abbrev TOd:=List Slot→(Option Int→List Slot→Prop)→Prop
def SimO (t:TO) (td:TOd):Prop:=∀ (io:List (Option Addr)) (H0 F0 F:Hp) (δ:List Slot) (σ:St) (H:Hp) (Q:Option Int→Hp→Prop) (Qd:Option Int→List Slot→Prop),EI io H0 F0 F δ σ H→td δ Qd →
 (∀ o δ' F' H',Same F F'→EI io H0 F0 F' δ' σ H'→Qd o δ'→Q o H')→t σ H Q
def DO (X:Cx) (e:Option Expr) (td:TOd):Prop:=∃ t,PO X e t∧SimO t td
def doN:TOd:=fun δ Q=>Q none δ
def doS (t:TEd):TOd:=fun δ Q=>t δ fun _ d δ'=>∃ i,d = .int i∧Q (some i) δ'
theorem z4p:DO X none doN:=⟨_,po_none,fun io H0 F0 F δ σ H Q Qd I q k=>k none δ F H (Same.refl _) I q⟩
theorem z3h {e:Expr}{t:TEd}(h:DE X e t):DO X (some e) (doS t):=by
 obtain ⟨t,p,s⟩:=h
 refine ⟨_,po_some p,fun io H0 F0 F δ σ H Q Qd I q k=>s.fz I q fun d v δ' F' H' sf I' r q'=>?_⟩
 obtain ⟨i,rfl,q'⟩:=q'
 exact ⟨i,r,k (some i) δ' F' H' sf I' q'⟩
def cutD (xs:List D) (lo hi:Option Int):List D:=(xs.drop (HT.sIx xs.length 0 lo)).take (HT.sIx xs.length xs.length hi - HT.sIx xs.length 0 lo)
theorem Reps.cut {F:Hp}{ds:List D}{vs:List V}(r:Reps F ds vs) (lo hi:Option Int):Reps F (cutD ds lo hi) (cutV vs lo hi):=by
 unfold cutD cutV
 rw [r.len]
 exact (r.drop _).take _
def dSlLV (i:Nat) (l h:TOd):TEd:=fun δ Q=>(peek δ i).isSome=true∧l δ fun lo δ2=>h δ2 fun hi δ3=>∃ xs,peek δ3 i=some (.lst xs)∧Q true (.lst (cutD xs lo hi)) δ3
def dSlS (t:TEd) (l h:TOd):TEd:=fun δ Q=>t δ fun _ d δ1=>l δ1 fun lo δ2=>h δ2 fun hi δ3=>∃ z,d = .str z∧z.length≤sizeLine∧Q false (.str (Txt.slice z lo hi)) δ3
variable {e:Expr}{lo hi:Option Expr}{p2:Pos}{t:TEd}{l h:TOd}
theorem z2w {i:Nat}{x:Str}{p:Pos}(ho:PE X (.Name x p) (tVar i)) (hl:DO X lo l) (hh:DO X hi h):DE X (.Subscript (.Name x p) (.Slice lo hi none p2) pos) (dSlLV i l h):=by
 obtain ⟨t2,p2,s2⟩:=hl;obtain ⟨t3,p3,s3⟩:=hh
 refine ⟨_,pe_slice sl_lst ho p2 p3,fun io H0 F0 F δ σ H Q Qd I q k=>?_⟩
 obtain ⟨p0,q⟩:=q
 obtain ⟨d0,e0⟩:=Option.isSome_iff_exists.mp p0
 obtain ⟨v0,ev,_⟩:=I.pk e0
 refine ⟨v0,ev,s2 io H0 F0 F δ σ H _ _ I q fun lo δ2 F2 H2 f2 I2 q2=>s3 io H0 F0 F2 δ2 σ H2 _ _ I2 q2 fun hi δ3 F3 H3 f3 I3 q3=>?_⟩
 obtain ⟨xs,e3,q3⟩:=q3
 obtain ⟨v,ev',pk⟩:=I3.pk e3
 rw [ev] at ev';cases ev'
 obtain ⟨a,vs,rfl,h1,r⟩:=pk.lst I3
 exact ⟨a,rfl,vs,h1,fun p hp=>k true _ _ δ3 F3 _ (f2.trans f3) (I3.newL hp (r.cut lo hi)) q3⟩
theorem de_sliceS (he:DE X e t) (hl:DO X lo l) (hh:DO X hi h):DE X (.Subscript e (.Slice lo hi none p2) pos) (dSlS t l h):=by
 obtain ⟨t1,p1,s1⟩:=he;obtain ⟨t2,p2,s2⟩:=hl;obtain ⟨t3,p3,s3⟩:=hh
 refine ⟨_,pe_slice sl_str p1 p2 p3,fun io H0 F0 F δ σ H Q Qd I q k=>s1.fz I q fun d v δ1 F1 H1 f1 I1 r1 q1=>s2 io H0 F0 F1 δ1 σ H1 _ _ I1 q1 fun lo δ2 F2 H2 f2 I2 q2=>s3 io H0 F0 F2 δ2 σ H2 _ _ I2 q2 fun hi δ3 F3 H3 f3 I3 q3=>?_⟩
 obtain ⟨z,rfl,hz,q3⟩:=q3
 exact ⟨z,r1,hz,k false _ _ δ3 F3 _ ((f1.trans f2).trans f3) I3.pS q3⟩
def dJoin (ta tb:TEd):TEd:=fun δ Q=>ta δ fun _ x δ1=>∃ sep,x = .str sep∧tb δ1 fun _ y δ2=>∃ ts:List Str,y = .lst (ts.map .str)∧JoinOk sep ts=true∧Q false (.str (Txt.join sep ts)) δ2
theorem de_join {a b:Expr}{ta tb:TEd}{apos cpos:Pos}(ha:DE X a ta) (hb:DE X b tb)
  (hbase:attributeBase a "join" X.env (eval a X.env)=eval a X.env:=by rfl)
  (hfew:((backTo cpos (starEach [b] X.env)).all (fun x=>!x.1) && (backToKw cpos (keywordEach [] X.env)).all (fun x=>x.1.isSome)
   && decide ([b].length+([]:List Keyword).length+(if ([]:List Keyword).isEmpty then 0 else 1) < 30))=true:=by rfl)
  (hline:(apos.endLine == cpos.line)=true:=by rfl) (hst:starEach [b] X.env=(false,eval b X.env)::starEach [] X.env:=by rfl) (hplain:(backTo cpos (starEach [] X.env)).any (·.1)=false:=by rfl) :
  DE X (.Call (.Attribute a "join" apos) [b] [] cpos) (dJoin ta tb):=by
 obtain ⟨t1,p1,s1⟩:=ha;obtain ⟨t2,p2,s2⟩:=hb
 refine ⟨_,pe_bm PySem.F.plainAttrs_str PySem.F.slot_str_join PySem.F.type_str_join mt_join p1 (z0k p2 z1g hst) hbase hfew hline hst hplain,fun io H0 F0 F δ σ H Q Qd I q k=>s1.fz I q fun d v δ1 F1 H1 f1 I1 r1 q1=>?_⟩
 obtain ⟨sep,rfl,q1⟩:=q1
 cases (show v = .str sep from r1)
 refine ⟨rfl,s2.fz I1 q1 fun d v δ2 F2 H2 f2 I2 r2 q2=>?_⟩
 obtain ⟨ts,rfl,ok,q2⟩:=q2
 obtain ⟨a,vs,rfl,h1,r⟩:=r2
 rw [r.strs] at h1
 exact ⟨sep,a,rfl,rfl,ts,I2.sub _ _ h1,ok,k false _ _ δ2 F2 H2 (f1.trans f2) I2.pS q2⟩
end
def getS (kds:List (Key × D)) (k:Str):Option D:=(kds.find? fun kv=>decide (kv.1=Sum.inr k)).map (·.2)
def putS (kds:List (Key × D)) (k:Str) (d:D):List (Key × D):=if (kds.any fun kv=>decide (kv.1=Sum.inr k))=true then kds.map (fun kv=>if kv.1=Sum.inr k then (kv.1,d) else kv) else kds ++ [(Sum.inr k,d)]
theorem RepK.len {F:Hp}:∀ {ds:List (Key × D)}{vs:List (Key × V)},RepK F ds vs→ds.length=vs.length
 | [],vs,h=>by cases (show vs=[] from h);rfl
 |d::ds,vs,h=>by obtain ⟨v,r,rfl,h1,h2⟩:=h;simp [RepK.len h2]
theorem RepK.val {F:Hp}(k:Str):∀ {ds:List (Key × D)}{vs:List (Key × V)},RepK F ds vs→(∀ d,getS ds k=some d→∃ v,valV vs (Sum.inr k)=some v∧Rep F d v)∧(getS ds k=none→valV vs (Sum.inr k)=none)
 | [],vs,h=>by cases (show vs=[] from h);exact ⟨fun d e=>by simp [getS] at e,fun _=>rfl⟩
 |(k',d)::ds,vs,h=>by
  obtain ⟨⟨q1,q2⟩,r,rfl,⟨e1,r1⟩,h2⟩:=h
  have ih:=RepK.val k h2
  cases (show q1=k' from e1)
  by_cases hk:k' = Sum.inr k
  ·refine ⟨fun d' e=>⟨q2,by simp [valV,hk],?_⟩,fun e=>by simp [getS,hk] at e⟩
   simp [getS,hk] at e
   subst e
   exact r1
  ·refine ⟨fun d' e=>?_,fun e=>?_⟩
   ·obtain ⟨v,e2,r2⟩:=ih.1 d' (by simpa [getS,List.find?_cons,hk] using e)
    exact ⟨v,by simpa [valV,List.find?_cons,hk] using e2,r2⟩
   ·have:=ih.2 (by simpa [getS,List.find?_cons,hk] using e)
    simpa [valV,List.find?_cons,hk] using this
theorem RepK.any {F:Hp}(k:Key):∀ {ds:List (Key × D)}{vs:List (Key × V)},RepK F ds vs→(ds.any fun kv=>decide (kv.1=k))=(vs.any fun kv=>decide (kv.1=k))
 | [],vs,h=>by cases (show vs=[] from h);rfl
 |(k',d)::ds,vs,h=>by
  obtain ⟨⟨q1,q2⟩,r,rfl,⟨e1,r1⟩,h2⟩:=h
  cases (show q1=k' from e1)
  simp [RepK.any k h2]
theorem RepK.app {F:Hp}:∀ {ds es:List (Key × D)}{vs us:List (Key × V)},RepK F ds vs→RepK F es us→RepK F (ds ++ es) (vs ++ us)
 | [],es,vs,us,h,h'=>by cases (show vs=[] from h);exact h'
 |d::ds,es,vs,us,h,h'=>by obtain ⟨v,r,rfl,h1,h2⟩:=h;exact ⟨v,r ++ us,rfl,h1,RepK.app h2 h'⟩
theorem RepK.upd {F:Hp}(k:Key) {d:D}{v:V}(hv:Rep F d v):∀ {ds:List (Key × D)}{vs:List (Key × V)},RepK F ds vs→RepK F (ds.map fun kv=>if kv.1=k then (kv.1,d) else kv) (vs.map fun kv=>if kv.1=k then (kv.1,v) else kv)
 | [],vs,h=>by cases (show vs=[] from h);rfl
 |(k',d')::ds,vs,h=>by
  obtain ⟨⟨q1,q2⟩,r,rfl,⟨e1,r1⟩,h2⟩:=h
  cases (show q1=k' from e1)
  refine ⟨_,_,rfl,?_,RepK.upd k hv h2⟩
  by_cases hk:k' = k
  ·simp only [hk,if_true];exact (show RepP F (k,d) (k,v) from ⟨rfl,hv⟩)
  ·simp only [hk,if_false];exact (show RepP F (k',d') (k',q2) from ⟨rfl,r1⟩)
theorem RepK.put {F:Hp}{ds:List (Key × D)}{vs:List (Key × V)}(r:RepK F ds vs) (k:Str) {d:D}{v:V}(hv:Rep F d v):RepK F (putS ds k d) (putK vs (Sum.inr k) v):=by
 unfold putS putK
 rw [r.any]
 split
 ·exact r.upd _ hv
 ·exact r.app ⟨_,[],rfl,⟨rfl,hv⟩,rfl⟩
section
variable {X:Cx}{pos:Pos}
def dDict0:TEd:=fun δ Q=>Q true (.dct []) δ
theorem z7v:DE X (.Dict [] [] pos) dDict0:=⟨_,pe_dnewK,fun io H0 F0 F δ σ H Q Qd I q k p hp=>k true (.dct []) _ δ F _ (Same.refl _) (I.newD (ds:=[]) (vs:=[]) hp rfl) q⟩
def dDGetV (i:Nat) (ti:TEd):TEd:=fun δ Q=>(peek δ i).isSome=true∧ti δ fun _ y δ'=>∃ kds k d,peek δ' i=some (.dct kds)∧y = .str k∧getS kds k=some d∧Q false d δ'
theorem z9n {i:Nat}{x:Str}{p:Pos}{ie:Expr}{ti:TEd}(hu:X.A.units+100 < cLine) (ho:PE X (.Name x p) (tVar i)) (hi:DE X ie ti) (hs:NoSl ie:=by intro _ _;rfl):DE X (.Subscript (.Name x p) ie pos) (dDGetV i ti):=by
 obtain ⟨t,pi,si⟩:=hi
 refine ⟨_,pe_dget (by omega) ho pi hs,fun io H0 F0 F δ σ H Q Qd I q k=>?_⟩
 obtain ⟨p0,q⟩:=q
 obtain ⟨d0,e0⟩:=Option.isSome_iff_exists.mp p0
 obtain ⟨v0,ev,_⟩:=I.pk e0
 refine ⟨v0,ev,si.fz I q fun d v δ1 F1 H1 f1 I1 r1 q1=>?_⟩
 obtain ⟨kds,key,dd,e1,rfl,eg,q1⟩:=q1
 obtain ⟨v,ev',pk⟩:=I1.pk e1
 rw [ev] at ev';cases ev'
 obtain ⟨a,kvs,rfl,h1,rk⟩:=pk.dct I1
 cases (show _=V.str key from r1)
 obtain ⟨w,ew,rw'⟩:=(rk.val key).1 dd eg
 exact ⟨a,w,rfl,DGet.s h1 ew,k false _ _ δ1 F1 H1 f1 (I1.pushF rw') q1⟩
def dDInV (neg:Bool) (ti:TEd) (i:Nat):TEd:=fun δ Q=>ti δ fun _ y δ'=>∃ kds k,peek δ' i=some (.dct kds)∧y = .str k∧Q false (.bl (if neg then !(getS kds k).isSome else (getS kds k).isSome)) δ'
theorem sim_din {ti:TE}{td:TEd}{i:Nat}(si:Sim ti td):Sim (tDIn ti (tVar i)) (dDInV false td i)∧Sim (tDNotIn ti (tVar i)) (dDInV true td i):=by
 refine ⟨fun io H0 F0 F δ σ H Q Qd I q k=>si.fz I q fun d v δ1 F1 H1 f1 I1 r1 q1=>?_,fun io H0 F0 F δ σ H Q Qd I q k=>si.fz I q fun d v δ1 F1 H1 f1 I1 r1 q1=>?_⟩ <;>
 ·obtain ⟨kds,key,e1,rfl,q1⟩:=q1
  obtain ⟨w,ew,pk⟩:=I1.pk e1
  obtain ⟨a,kvs,rfl,h1,rk⟩:=pk.dct I1
  cases (show v=V.str key from r1)
  have e:(valV kvs (Sum.inr key)).isSome=(getS kds key).isSome:=by
   cases eg:getS kds key with
   |none=>rw [(rk.val key).2 eg];rfl
   |some d=>obtain ⟨w,ew,_⟩:=(rk.val key).1 d eg;rw [ew];rfl
  refine ⟨_,ew,a,_,rfl,DGet.o h1,k false _ _ δ1 F1 H1 f1 (I1.pushF ?_) q1⟩
  rw [e];rfl
theorem de_dinV {i:Nat}{x:Str}{p:Pos}{e:Expr}{ti:TEd}(hu:X.A.units+100 < cLine) (hi:DE X e ti) (ho:PE X (.Name x p) (tVar i)) (hm:behindInMarks .In (.Name x p)=false:=by rfl):DE X (.Compare e [.In] [.Name x p] pos) (dDInV false ti i):=by
 obtain ⟨t,pi,si⟩:=hi;exact ⟨_,pe_cmp (pc_din (by omega) pi ho) hm,(sim_din si).1⟩
theorem dt_dinV {i:Nat}{x:Str}{p:Pos}{e:Expr}{ti:TEd}(hu:X.A.units+100 < cLine) (hi:DE X e ti) (ho:PE X (.Name x p) (tVar i)) (hm:behindInMarks .In (.Name x p)=false:=by rfl):DT X (.Compare e [.In] [.Name x p] pos) (z6x (dDInV false ti i)):=by
 obtain ⟨t,pi,si⟩:=hi;exact ⟨_,pt_cmp (pc_din (by omega) pi ho) hm,z8b (sim_din si).1⟩
theorem z8i {i:Nat}{x:Str}{p:Pos}{e:Expr}{ti:TEd}(hu:X.A.units+100 < cLine) (hi:DE X e ti) (ho:PE X (.Name x p) (tVar i)) (hm:behindInMarks .NotIn (.Name x p)=false:=by rfl):DT X (.Compare e [.NotIn] [.Name x p] pos) (z6x (dDInV true ti i)):=by
 obtain ⟨t,pi,si⟩:=hi;exact ⟨_,pt_cmp (pc_dnotin (by omega) pi ho) hm,z8b (sim_din si).2⟩
def dDPut (i:Nat) (ti tv:TEd):TSd:=fun E δ=>tv δ fun _ v δ1=>(peek δ1 i).isSome=true∧ti δ1 fun _ y δ2=>∃ fl kds k,δ2[i]? = some (.ob fl (.dct kds))∧y = .str k∧kds.length < sizeLine∧E.nx (δ2.set i (.ob fl (.dct (putS kds k v))))
theorem y1k {i:Nat}{x:Str}{p pos':Pos}{ie ve:Expr}{ti tv:TEd}(hu:X.A.units+100 < cLine) (ho:PE X (.Name x p) (tVar i)) (hi:DE X ie ti) (hv:DE X ve tv) (hs:swapsWith ve (some (.Subscript (.Name x p) ie pos')) pos.line X.env=pure false:=by rfl):DS X (.Assign [.Subscript (.Name x p) ie pos'] ve pos) (dDPut i ti tv):=by
 obtain ⟨t,pi,si⟩:=hi;obtain ⟨t',pv,sv⟩:=hv
 refine ⟨_,ps_dput (by omega) ho pi pv hs,fun io H0 F0 F δ σ H E Ed I q S=>sv.fz I q fun d v δ1 F1 H1 s1 I1 r1 q1=>?_⟩
 obtain ⟨p0,q1⟩:=q1
 obtain ⟨d0,e0⟩:=Option.isSome_iff_exists.mp p0
 obtain ⟨v0,ev,_⟩:=I1.pk e0
 refine ⟨v0,ev,si.fz I1 q1 fun y u δ2 F2 H2 s2 I2 r2 q2=>?_⟩
 obtain ⟨fl,kds,key,ec,rfl,hl,q2⟩:=q2
 obtain ⟨a',ea,n1,n2,⟨kvs,hc,rc⟩,hio⟩:=I2.get i _ ec
 have e:=z2b ea
 rw [ev] at e;cases e
 cases (show u=V.str key from r2)
 exact ⟨a',_,rfl,DPut.s hc (by rw [← rc.len];exact hl),S.nx F2 _ σ _ (s1.trans s2) (I2.change (c':=.dct (putS kds key d)) ec ea ⟨_,z0l,rc.put key (Rep.mono s2 _ _ r1)⟩) q2⟩
def fDictOf:List D→(Bool→D→Prop)→Prop:=fun ds Q=>∃ ps:List (Str × D),ds=[.lst (ps.map fun p=>.tup [.str p.1,p.2])]∧Q true (.dct (ps.foldl (fun acc p=>putS acc p.1 p.2) []))
theorem pairs_of {F:Hp}:∀ {ps:List (Str × D)}{ys:List V},Reps F (ps.map fun p=>D.tup [.str p.1,p.2]) ys→∃ qs:List (Key × V),qs.length=ys.length∧(∀ (i:Nat) y kv,ys[i]? = some y→qs[i]? = some kv→∃ b,y = .ref b∧F b=some (.tup [kV kv.1,kv.2])) ∧
  ∀ (kds:List (Key × D)) (kvs:List (Key × V)),RepK F kds kvs→RepK F (ps.foldl (fun acc p=>putS acc p.1 p.2) kds) (y1u kvs qs)
 | [],ys,h=>by cases (show ys=[] from h);exact ⟨[],rfl,fun i y kv e=>by simp at e,fun _ _ r=>r⟩
 |(k,d)::ps,ys,h=>by
  obtain ⟨y,r,rfl,⟨b,vs,rfl,hb,rv⟩,h2⟩:=h
  obtain ⟨v1,r1,rfl,e1,v2,r2,rfl,e2,e3⟩:=rv
  cases (show v1=V.str k from e1)
  cases (show r2=[] from e3)
  obtain ⟨qs,l,hq,hm⟩:=pairs_of h2
  refine ⟨(Sum.inr k,v2)::qs,by simp [l],fun i y kv g1 g2=>?_,fun kds kvs r=>hm _ _ (r.put k e2)⟩
  cases i with
  |zero=>simp at g1 g2;subst g1 g2;exact ⟨b,rfl,hb⟩
  |succ i=>exact hq i y kv (by simpa using g1) (by simpa using g2)
theorem cs_dict:z7a (fun xs H Q=>∃ p ys,xs=[.ref p]∧H p=some (.lst ys)∧∃ ps:List (Key × V),ps.length=ys.length∧(∀ (i:Nat) y kv,ys[i]? = some y→ps[i]? = some kv→∃ b,y = .ref b∧H b=some (.tup [kV kv.1,kv.2])) ∧
  ∀ l,H l=none→Q (.ref l) (upd H l (.dK (y1u [] ps)))) fDictOf:=by
 intro io H0 F0 F δ σ H xs vs Q Qd I px q k
 obtain ⟨ps,rfl,q⟩:=q
 obtain ⟨v,rfl,pk⟩:=pks1 px
 obtain ⟨a,us,rfl,h1,r⟩:=pk.lst I
 obtain ⟨qs,l,hq,hm⟩:=pairs_of r
 refine ⟨a,us,rfl,h1,qs,l,fun i y kv e1 e2=>?_,fun p hp=>k true _ _ F _ (Same.refl _) (I.newD hp (hm [] [] rfl)) q⟩
 obtain ⟨b,e,hb⟩:=hq i y kv e1 e2
 exact ⟨b,e,I.sub _ _ hb⟩
end
end VL
namespace VL
open PySem L2
def dSlC (K:PySem.W.Frag) (i:Nat) (l h:TOd):TEd:=fun δ Q=>∃ ns,δ[i]? = some (.sc K ns)∧l δ fun lo δ2=>h δ2 fun hi δ3=>Q true (.lst (cutD (ns.map .int) lo hi)) δ3
theorem cut_ints (ns:List Int) (lo hi:Option Int):∃ ms:List Int,cutD (ns.map .int) lo hi=ms.map .int∧cutV (ns.map .int) lo hi=ms.map .int:=by
 refine ⟨(ns.drop (HT.sIx ns.length 0 lo)).take (HT.sIx ns.length ns.length hi - HT.sIx ns.length 0 lo),?_,?_⟩
 ·unfold cutD;simp [List.map_take,List.map_drop]
 ·unfold cutV;simp [List.map_take,List.map_drop]
theorem reps_ints {F:Hp}:∀ ms:List Int,Reps F (ms.map .int) (ms.map .int)
 | []=>rfl
 |m::ms=>⟨_,_,rfl,rfl,reps_ints ms⟩
section
variable {X:Cx}{pos p2:Pos}{lo hi:Option Expr}{l h:TOd}
theorem de_sliceC {K:PySem.W.Frag}(hK:X.K=K) {i:Nat}{x:Str}{p:Pos}(ho:PE X (.Name x p) (tVar i)) (hl:DO X lo l) (hh:DO X hi h):DE X (.Subscript (.Name x p) (.Slice lo hi none p2) pos) (dSlC K i l h):=by
 subst hK
 obtain ⟨t2,p2,s2⟩:=hl;obtain ⟨t3,p3,s3⟩:=hh
 refine ⟨_,pe_slice sl_list ho p2 p3,fun io H0 F0 F δ σ H Q Qd I q k=>?_⟩
 obtain ⟨ns,e,q⟩:=q
 obtain ⟨a,ea,sq⟩:=I.get i _ e
 refine ⟨.ref a,z2b ea,s2 io H0 F0 F δ σ H _ _ I q fun lo δ2 F2 H2 f2 I2 q2=>s3 io H0 F0 F2 δ2 σ H2 _ _ I2 q2 fun hi δ3 F3 H3 f3 I3 q3=>?_⟩
 refine ⟨a,_,rfl,I3.sub.seq ((f2.trans f3).seq sq),fun p hp=>?_⟩
 obtain ⟨ms,e1,e2⟩:=cut_ints ns lo hi
 rw [e1] at q3
 rw [e2]
 exact k true _ _ δ3 F3 _ (f2.trans f3) (I3.newL hp (reps_ints ms)) q3
end
def LoopD (ds:List D) (g:TGd) (tb:TSd) (E:EndsD) (δ:List Slot):Prop:=∃ (fg:List Nat) (P:List D→List Slot→Prop),P ds (fgt fg δ) ∧
 (∀ d r δ,P (d::r) δ→g d δ fun δ2=>tb { E with nx:=fun δ'=>P r (fgt fg δ'),ct:=fun δ'=>P r (fgt fg δ'),bk:=E.nx } δ2)∧∀ δ,P [] δ→E.nx δ
theorem dFor_eq {di:TLd}{g:TGd}{tb:TSd}{E:EndsD}{δ:List Slot}:dFor di g tb E δ=di δ fun ds δ'=>LoopD ds g tb E δ':=rfl
theorem z4v {ds:List D}{g:TGd}{tb:TSd}{E:EndsD}{δ:List Slot}(fg:List Nat) (P:List D→List Slot→Prop) (h0:P ds (fgt fg δ)) (hs:∀ d r δ,P (d::r) δ→g d δ fun δ2=>tb { E with nx:=fun δ'=>P r (fgt fg δ'),ct:=fun δ'=>P r (fgt fg δ'),bk:=E.nx } δ2) (hd:∀ δ,P [] δ→E.nx δ):LoopD ds g tb E δ:=⟨fg,P,h0,hs,hd⟩
theorem rngD_drop (lo:Int) (n i:Nat) (h:i < n):(rngD lo n).drop i = .int (lo+i)::(rngD lo n).drop (i+1):=by
 have hl:i < (rngD lo n).length:=by simpa [rngD] using h
 rw [List.drop_eq_getElem_cons hl]
 simp [rngD]
theorem loopN {lo:Int}{n:Nat}{g:TGd}{tb:TSd}{E:EndsD}{δ:List Slot}(fg:List Nat) (P:Nat→List Slot→Prop) (h0:P 0 (fgt fg δ)) (hs:∀ i δ,i < n→P i δ→g (.int (lo+i)) δ fun δ2=>tb { E with nx:=fun δ'=>P (i+1) (fgt fg δ'),ct:=fun δ'=>P (i+1) (fgt fg δ'),bk:=E.nx } δ2) (hd:∀ δ,P n δ→E.nx δ):LoopD (rngD lo n) g tb E δ:=by
 have len:∀ i,i≤n→((rngD lo n).drop i).length=n - i:=fun i _=>by simp [rngD]
 have key:∀ i,i≤n→(fun δ=>(rngD lo n).drop i=(rngD lo n).drop (n - ((rngD lo n).drop i).length)∧P (n - ((rngD lo n).drop i).length) δ)=P i:=by
  intro i hi
  funext δ
  rw [len i hi,show n - (n - i)=i by omega]
  simp
 refine ⟨fg,fun r δ=>r=(rngD lo n).drop (n - r.length)∧P (n - r.length) δ,?_,?_,?_⟩
 ·have:=congrFun (key 0 (Nat.zero_le _)) (fgt fg δ)
  simp only [List.drop_zero] at this
  exact this.mpr h0
 ·rintro d r δ ⟨e,p⟩
  have hlt:n - (d::r).length < n:=by
   have hle:(d::r).length≤n:=by
    rw [e];simp [rngD]
   simp at hle ⊢;omega
  generalize hi:n - (d::r).length=i at e p hlt
  rw [rngD_drop lo n i hlt] at e
  cases e
  have q:=hs i δ hlt p
  rw [← key (i+1) hlt] at q
  exact q
 ·rintro δ ⟨_,p⟩
  exact hd δ (by simpa using p)
def CompD (n:Nat) (ds:List D) (gd:TGd) (tc:TTd) (te:TEd) (Q:Bool→D→List Slot→Prop) (δ:List Slot):Prop:=∃ P:List D→List D→List Slot→Prop,P ds [] δ ∧
 (∀ d r acc δ1,P (d::r) acc δ1→gd d (List.replicate n .no ++ δ1) fun δ2=>tc δ2 fun b δ3=>if b=true then te δ3 fun _ y δ4=>acc.length < sizeLine∧P r (acc ++ [y]) (δ4.drop n) else P r acc (δ3.drop n)) ∧
 ∀ acc δ1,P [] acc δ1→Q true (.lst acc) δ1
theorem dComp_eq {n:Nat}{di:TLd}{gd:TGd}{tc:TTd}{te:TEd}{δ:List Slot}{Q:Bool→D→List Slot→Prop}:dComp n di gd tc te δ Q=di δ fun ds δ'=>CompD n ds gd tc te Q δ':=rfl
inductive All2 {α β:Type}(G:α→β→Prop):List α→List β→Prop
 |nil:All2 G [] []
 |cons {a b as bs}:G a b→All2 G as bs→All2 G (a::as) (b::bs)
theorem All2.snoc {α β:Type}{G:α→β→Prop}{as:List α}{bs:List β}{a:α}{b:β}(h:All2 G as bs) (h':G a b):All2 G (as ++ [a]) (bs ++ [b]):=by
 induction h with
 |nil=>exact .cons h' .nil
 |cons g _ ih=>exact .cons g ih
theorem All2.len {α β:Type}{G:α→β→Prop}{as:List α}{bs:List β}(h:All2 G as bs):as.length=bs.length:=by
 induction h with
 |nil=>rfl
 |cons _ _ ih=>simp [ih]
theorem All2.map_eq {α β:Type}{G:α→β→Prop}{f:α→β}{as:List α}{bs:List β}(h:All2 G as bs) (e:∀ a b,a∈as→G a b→b=f a):bs=as.map f:=by
 induction h with
 |nil=>rfl
 |cons g _ ih=>simp [e _ _ List.mem_cons_self g,ih fun a b ha=>e a b (List.mem_cons_of_mem _ ha)]
theorem comp1 {ds:List D}{te:TEd}{Q:Bool→D→List Slot→Prop}{δ:List Slot}(G:D→D→Prop) (hl:ds.length≤sizeLine)
  (h:∀ d∈ds,∀ P:D→List Slot→Prop,(∀ y,G d y→P y (.fz d::δ))→te (.fz d::δ) fun _ y δ'=>P y δ') (q:∀ ys,All2 G ds ys→Q true (.lst ys) δ):CompD 1 ds (dgN 0) dYes te Q δ:=by
 refine ⟨fun r acc δ1=>δ1=δ∧∃ pre,ds=pre ++ r∧All2 G pre acc,⟨rfl,[],rfl,.nil⟩,?_,?_⟩
 ·rintro d r acc δ1 ⟨rfl,pre,e,hp⟩
  refine ⟨trivial,?_⟩
  unfold dYes
  dsimp only
  rw [if_pos rfl]
  have hl2:=hp.len
  have hlen:pre.length < sizeLine:=by rw [e] at hl;simp at hl;omega
  refine h d (by rw [e];simp) (fun y δ4=>acc.length < sizeLine∧List.drop 1 δ4=δ1∧∃ pre,ds=pre ++ r∧All2 G pre (acc ++ [y])) fun y hy=>?_
  exact ⟨by omega,rfl,pre ++ [d],by rw [e];simp,hp.snoc hy⟩
 ·rintro acc δ1 ⟨rfl,pre,e,hp⟩
  simp at e
  subst e
  exact q acc hp
theorem comp1f {ds:List D}{tc:TTd}{te:TEd}{Q:Bool→D→List Slot→Prop}{δ:List Slot}(c:D→Bool) (f:D→D) (hl:ds.length≤sizeLine)
  (hc:∀ d∈ds,∀ P:Bool→List Slot→Prop,P (c d) (.fz d::δ)→tc (.fz d::δ) P)
  (h:∀ d∈ds,c d=true→∀ P:D→List Slot→Prop,P (f d) (.fz d::δ)→te (.fz d::δ) fun _ y δ'=>P y δ') (q:Q true (.lst ((ds.filter c).map f)) δ):CompD 1 ds (dgN 0) tc te Q δ:=by
 refine ⟨fun r acc δ1=>δ1=δ∧∃ pre,ds=pre ++ r∧acc=(pre.filter c).map f,⟨rfl,[],rfl,rfl⟩,?_,?_⟩
 ·rintro d r acc δ1 ⟨rfl,pre,e,rfl⟩
  refine ⟨trivial,?_⟩
  have hd:d∈ds:=by rw [e];simp
  have hlen:pre.length < sizeLine:=by rw [e] at hl;simp at hl;omega
  refine hc d hd _ ?_
  cases hcd:c d with
  |false =>
   rw [if_neg Bool.false_ne_true]
   exact ⟨rfl,pre ++ [d],by rw [e];simp,by simp [List.filter_append,hcd]⟩
  |true =>
   rw [if_pos rfl]
   refine h d hd hcd _ ⟨?_,rfl,pre ++ [d],by rw [e];simp,by simp [List.filter_append,hcd]⟩
   have:=List.length_filter_le c pre
   simp;omega
 ·rintro acc δ1 ⟨rfl,pre,e,rfl⟩
  simp at e
  subst e
  exact q
theorem comp1m {ds:List D}{te:TEd}{Q:Bool→D→List Slot→Prop}{δ:List Slot}(f:D→D) (hl:ds.length≤sizeLine)
  (h:∀ d∈ds,∀ P:D→List Slot→Prop,P (f d) (.fz d::δ)→te (.fz d::δ) fun _ y δ'=>P y δ') (q:Q true (.lst (ds.map f)) δ):CompD 1 ds (dgN 0) dYes te Q δ:=by
 refine comp1 (fun d y=>y=f d) hl (fun d hd P hP=>h d hd P (hP _ rfl)) fun ys hys=>?_
 rw [hys.map_eq (f:=f) fun a b _ e=>e]
 exact q
theorem noIo_no {r:List Slot}:noIo (.no::r) 0=True:=rfl
theorem noIo_fz {d:D}{r:List Slot}:noIo (.fz d::r) 0=True:=rfl
theorem noIo_ob {d:D}{r:List Slot}:noIo (.ob false d::r) 0=True:=rfl
theorem noIo_s {s:Slot}{r:List Slot}{i:Nat}:noIo (s::r) (i+1)=noIo r i:=rfl
theorem keepIo_t {c:D}:y2d (.ob true c) = .ob true c:=rfl
theorem keepIo_f {c:D}:y2d (.ob false c) = .no:=rfl
theorem keepIo_fz {c:D}:y2d (.fz c) = .no:=rfl
theorem keepIo_no:y2d .no = .no:=rfl
theorem keepIo_sc {K:PySem.W.Frag}{c:List Int}:y2d (.sc K c) = .no:=rfl
theorem z4k {A:Around}{k:Nat}(hr:Room k A):A.units+100 < cLine:=by have:=hr.un;omega
theorem atI_ex {α:Type}{xs:List α}{i:Int}(h0:0≤i) (h1:i < xs.length):∃ d∈xs,atI xs i=some d:=by
 obtain ⟨j,rfl⟩:=Int.eq_ofNat_of_zero_le h0
 have hj:j < xs.length:=by omega
 exact ⟨xs[j],List.getElem_mem hj,z3x (List.getElem?_eq_getElem hj)⟩
theorem z2y {a b:Int}(h:0 < b):0≤a % b:=Int.emod_nonneg _ (by omega)
theorem z3c {a b:Int}(h:0 < b):a % b < b:=Int.emod_lt_of_pos _ h
section
variable {X:Cx}
end
theorem z5o (xs:List D) (k:Nat):cutD xs none (some (k:Int))=xs.take k:=by
 unfold cutD
 rw [HT.sIx_none,HT.sIx_nat,List.drop_zero,Nat.sub_zero]
 by_cases h:k≤xs.length
 ·rw [Nat.min_eq_left h]
 ·rw [Nat.min_eq_right (by omega),List.take_of_length_le (Nat.le_refl _),List.take_of_length_le (by omega)]
theorem z7q (xs:List D) (k:Nat):cutD xs (some (k:Int)) none=xs.drop k:=by
 unfold cutD
 rw [HT.sIx_none,HT.sIx_nat]
 by_cases h:k≤xs.length
 ·rw [Nat.min_eq_left h,List.take_of_length_le (by rw [List.length_drop];exact Nat.le_refl _)]
 ·rw [Nat.min_eq_right (by omega),List.drop_of_length_le (Nat.le_refl _),List.drop_of_length_le (by omega)]
  simp
end VL
namespace VL
open PySem L2
def getK (i:Nat) (δ:List Slot) (k:Slot→Prop):Prop:=match δ[i]? with|some s=>k s|none=>False
theorem getK_0 {s:Slot}{r:List Slot}{k:Slot→Prop}:getK 0 (s::r) k=k s:=rfl
theorem getK_s {i:Nat}{s:Slot}{r:List Slot}{k:Slot→Prop}:getK (i+1) (s::r) k=getK i r k:=rfl
def setK (i:Nat) (s:Slot) (δ:List Slot) (k:List Slot→Prop):Prop:=k (δ.set i s)
theorem setK_0 {s x:Slot}{r:List Slot}{k:List Slot→Prop}:setK 0 s (x::r) k=k (s::r):=rfl
theorem setK_s {i:Nat}{s x:Slot}{r:List Slot}{k:List Slot→Prop}:setK (i+1) s (x::r) k=setK i s r fun r'=>k (x::r'):=rfl
def setW (i:Nat) (s:Slot) (δ:List Slot) (k:List Slot→Prop):Prop:=noIo δ i∧k (δ.set i s)
theorem setW_no {s:Slot}{r:List Slot}{k:List Slot→Prop}:setW 0 s (.no::r) k=k (s::r):=by simp [setW,noIo_no]
theorem setW_fz {s:Slot}{d:D}{r:List Slot}{k:List Slot→Prop}:setW 0 s (.fz d::r) k=k (s::r):=by simp [setW,noIo_fz]
theorem setW_ob {s:Slot}{d:D}{r:List Slot}{k:List Slot→Prop}:setW 0 s (.ob false d::r) k=k (s::r):=by simp [setW,noIo_ob]
theorem setW_s {i:Nat}{s x:Slot}{r:List Slot}{k:List Slot→Prop}:setW (i+1) s (x::r) k=setW i s r fun r'=>k (x::r'):=by simp [setW,noIo_s]
def varS (s:Slot) (a b:D→Prop):Prop:=match s with | .fz d=>a d | .ob false c=>b c|_=>False
theorem varS_fz {d:D}{a b:D→Prop}:varS (.fz d) a b=a d:=rfl
theorem varS_ob {d:D}{a b:D→Prop}:varS (.ob false d) a b=b d:=rfl
def pkS (s:Slot) (k:D→Prop):Prop:=match s with | .fz d=>k d | .ob _ c=>k c|_=>False
theorem pkS_fz {d:D}{k:D→Prop}:pkS (.fz d) k=k d:=rfl
theorem pkS_ob {b:Bool}{d:D}{k:D→Prop}:pkS (.ob b d) k=k d:=rfl
def obK (s:Slot) (k:Bool→D→Prop):Prop:=match s with | .ob b c=>k b c|_=>False
theorem obK_ob {b:Bool}{d:D}{k:Bool→D→Prop}:obK (.ob b d) k=k b d:=rfl
def scK (K:PySem.W.Frag) (s:Slot) (k:List Int→Prop):Prop:=∃ ns,s = .sc K ns∧k ns
theorem scK_sc {K:PySem.W.Frag}{ns:List Int}{k:List Int→Prop}:scK K (.sc K ns) k=k ns:=by simp [scK]
def ioK:List Slot→(D→Prop)→Prop
 |.ob true c::_,k=>k c
 |_::r,k=>ioK r k
 | [],_=>False
theorem ioK_t {c:D}{r:List Slot}{k:D→Prop}:ioK (.ob true c::r) k=k c:=rfl
theorem ioK_no {r:List Slot}{k:D→Prop}:ioK (.no::r) k=ioK r k:=rfl
theorem ioK_eq:∀ {δ:List Slot}{k:D→Prop},(∃ c,y1y δ=some c∧k c)=ioK δ k
 | [],k=>by simp [y1y,ioK]
 |.no::r,k=>by simpa [y1y,ioK] using ioK_eq (δ:=r) (k:=k)
 |.fz _::r,k=>by simpa [y1y,ioK] using ioK_eq (δ:=r) (k:=k)
 |.sc _ _::r,k=>by simpa [y1y,ioK] using ioK_eq (δ:=r) (k:=k)
 |.ob false _::r,k=>by simpa [y1y,ioK] using ioK_eq (δ:=r) (k:=k)
 |.ob true c::r,k=>by simp [y1y,ioK]
def intK (d:D) (k:Int→Prop):Prop:=match d with | .int x=>k x|_=>False
theorem intK_e {x:Int}{k:Int→Prop}:intK (.int x) k=k x:=rfl
theorem intK_eq {d:D}{k:Int→Prop}:(∃ x,d = .int x∧k x)=intK d k:=by cases d <;> simp [intK]
def strK (d:D) (k:Str→Prop):Prop:=match d with | .str x=>k x|_=>False
theorem strK_e {x:Str}{k:Str→Prop}:strK (.str x) k=k x:=rfl
theorem z6p {d:D}{k:Str→Prop}:(∃ x,d = .str x∧k x)=strK d k:=by cases d <;> simp [strK]
def blK (d:D) (k:Bool→Prop):Prop:=match d with | .bl x=>k x|_=>False
theorem blK_e {x:Bool}{k:Bool→Prop}:blK (.bl x) k=k x:=rfl
theorem blK_eq {d:D}{k:Bool→Prop}:(∃ x,d = .bl x∧k x)=blK d k:=by cases d <;> simp [blK]
def lstK (d:D) (k:List D→Prop):Prop:=match d with | .lst x=>k x|_=>False
theorem lstK_e {x:List D}{k:List D→Prop}:lstK (.lst x) k=k x:=rfl
theorem y1n {d:D}{k:List D→Prop}:(∃ x,d = .lst x∧k x)=lstK d k:=by cases d <;> simp [lstK]
def dctK (d:D) (k:List (Key × D)→Prop):Prop:=match d with | .dct x=>k x|_=>False
theorem dctK_e {x:List (Key × D)}{k:List (Key × D)→Prop}:dctK (.dct x) k=k x:=rfl
theorem y0i {d:D}{k:List (Key × D)→Prop}:(∃ x,d = .dct x∧k x)=dctK d k:=by cases d <;> simp [dctK]
theorem z5d {δ:List Slot}{i:Nat}{k:D→Prop}:(∃ d,peek δ i=some d∧k d)=getK i δ fun s=>pkS s k:=by
 unfold peek getK
 cases δ[i]? with
 |none=>simp
 |some s=>cases s <;> simp [pkS]
theorem z6f {δ:List Slot}{i:Nat}{P:Prop}:((peek δ i).isSome=true∧P)=getK i δ fun s=>pkS s fun _=>P:=by
 unfold peek getK
 cases δ[i]? with
 |none=>simp
 |some s=>cases s <;> simp [pkS]
theorem obK_eq {δ:List Slot}{i:Nat}{k:Bool→D→Prop}:(∃ fl c,δ[i]? = some (.ob fl c)∧k fl c)=getK i δ fun s=>obK s k:=by
 unfold getK
 cases δ[i]? with
 |none=>simp
 |some s =>
  apply propext
  constructor
  ·rintro ⟨fl,c,e,h⟩;cases e;exact h
  ·intro h
   cases s with
   |ob b c=>exact ⟨b,c,rfl,h⟩
   |_=>exact h.elim
section
variable {δ:List Slot}{E:EndsD}{Q:Bool→D→List Slot→Prop}{QT:Bool→List Slot→Prop}{QL:List D→List Slot→Prop}{QS:List Slot→Prop}{Q2:Bool→D→Prop}{QM:D→D→Prop}{QA:List (Option D)→List Slot→Prop}{QO:Option Int→List Slot→Prop}{t u:TSd}{ta tb td te tv ti:TEd}{tt tu tc:TTd}{ul:TLd}{ua:TAd}{l h:TOd}{g gd:TGd}{gs:TGsd}{i j n:Nat}{d:D}
theorem v_seq:dSeq t u E δ=t { E with nx:=u E } δ:=rfl
theorem v_next:dNext E δ=E.nx δ:=rfl
theorem v_ret:dRet td E δ=td δ E.rt:=rfl
theorem v_brk:dBrk E δ=E.bk δ:=rfl
theorem v_never:dNever E δ=False:=rfl
theorem v_drop:dDrop td E δ=td δ fun _ _ δ'=>E.nx δ':=rfl
theorem v_if:dIfS tt t u E δ=tt δ fun b δ'=>if b=true then t E δ' else u E δ':=rfl
theorem v_set:dSet i td E δ=td δ fun b d δ'=>setW i (rsl b d) δ' E.nx:=rfl
theorem v_c:dC d δ Q=Q false d δ:=rfl
theorem v_var:dVar i δ Q=getK i δ fun s=>varS s (fun d=>Q false d δ) fun c=>setK i (.fz c) δ fun δ'=>Q false c δ':=by
 unfold dVar getK
 cases δ[i]? with
 |none=>rfl
 |some s=>cases s with
  |ob b c=>cases b <;> rfl
  |_=>rfl
theorem v_mv:dMv i δ Q=getK i δ fun s=>varS s (fun d=>Q false d δ) fun c=>setK i .no δ fun δ'=>Q true c δ':=by
 unfold dMv getK
 cases δ[i]? with
 |none=>rfl
 |some s=>cases s with
  |ob b c=>cases b <;> rfl
  |_=>rfl
variable {f:D→D→(Bool→D→Prop)→Prop}
theorem v_op:dOp f ta tb δ Q=ta δ fun _ x δ1=>tb δ1 fun _ y δ2=>f x y fun b d=>Q b d δ2:=rfl
theorem v_opV:dOpV f i tb δ Q=getK i δ fun s=>pkS s fun _=>tb δ fun _ y δ2=>getK i δ2 fun s=>pkS s fun x=>f x y fun b d=>Q b d δ2:=by
 unfold dOpV;rw [z6f];simp only [z5d]
theorem v_opW:dOpW f ta j δ Q=ta δ fun _ x δ1=>getK j δ1 fun s=>pkS s fun y=>f x y fun b d=>Q b d δ1:=by
 unfold dOpW;simp only [z5d]
theorem v_test:z6x td δ QT=td δ fun _ d δ'=>blK d fun c=>QT c δ':=by unfold z6x;simp only [blK_eq]
theorem v_not:dNot tt δ QT=tt δ fun c δ'=>QT (!c) δ':=rfl
theorem v_and:dAnd tt tu δ QT=tt δ fun c δ'=>if c=true then tu δ' QT else QT false δ':=rfl
theorem v_or:dOr tt tu δ QT=tt δ fun c δ'=>if c=true then QT true δ' else tu δ' QT:=rfl
def truK (d:D) (k:Bool→Prop):Prop:=∃ c,truD d=some c∧k c
theorem truK_lst {xs:List D}{k:Bool→Prop}:truK (.lst xs) k=k (!xs.isEmpty):=propext ⟨fun ⟨c,e,h⟩=>by cases e;exact h,fun h=>⟨_,rfl,h⟩⟩
theorem v_truV:dTruV i δ QT=getK i δ fun s=>pkS s fun d=>truK d fun c=>QT c δ:=by
 unfold dTruV
 rw [← z5d]
 simp only [truK,exists_and_left,and_assoc]
theorem v_andV:dAndV ta tb δ Q=ta δ fun _ x δ'=>blK x fun c=>if c=true then tb δ' Q else Q false (.bl false) δ':=by unfold dAndV;simp only [blK_eq]
theorem v_notV:dNotV ta δ Q=ta δ fun _ x δ'=>blK x fun c=>Q false (.bl (!c)) δ':=by unfold dNotV;simp only [blK_eq]
theorem v_ifE:dIf tt ta tb δ Q=tt δ fun c δ'=>if c=true then ta δ' Q else tb δ' Q:=rfl
theorem v_neg:dNeg ta δ Q=ta δ fun _ x δ'=>intK x fun i=>Q false (.int (-i)) δ':=by unfold dNeg;simp only [intK_eq]
theorem v_nil:dNil δ QL=QL [] δ:=rfl
theorem v_cons:z7c td ul δ QL=td δ fun _ d δ'=>ul δ' fun ds δ''=>QL (d::ds) δ'':=rfl
theorem v_tup:dTup ul δ Q=ul δ fun ds δ'=>ds.length≤sizeLine∧Q false (.tup ds) δ':=rfl
theorem v_lst:dLst ul δ Q=ul δ fun ds δ'=>ds.length≤sizeLine∧Q true (.lst ds) δ':=rfl
variable {fc:List D→(Bool→D→Prop)→Prop}{fm:D→List D→(D→D→Prop)→Prop}
theorem v_CB:dCB fc ul δ Q=ul δ fun ds δ'=>fc ds fun b d=>Q b d δ':=rfl
theorem v_CBV:dCBV fc i δ Q=getK i δ fun s=>pkS s fun d=>fc [d] fun b d=>Q b d δ:=by unfold dCBV;rw [z5d]
def isLK (d:D) (P:Prop):Prop:=match d with | .lst _=>P|_=>False
theorem isLK_e {xs:List D}{P:Prop}:isLK (.lst xs) P=P:=rfl
theorem v_mt:dMt fm i ul δ Q=getK i δ fun s=>pkS s fun d=>isLK d (ul δ fun ds δ'=>getK i δ' fun s=>obK s fun fl c=>fm c ds fun c' d=>setK i (.ob fl c') δ' fun δ''=>Q false d δ''):=by
 unfold dMt
 simp only [obK_eq,setK]
 unfold peek getK
 cases δ[i]? with
 |none=>simp
 |some s=>cases s with
  |no=>simp [pkS]
  |sc K ns=>simp [pkS]
  |fz d=>cases d <;> simp [pkS,isLK,isL]
  |ob b d=>cases d <;> simp [pkS,isLK,isL]
theorem v_gN:dgN i d δ QS=setW i (.fz d) δ QS:=rfl
theorem v_gTup2 {a b:D}:dgTup 2 gs (.tup [a,b]) δ QS=gs [a,b] δ QS:=by simp [dgTup]
theorem v_gCons {r:List D}:dgCons g gs (d::r) δ QS=g d δ fun δ'=>gs r δ' QS:=propext ⟨fun ⟨_,_,e,h⟩=>by cases e;exact h,fun h=>⟨_,_,rfl,h⟩⟩
theorem v_gNil:dgNil [] δ QS=QS δ:=by simp [dgNil]
theorem v_setL:dSetL i ti tv E δ=tv δ fun _ v δ1=>getK i δ1 fun s=>pkS s fun _=>ti δ1 fun _ y δ2=>getK i δ2 fun s=>obK s fun fl c=>lstK c fun xs=>intK y fun k=>∃ j,ixN xs.length k=some j∧setK i (.ob fl (.lst (xs.set j v))) δ2 E.nx:=by
 unfold dSetL
 simp only [z6f]
 have key:∀ (δ2:List Slot) (y v:D),(∃ fl xs k j,δ2[i]? = some (.ob fl (.lst xs))∧y = .int k∧ixN xs.length k=some j∧E.nx (δ2.set i (.ob fl (.lst (xs.set j v)))))=(getK i δ2 fun s=>obK s fun fl c=>lstK c fun xs=>intK y fun k=>∃ j,ixN xs.length k=some j∧setK i (.ob fl (.lst (xs.set j v))) δ2 E.nx):=by
  intro δ2 y v
  simp only [← obK_eq,← y1n,← intK_eq,setK]
  apply propext
  constructor
  ·rintro ⟨fl,xs,k,j,e,rfl,h1,h2⟩;exact ⟨fl,_,e,xs,rfl,k,rfl,j,h1,h2⟩
  ·rintro ⟨fl,_,e,xs,rfl,k,rfl,j,h1,h2⟩;exact ⟨fl,xs,k,j,e,rfl,h1,h2⟩
 simp only [key]
theorem v_iList:diList td δ QL=td δ fun _ d δ'=>lstK d fun ds=>QL ds δ':=by unfold diList;simp only [y1n]
def int1K (ds:List D) (k:Int→Prop):Prop:=match ds with | [.int j]=>k j|_=>False
theorem int1K_e {j:Int}{k:Int→Prop}:int1K [.int j] k=k j:=rfl
theorem v_iRng1:diRng1 ul δ QL=ul δ fun ds δ'=>int1K ds fun j=>-(2 ^ 62)≤j∧j < 2 ^ 62∧QL (rngD 0 j.toNat) δ':=by
 unfold diRng1
 congr 1
 funext ds δ'
 apply propext
 constructor
 ·rintro ⟨j,rfl,h⟩;exact h
 ·intro h
  unfold int1K at h
  split at h
  ·exact ⟨_,rfl,h⟩
  ·exact h.elim
inductive Beh (Q:Bool→D→List Slot→Prop):Type|mk
def hold (R:RD) (Q:Bool→D→List Slot→Prop) (_:Beh Q) (δ:List Slot):Prop:=R δ Q
variable {R:RD}
theorem v_call:dCall R ul δ Q=ul δ fun ds δ'=>hold R (fun b d _=>Q b d δ') .mk (ds.map .fz):=rfl
theorem v_aNil:daNil δ QA=QA [] δ:=rfl
theorem v_aV:daV td ua δ QA=td δ fun _ d δ'=>ua δ' fun os δ''=>QA (some d::os) δ'':=rfl
theorem v_aO:daO ua δ QA=ua δ fun os δ''=>QA (none::os) δ'':=rfl
theorem v_callIO:z6v R i ua δ Q=getK i δ fun s=>pkS s fun _=>ua δ fun os δ'=>getK i δ' fun s=>obK s fun fl c=>(os.filter Option.isNone).length=1∧hold R (fun b d δ2=>ioK δ2 fun c'=>setK i (.ob fl c') δ' fun δ''=>Q b d δ'') .mk (os.map (y0o c)):=by
 unfold z6v hold
 rw [z6f]
 simp only [obK_eq,ioK_eq,setK]
theorem v_oN:doN δ QO=QO none δ:=rfl
theorem v_oS:doS td δ QO=td δ fun _ d δ'=>intK d fun i=>QO (some i) δ':=by unfold doS;simp only [intK_eq]
theorem v_slLV:dSlLV i l h δ Q=getK i δ fun s=>pkS s fun _=>l δ fun lo δ2=>h δ2 fun hi δ3=>getK i δ3 fun s=>pkS s fun d=>lstK d fun xs=>Q true (.lst (cutD xs lo hi)) δ3:=by
 unfold dSlLV
 rw [z6f]
 have key:∀ (δ3:List Slot) lo hi,(∃ xs,peek δ3 i=some (.lst xs)∧Q true (.lst (cutD xs lo hi)) δ3)=(getK i δ3 fun s=>pkS s fun d=>lstK d fun xs=>Q true (.lst (cutD xs lo hi)) δ3):=by
  intro δ3 lo hi
  simp only [← z5d,← y1n]
  apply propext
  constructor
  ·rintro ⟨xs,e,h⟩;exact ⟨_,e,xs,rfl,h⟩
  ·rintro ⟨_,e,xs,rfl,h⟩;exact ⟨xs,e,h⟩
 simp only [key]
theorem v_slS:dSlS td l h δ Q=td δ fun _ d δ1=>l δ1 fun lo δ2=>h δ2 fun hi δ3=>strK d fun z=>z.length≤sizeLine∧Q false (.str (Txt.slice z lo hi)) δ3:=by unfold dSlS;simp only [z6p]
theorem v_slC {K:PySem.W.Frag}:dSlC K i l h δ Q=getK i δ fun s=>scK K s fun ns=>l δ fun lo δ2=>h δ2 fun hi δ3=>Q true (.lst (cutD (ns.map .int) lo hi)) δ3:=by
 unfold dSlC getK scK
 cases δ[i]? <;> simp
theorem v_join:dJoin ta tb δ Q=ta δ fun _ x δ1=>strK x fun sep=>tb δ1 fun _ y δ2=>∃ ts:List Str,y = .lst (ts.map .str)∧JoinOk sep ts=true∧Q false (.str (Txt.join sep ts)) δ2:=by unfold dJoin;simp only [z6p]
theorem v_dict0:dDict0 δ Q=Q true (.dct []) δ:=rfl
theorem v_dget:dDGetV i ti δ Q=getK i δ fun s=>pkS s fun _=>ti δ fun _ y δ'=>getK i δ' fun s=>pkS s fun c=>dctK c fun kds=>strK y fun k=>∃ d,getS kds k=some d∧Q false d δ':=by
 unfold dDGetV
 rw [z6f]
 have key:∀ (δ':List Slot) (y:D),(∃ kds k d,peek δ' i=some (.dct kds)∧y = .str k∧getS kds k=some d∧Q false d δ')=(getK i δ' fun s=>pkS s fun c=>dctK c fun kds=>strK y fun k=>∃ d,getS kds k=some d∧Q false d δ'):=by
  intro δ' y
  simp only [← z5d,← y0i,← z6p]
  apply propext
  constructor
  ·rintro ⟨kds,k,d,e,rfl,h1,h2⟩;exact ⟨_,e,kds,rfl,k,rfl,d,h1,h2⟩
  ·rintro ⟨_,e,kds,rfl,k,rfl,d,h1,h2⟩;exact ⟨kds,k,d,e,rfl,h1,h2⟩
 simp only [key]
theorem v_din {neg:Bool}:dDInV neg ti i δ Q=ti δ fun _ y δ'=>getK i δ' fun s=>pkS s fun c=>dctK c fun kds=>strK y fun k=>Q false (.bl (if neg then !(getS kds k).isSome else (getS kds k).isSome)) δ':=by
 unfold dDInV
 have key:∀ (δ':List Slot) (y:D),(∃ kds k,peek δ' i=some (.dct kds)∧y = .str k∧Q false (.bl (if neg then !(getS kds k).isSome else (getS kds k).isSome)) δ')=(getK i δ' fun s=>pkS s fun c=>dctK c fun kds=>strK y fun k=>Q false (.bl (if neg then !(getS kds k).isSome else (getS kds k).isSome)) δ'):=by
  intro δ' y
  simp only [← z5d,← y0i,← z6p]
  apply propext
  constructor
  ·rintro ⟨kds,k,e,rfl,h⟩;exact ⟨_,e,kds,rfl,k,rfl,h⟩
  ·rintro ⟨_,e,kds,rfl,k,rfl,h⟩;exact ⟨kds,k,e,rfl,h⟩
 simp only [key]
theorem v_dput:dDPut i ti tv E δ=tv δ fun _ v δ1=>getK i δ1 fun s=>pkS s fun _=>ti δ1 fun _ y δ2=>getK i δ2 fun s=>obK s fun fl c=>dctK c fun kds=>strK y fun k=>kds.length < sizeLine∧setK i (.ob fl (.dct (putS kds k v))) δ2 E.nx:=by
 unfold dDPut
 simp only [z6f]
 have key:∀ (δ2:List Slot) (y v:D),(∃ fl kds k,δ2[i]? = some (.ob fl (.dct kds))∧y = .str k∧kds.length < sizeLine∧E.nx (δ2.set i (.ob fl (.dct (putS kds k v)))))=(getK i δ2 fun s=>obK s fun fl c=>dctK c fun kds=>strK y fun k=>kds.length < sizeLine∧setK i (.ob fl (.dct (putS kds k v))) δ2 E.nx):=by
  intro δ2 y v
  simp only [← obK_eq,← y0i,← z6p,setK]
  apply propext
  constructor
  ·rintro ⟨fl,kds,k,e,rfl,h⟩;exact ⟨fl,_,e,kds,rfl,k,rfl,h⟩
  ·rintro ⟨fl,_,e,kds,rfl,k,rfl,h⟩;exact ⟨fl,kds,k,e,rfl,h⟩
 simp only [key]
variable {x y:Int}{z z':Str}{xs ys:List D}{b b':Bool}
theorem v_I {g:Int→Int→D}:fI g (.int x) (.int y) Q2=Q2 false (g x y):=by simp [fI]
theorem v_Ic {C:Int→Int→Prop}{g:Int→Int→D}:fIc C g (.int x) (.int y) Q2=(C x y∧Q2 false (g x y)):=by simp [fIc]
theorem v_eq_ii:fEq (.int x) (.int y) Q2=Q2 false (.bl (decide (x=y))):=by simp [fEq,sEq]
theorem v_eq_ss:fEq (.str z) (.str z') Q2=Q2 false (.bl (decide (z=z'))):=by simp [fEq,sEq]
theorem v_ne_ii:fNe (.int x) (.int y) Q2=Q2 false (.bl (!decide (x=y))):=by simp [fNe,sEq]
theorem v_ne_ss:fNe (.str z) (.str z') Q2=Q2 false (.bl (!decide (z=z'))):=by simp [fNe,sEq]
theorem v_catS:fCatS (.str z) (.str z') Q2=(z.length+z'.length≤sizeLine∧Q2 false (.str (z ++ z'))):=by simp [fCatS]
theorem v_cat:fCat (.lst xs) (.lst ys) Q2=(xs.length+ys.length≤sizeLine∧Q2 true (.lst (xs ++ ys))):=by simp [fCat]
theorem v_ixL:fIxL (.lst xs) (.int x) Q2 = ∃ d,atI xs x=some d∧Q2 false d:=by simp [fIxL]
theorem v_ixT0 {a:D}{r:List D}:fIxT (.tup (a::r)) (.int 0) Q2=Q2 false a:=by simp [fIxT,atI0]
theorem v_ixT1 {a b:D}{r:List D}:fIxT (.tup (a::b::r)) (.int 1) Q2=Q2 false b:=by simp [fIxT,atI1]
theorem v_ixT2 {a b c:D}{r:List D}:fIxT (.tup (a::b::c::r)) (.int 2) Q2=Q2 false c:=by simp [fIxT,atI2]
theorem v_ixS:fIxS (.str z) (.int x) Q2=(z.length≤sizeLine∧∃ c,atI z.cps.toList x=some c∧Q2 false (.str ⟨#[c]⟩)):=by simp [fIxS]
theorem v_ixQl:fIxQ (.lst xs) (.int x) Q2 = ∃ d,atI xs x=some d∧Q2 false d:=by simp [fIxQ]
theorem v_ixQt:fIxQ (.tup xs) (.int x) Q2 = ∃ d,atI xs x=some d∧Q2 false d:=by simp [fIxQ]
theorem v_eqL0:fEqL (.lst xs) (.lst []) Q2=Q2 false (.bl xs.isEmpty):=by
 cases xs with
 |nil=>simp [fEqL,eqbL,depL]
 |cons a r=>simp [fEqL]
theorem v_neL0:fNeL (.lst xs) (.lst []) Q2=Q2 false (.bl (!xs.isEmpty)):=by
 cases xs with
 |nil=>simp [fNeL,eqbL,depL]
 |cons a r=>simp [fNeL]
theorem z6q {ks ks':List Str}(h:ks.map D.str=ks'.map D.str):ks=ks':=by
 induction ks generalizing ks' with
 |nil=>cases ks' with
  |nil=>rfl
  |cons a r=>simp at h
 |cons a r ih=>cases ks' with
  |nil=>simp at h
  |cons a' r'=>simp at h;rw [h.1,ih h.2]
theorem v_notInL {ks:List Str}:fNotInL (.str z) (.lst (ks.map .str)) Q2=Q2 false (.bl (!decide (z∈ks))):=by
 apply propext;constructor
 ·rintro ⟨k,ks',e1,e2,h⟩;cases e1;have e2:=z6q (D.lst.inj e2);subst e2;exact h
 ·intro h;exact ⟨z,ks,rfl,rfl,h⟩
theorem v_inT2 {a b:Str}:fInT (.str z) (.tup [.str a,.str b]) Q2=Q2 false (.bl (decide (z=a∨z=b))):=by
 apply propext;constructor
 ·rintro ⟨k,ks',e1,e2,h⟩;cases e1;have e2:=z6q (ks:=[a,b]) (D.tup.inj e2);subst e2;simpa using h
 ·intro h;exact ⟨z,[a,b],rfl,rfl,by simpa using h⟩
theorem v_inT3 {a b c:Str}:fInT (.str z) (.tup [.str a,.str b,.str c]) Q2=Q2 false (.bl (decide (z=a∨z=b∨z=c))):=by
 apply propext;constructor
 ·rintro ⟨k,ks',e1,e2,h⟩;cases e1;have e2:=z6q (ks:=[a,b,c]) (D.tup.inj e2);subst e2;simpa using h
 ·intro h;exact ⟨z,[a,b,c],rfl,rfl,by simpa using h⟩
theorem v_lenL:fLenL [.lst xs] Q2=Q2 false (.int xs.length):=by simp [fLenL]
theorem v_lenS:fLenS [.str z] Q2=(z.length≤sizeLine∧Q2 false (.int z.length)):=by simp [fLenS]
theorem v_lenQl:fLenQ [.lst xs] Q2=Q2 false (.int xs.length):=by simp [fLenQ]
theorem v_lenQt:fLenQ [.tup xs] Q2=Q2 false (.int xs.length):=by simp [fLenQ]
theorem v_listOf:fListOf [.lst xs] Q2=Q2 true (.lst xs):=by simp [fListOf]
theorem v_int1b:fInt1 [.bl b] Q2=Q2 false (.int (if b then 1 else 0)):=by simp [fInt1]
theorem v_append:z8h (.lst xs) [d] QM=(xs.length < sizeLine∧QM (.lst (xs ++ [d])) .non):=by simp [z8h]
theorem v_extend:fExtend (.lst xs) [.lst ys] QM=(xs.length+ys.length≤sizeLine∧QM (.lst (xs ++ ys)) .non):=by simp [fExtend]
theorem v_pop:fPop (.lst xs) [] QM = ∃ d,xs[xs.length - 1]? = some d∧QM (.lst xs.dropLast) d:=by simp [fPop]
theorem rsl_t:rsl true d = .ob false d:=rfl
theorem rsl_f:rsl false d = .fz d:=rfl
theorem z9d:fIsI [(.int x),.ty "str"] Q2=Q2 false (.bl false):=by
 apply propext;constructor
 ·rintro ⟨_,_,e,_,_,h⟩;cases e;exact h
 ·exact fun h=>⟨_,_,rfl,(show ("int":String) ≠ "type" by decide),by decide,h⟩
theorem z9g:fIsI [(.int x),.ty "int"] Q2=Q2 false (.bl true):=by
 apply propext;constructor
 ·rintro ⟨_,_,e,_,_,h⟩;cases e;exact h
 ·exact fun h=>⟨_,_,rfl,(show ("int":String) ≠ "type" by decide),by decide,h⟩
theorem z7y:fIsI [(.int x),.ty "bool"] Q2=Q2 false (.bl false):=by
 apply propext;constructor
 ·rintro ⟨_,_,e,_,_,h⟩;cases e;exact h
 ·exact fun h=>⟨_,_,rfl,(show ("int":String) ≠ "type" by decide),by decide,h⟩
theorem z7z:fIsI [(.int x),.ty "list"] Q2=Q2 false (.bl false):=by
 apply propext;constructor
 ·rintro ⟨_,_,e,_,_,h⟩;cases e;exact h
 ·exact fun h=>⟨_,_,rfl,(show ("int":String) ≠ "type" by decide),by decide,h⟩
theorem z6n:fIsI [(.int x),.ty "tuple"] Q2=Q2 false (.bl false):=by
 apply propext;constructor
 ·rintro ⟨_,_,e,_,_,h⟩;cases e;exact h
 ·exact fun h=>⟨_,_,rfl,(show ("int":String) ≠ "type" by decide),by decide,h⟩
theorem z9f:fIsI [(.str z),.ty "str"] Q2=Q2 false (.bl true):=by
 apply propext;constructor
 ·rintro ⟨_,_,e,_,_,h⟩;cases e;exact h
 ·exact fun h=>⟨_,_,rfl,(show ("str":String) ≠ "type" by decide),by decide,h⟩
theorem z9a:fIsI [(.str z),.ty "int"] Q2=Q2 false (.bl false):=by
 apply propext;constructor
 ·rintro ⟨_,_,e,_,_,h⟩;cases e;exact h
 ·exact fun h=>⟨_,_,rfl,(show ("str":String) ≠ "type" by decide),by decide,h⟩
theorem z7m:fIsI [(.str z),.ty "bool"] Q2=Q2 false (.bl false):=by
 apply propext;constructor
 ·rintro ⟨_,_,e,_,_,h⟩;cases e;exact h
 ·exact fun h=>⟨_,_,rfl,(show ("str":String) ≠ "type" by decide),by decide,h⟩
theorem z8d:fIsI [(.str z),.ty "list"] Q2=Q2 false (.bl false):=by
 apply propext;constructor
 ·rintro ⟨_,_,e,_,_,h⟩;cases e;exact h
 ·exact fun h=>⟨_,_,rfl,(show ("str":String) ≠ "type" by decide),by decide,h⟩
theorem z6k:fIsI [(.str z),.ty "tuple"] Q2=Q2 false (.bl false):=by
 apply propext;constructor
 ·rintro ⟨_,_,e,_,_,h⟩;cases e;exact h
 ·exact fun h=>⟨_,_,rfl,(show ("str":String) ≠ "type" by decide),by decide,h⟩
theorem z9c:fIsI [(.lst xs),.ty "str"] Q2=Q2 false (.bl false):=by
 apply propext;constructor
 ·rintro ⟨_,_,e,_,_,h⟩;cases e;exact h
 ·exact fun h=>⟨_,_,rfl,(show ("list":String) ≠ "type" by decide),by decide,h⟩
theorem z8w:fIsI [(.lst xs),.ty "int"] Q2=Q2 false (.bl false):=by
 apply propext;constructor
 ·rintro ⟨_,_,e,_,_,h⟩;cases e;exact h
 ·exact fun h=>⟨_,_,rfl,(show ("list":String) ≠ "type" by decide),by decide,h⟩
theorem z7j:fIsI [(.lst xs),.ty "bool"] Q2=Q2 false (.bl false):=by
 apply propext;constructor
 ·rintro ⟨_,_,e,_,_,h⟩;cases e;exact h
 ·exact fun h=>⟨_,_,rfl,(show ("list":String) ≠ "type" by decide),by decide,h⟩
theorem z7n:fIsI [(.lst xs),.ty "list"] Q2=Q2 false (.bl true):=by
 apply propext;constructor
 ·rintro ⟨_,_,e,_,_,h⟩;cases e;exact h
 ·exact fun h=>⟨_,_,rfl,(show ("list":String) ≠ "type" by decide),by decide,h⟩
theorem z6l:fIsI [(.lst xs),.ty "tuple"] Q2=Q2 false (.bl false):=by
 apply propext;constructor
 ·rintro ⟨_,_,e,_,_,h⟩;cases e;exact h
 ·exact fun h=>⟨_,_,rfl,(show ("list":String) ≠ "type" by decide),by decide,h⟩
theorem z8y:fIsI [(.tup xs),.ty "str"] Q2=Q2 false (.bl false):=by
 apply propext;constructor
 ·rintro ⟨_,_,e,_,_,h⟩;cases e;exact h
 ·exact fun h=>⟨_,_,rfl,(show ("tuple":String) ≠ "type" by decide),by decide,h⟩
theorem z8z:fIsI [(.tup xs),.ty "int"] Q2=Q2 false (.bl false):=by
 apply propext;constructor
 ·rintro ⟨_,_,e,_,_,h⟩;cases e;exact h
 ·exact fun h=>⟨_,_,rfl,(show ("tuple":String) ≠ "type" by decide),by decide,h⟩
theorem z7e:fIsI [(.tup xs),.ty "bool"] Q2=Q2 false (.bl false):=by
 apply propext;constructor
 ·rintro ⟨_,_,e,_,_,h⟩;cases e;exact h
 ·exact fun h=>⟨_,_,rfl,(show ("tuple":String) ≠ "type" by decide),by decide,h⟩
theorem z7s:fIsI [(.tup xs),.ty "list"] Q2=Q2 false (.bl false):=by
 apply propext;constructor
 ·rintro ⟨_,_,e,_,_,h⟩;cases e;exact h
 ·exact fun h=>⟨_,_,rfl,(show ("tuple":String) ≠ "type" by decide),by decide,h⟩
theorem z6m:fIsI [(.tup xs),.ty "tuple"] Q2=Q2 false (.bl true):=by
 apply propext;constructor
 ·rintro ⟨_,_,e,_,_,h⟩;cases e;exact h
 ·exact fun h=>⟨_,_,rfl,(show ("tuple":String) ≠ "type" by decide),by decide,h⟩
end
end VL
namespace VL
open PySem L2
def fAll:List D→(Bool→D→Prop)→Prop:=fun ds Q=>∃ bs:List Bool,ds=[.lst (bs.map .bl)]∧Q false (.bl (bs.all id))
def fAny:List D→(Bool→D→Prop)→Prop:=fun ds Q=>∃ bs:List Bool,ds=[.lst (bs.map .bl)]∧Q false (.bl (bs.any id))
theorem cs_all:z7a (fun xs H Q=>∃ p,xs=[.ref p]∧∃ bs:List Bool,H p=some (.lst (bs.map V.bl))∧Q (.bl (bs.all id)) H) fAll:=by
 intro io H0 F0 F δ σ H xs vs Q Qd I px q k
 obtain ⟨bs,rfl,q⟩:=q
 obtain ⟨v,rfl,pk⟩:=pks1 px
 obtain ⟨a,us,rfl,h1,r⟩:=pk.lst I
 rw [r.bls] at h1
 exact ⟨a,rfl,bs,h1,k false _ _ F H (Same.refl _) I.pB q⟩
theorem cs_any:z7a (fun xs H Q=>∃ p,xs=[.ref p]∧∃ bs:List Bool,H p=some (.lst (bs.map V.bl))∧Q (.bl (bs.any id)) H) fAny:=by
 intro io H0 F0 F δ σ H xs vs Q Qd I px q k
 obtain ⟨bs,rfl,q⟩:=q
 obtain ⟨v,rfl,pk⟩:=pks1 px
 obtain ⟨a,us,rfl,h1,r⟩:=pk.lst I
 rw [r.bls] at h1
 exact ⟨a,rfl,bs,h1,k false _ _ F H (Same.refl _) I.pB q⟩
section
variable {X:Cx}
def diRev (td:TEd):TLd:=fun δ Q=>td δ fun _ d δ'=>∃ ds,d = .lst ds∧Q ds.reverse δ'
theorem itOk_rev {F:Hp}{a:Addr}{vs:List V}{ds:List D}(h:F a=some (.lst vs)) (r:Reps F ds vs):ItOk (Itv a vs.length) F ds.reverse:=by
 intro io H0 F0 F' δ σ H' sf I i
 have hH:H' a=some (.lst vs):=I.sub _ _ (sf _ _ h)
 have hl:=r.len
 refine ⟨fun d e=>?_,fun e=>?_⟩
 ·obtain ⟨v,ev,rv⟩:=r.rev.get e
  have hi:i < vs.length:=by
   have:=(List.getElem?_eq_some_iff.mp ev).1
   simpa using this
  rw [List.getElem?_reverse hi] at ev
  refine ⟨⟨vs,v,hH,hi,ev⟩,fun x H'' y=>?_⟩
  obtain ⟨e1,y⟩:=y
  subst e1
  have:=y vs hH
  rw [ev] at this
  cases this
  exact ⟨F',Same.refl _,I,Rep.mono sf _ _ rv⟩
 ·rw [e,List.length_reverse,hl];exact rfl
theorem di_rev {tg l:Expr}{dl:TEd}{p2 p3:Pos}(hgR:Gl X "reversed") (hmR:X.mg "reversed" = none) (hl:DE X l dl) (hs2:starEach [l] X.env=[(false,eval l X.env)]:=by rfl):DI X tg (.Call (.Name "reversed" p2) [l] [] p3) (diRev dl):=by
 obtain ⟨t,p,s⟩:=hl
 refine ⟨_,pi_rev hgR hmR p hs2,fun io H0 F0 F δ σ H R Qd I q k=>s.fz I q fun d v δ' F' H' sf I' r q'=>?_⟩
 obtain ⟨ds,rfl,q'⟩:=q'
 obtain ⟨a,vs,rfl,h1,r1⟩:=r
 exact ⟨a,rfl,vs,I'.sub _ _ h1,k _ ds.reverse δ' F' H' sf I' (itOk_rev h1 r1) q'⟩
def zipD (xs ys:List D):List D:=List.zipWith (fun x y=>.tup [x,y]) xs ys
def diZip (u:TLd):TLd:=fun δ Q=>u δ fun ds δ'=>∃ xs ys,ds=[.lst xs,.lst ys]∧Q (zipD xs ys) δ'
theorem itOk_zip {F:Hp}{a b:Addr}{vs us:List V}{xs ys:List D}(ha:F a=some (.lst vs)) (ra:Reps F xs vs) (hb:F b=some (.lst us)) (rb:Reps F ys us):ItOk (Itz a b) F (zipD xs ys):=by
 intro io H0 F0 F' δ σ H' sf I i
 have hA:H' a=some (.lst vs):=I.sub _ _ (sf _ _ ha)
 have hB:H' b=some (.lst us):=I.sub _ _ (sf _ _ hb)
 refine ⟨fun d e=>?_,fun e=>?_⟩
 ·unfold zipD at e
  rw [List.getElem?_zipWith] at e
  split at e
  ·rename_i x y ex ey
   cases e
   obtain ⟨v,ev,rv⟩:=ra.get ex
   obtain ⟨u,eu,ru⟩:=rb.get ey
   refine ⟨⟨vs,us,v,u,hA,hB,ev,eu⟩,fun z H'' yl=>?_⟩
   obtain ⟨t,rfl,ht,yl⟩:=yl
   obtain ⟨v',u',ev',eu',rfl⟩:=yl vs us hA hB
   rw [ev] at ev';cases ev'
   rw [eu] at eu';cases eu'
   obtain ⟨F2,s2,I2,r2⟩:=I.newT (ds:=[x,y]) (vs:=[v,u]) ht ⟨_,_,rfl,Rep.mono sf _ _ rv,_,_,rfl,Rep.mono sf _ _ ru,rfl⟩
   exact ⟨F2,s2,I2,r2⟩
  ·cases e
 ·refine ⟨vs,us,hA,hB,?_⟩
  have l1:=ra.len
  have l2:=rb.len
  simp only [zipD,List.length_zipWith] at e
  rw [List.getElem?_eq_none_iff,List.getElem?_eq_none_iff]
  omega
theorem Reps.two_inv {F:Hp}{d e:D}{vs:List V}(h:Reps F [d,e] vs):∃ v u,vs=[v,u]∧Rep F d v∧Rep F e u:=by
 obtain ⟨v,r,rfl,h1,u,r',rfl,h2,h3⟩:=h
 cases (show r' = [] from h3)
 exact ⟨v,u,rfl,h1,h2⟩
theorem di_zip {elts:List Expr}{x1:Nat}{pt:Pos}{e1 e2:Expr}{u:TLd}{p pos:Pos}(hg:Gl X "zip") (hm:X.mg "zip" = none) (ha:DL X [e1,e2] u) (hs:starEach [e1,e2] X.env=(false,eval e1 X.env)::starEach [e2] X.env:=by rfl) (hpl:(backTo pos (starEach [e2] X.env)).any (·.1)=false:=by rfl) :
  DI X (.Tuple elts x1 pt) (.Call (.Name "zip" p) [e1,e2] [] pos) (diZip u):=by
 obtain ⟨t,p,s⟩:=ha
 refine ⟨_,pi_zip hg hm p hs hpl,fun io H0 F0 F δ σ H R Qd I q k=>s io H0 F0 F δ σ H _ _ I q fun ds vs δ' F' H' sf I' r q'=>?_⟩
 obtain ⟨xs,ys,rfl,q'⟩:=q'
 obtain ⟨v,w,rfl,⟨a,us,rfl,h1,r1⟩,b,ws,rfl,h2,r2⟩:=r.two_inv
 exact ⟨a,b,rfl,us,I'.sub _ _ h1,ws,I'.sub _ _ h2,k _ _ δ' F' H' sf I' (itOk_zip h1 r1 h2 r2) q'⟩
def dDGet (td ti:TEd):TEd:=fun δ Q=>td δ fun _ x δ1=>ti δ1 fun _ y δ2=>∃ kds k d,x = .dct kds∧y = .str k∧getS kds k=some d∧Q false d δ2
theorem de_dget {a ie:Expr}{td ti:TEd}{pos:Pos}(hu:X.A.units+100 < cLine) (ha:DE X a td) (hi:DE X ie ti) (hs:NoSl ie:=by intro _ _;rfl):DE X (.Subscript a ie pos) (dDGet td ti):=by
 obtain ⟨t,pi,si⟩:=hi
 obtain ⟨t',pa,sa⟩:=ha
 refine ⟨_,pe_dget (by omega) pa pi hs,fun io H0 F0 F δ σ H Q Qd I q k=>sa.fz I q fun x v δ1 F1 H1 f1 I1 r1 q1=>si.fz I1 q1 fun y u δ2 F2 H2 f2 I2 r2 q2=>?_⟩
 obtain ⟨kds,key,dd,rfl,rfl,eg,q2⟩:=q2
 obtain ⟨a,kvs,rfl,h1,rk⟩:=Rep.mono f2 _ _ r1
 cases (show u=V.str key from r2)
 obtain ⟨w,ew,rw'⟩:=(rk.val key).1 dd eg
 exact ⟨a,w,rfl,DGet.s (I2.sub _ _ h1) ew,k false _ _ δ2 F2 H2 (f1.trans f2) (I2.pushF rw') q2⟩
def dDIn (neg:Bool) (ti td:TEd):TEd:=fun δ Q=>ti δ fun _ y δ1=>td δ1 fun _ x δ2=>∃ kds k,x = .dct kds∧y = .str k∧Q false (.bl (if neg then !(getS kds k).isSome else (getS kds k).isSome)) δ2
theorem sim_dinE {ti tx:TE}{td dx:TEd}(si:Sim ti td) (sx:Sim tx dx):Sim (tDIn ti tx) (dDIn false td dx)∧Sim (tDNotIn ti tx) (dDIn true td dx):=by
 refine ⟨fun io H0 F0 F δ σ H Q Qd I q k=>si.fz I q fun d v δ1 F1 H1 f1 I1 r1 q1=>sx.fz I1 q1 fun x u δ2 F2 H2 f2 I2 r2 q2=>?_,fun io H0 F0 F δ σ H Q Qd I q k=>si.fz I q fun d v δ1 F1 H1 f1 I1 r1 q1=>sx.fz I1 q1 fun x u δ2 F2 H2 f2 I2 r2 q2=>?_⟩ <;>
 ·obtain ⟨kds,key,rfl,rfl,q2⟩:=q2
  obtain ⟨a,kvs,rfl,h1,rk⟩:=r2
  cases (show v=V.str key from r1)
  have e:(valV kvs (Sum.inr key)).isSome=(getS kds key).isSome:=by
   cases eg:getS kds key with
   |none=>rw [(rk.val key).2 eg];rfl
   |some d=>obtain ⟨w,ew,_⟩:=(rk.val key).1 d eg;rw [ew];rfl
  refine ⟨a,_,rfl,DGet.o (I2.sub _ _ h1),k false _ _ δ2 F2 H2 (f1.trans f2) (I2.pushF ?_) q2⟩
  rw [e];rfl
theorem dt_din {a e:Expr}{ti td:TEd}{pos:Pos}(hu:X.A.units+100 < cLine) (hi:DE X e ti) (ha:DE X a td) (hm:behindInMarks .In a=false:=by rfl):DT X (.Compare e [.In] [a] pos) (z6x (dDIn false ti td)):=by
 obtain ⟨t,pi,si⟩:=hi;obtain ⟨t',pa,sa⟩:=ha;exact ⟨_,pt_cmp (pc_din (by omega) pi pa) hm,z8b (sim_dinE si sa).1⟩
def dIxC (K:PySem.W.Frag) (i:Nat) (ti:TEd):TEd:=fun δ Q=>∃ ns,δ[i]? = some (.sc K ns)∧ti δ fun _ y δ1=>∃ j n,y = .int j∧atI ns j=some n∧Q false (.int n) δ1
theorem atI_map {α β:Type}(f:α→β) {xs:List α}{i:Int}{x:α}(h:atI xs i=some x):atI (xs.map f) i=some (f x):=by
 unfold atI at h ⊢
 rw [List.length_map]
 obtain ⟨j,e,h⟩:=Option.bind_eq_some_iff.mp h
 rw [e];simp [h]
theorem de_ixC {K:PySem.W.Frag}(hK:X.K=K) {i:Nat}{x:Str}{p pos:Pos}{ie:Expr}{ti:TEd}(ho:PE X (.Name x p) (tVar i)) (hi:DE X ie ti) (hs:NoSl ie:=by intro _ _;rfl):DE X (.Subscript (.Name x p) ie pos) (dIxC K i ti):=by
 subst hK
 obtain ⟨t,pi,si⟩:=hi
 refine ⟨_,z5z ix_list ho pi hs,fun io H0 F0 F δ σ H Q Qd I q k=>?_⟩
 obtain ⟨ns,e,q⟩:=q
 obtain ⟨a,ea,sq⟩:=I.get i _ e
 refine ⟨.ref a,z2b ea,si.fz I q fun y u δ1 F1 H1 f1 I1 r1 q1=>?_⟩
 obtain ⟨j,n,rfl,hj,q1⟩:=q1
 cases (show u=V.int j from r1)
 exact ⟨a,_,j,_,rfl,rfl,I1.sub.seq (f1.seq sq),atI_map V.int hj,k false _ _ δ1 F1 H1 f1 I1.pI q1⟩
def dLenC (K:PySem.W.Frag) (i:Nat):TEd:=fun δ Q=>∃ ns,δ[i]? = some (.sc K ns)∧Q false (.int ns.length) δ
theorem de_lenC {K:PySem.W.Frag}(hK:X.K=K) {i:Nat}{y:Str}{p p' pos:Pos}(hg:Gl X "len") (hm:X.mg "len" = none) (ha:PE X (.Name y p') (tVar i))
  (he:starEach [.Name y p'] X.env=[(false,eval (.Name y p') X.env)]:=by rfl) (hpl:(backTo pos (starEach [] X.env)).any (·.1)=false:=by rfl):DE X (.Call (.Name "len" p) [.Name y p'] [] pos) (dLenC K i):=by
 subst hK
 refine ⟨_,z9y z4d hg hm boot_len (z0k ha z1g he) (by decide) (by decide) he hpl,fun io H0 F0 F δ σ H Q Qd I q k=>?_⟩
 obtain ⟨ns,e,q⟩:=q
 obtain ⟨a,ea,sq⟩:=I.get i _ e
 refine ⟨.ref a,z2b ea,a,_,rfl,.inl (I.sub.seq sq),?_⟩
 rw [List.length_map]
 exact k false _ _ δ F H (Same.refl _) I.pI q
def dIndex (td ti:TEd):TEd:=fun δ Q=>td δ fun _ x δ1=>∃ ks:List Str,x = .lst (ks.map .str)∧ti δ1 fun _ y δ2=>∃ (k:Str) (j:Nat),y = .str k∧ks[j]? = some k∧(∀ m,m < j→ks[m]? ≠ some k)∧Q false (.int j) δ2
theorem de_index {l e:Expr}{td ti:TEd}{apos cpos:Pos}(hl:DE X l td) (hi:DE X e ti)
  (hbase:attributeBase l "index" X.env (eval l X.env)=eval l X.env:=by rfl)
  (hfew:((backTo cpos (starEach [e] X.env)).all (fun x=>!x.1) && (backToKw cpos (keywordEach [] X.env)).all (fun x=>x.1.isSome)
   && decide (([e]:List Expr).length+([]:List Keyword).length+(if ([]:List Keyword).isEmpty then 0 else 1) < 30))=true:=by rfl)
  (hline:(apos.endLine == cpos.line)=true:=by rfl) (hst:starEach [e] X.env=(false,eval e X.env)::starEach [] X.env:=by rfl) (hplain:(backTo cpos (starEach [] X.env)).any (·.1)=false:=by rfl) :
  DE X (.Call (.Attribute l "index" apos) [e] [] cpos) (dIndex td ti):=by
 obtain ⟨t,pi,si⟩:=hi
 obtain ⟨t',pa,sa⟩:=hl
 refine ⟨_,pe_lm PySem.F.slot_list_index PySem.F.type_list_index mt_index pa (z0k pi z1g hst) hbase hfew hline hst hplain,fun io H0 F0 F δ σ H Q Qd I q k=>sa.fz I q fun x v δ1 F1 H1 f1 I1 r1 q1=>?_⟩
 obtain ⟨ks,rfl,q1⟩:=q1
 obtain ⟨a,vs,rfl,h1,r1'⟩:=r1
 rw [r1'.strs] at h1
 refine ⟨a,rfl,⟨_,I1.sub _ _ h1⟩,si.fz I1 q1 fun y u δ2 F2 H2 f2 I2 r2 q2=>?_⟩
 obtain ⟨key,j,rfl,e1,e2,q2⟩:=q2
 cases (show u=V.str key from r2)
 exact ⟨a,rfl,key,rfl,ks,I2.sub _ _ (f2 _ _ h1),j,e1,e2,k false _ _ δ2 F2 H2 (f1.trans f2) I2.pI q2⟩
end
def dCallC (R:RD) (i:Nat) (u:TLd):TEd:=fun δ Q=>∃ K ns,δ[i]? = some (.sc K ns)∧u δ fun ds δ'=>δ'[i]? = some (.sc K ns)∧R (.sc K ns::ds.map .fz) fun b d _=>Q b d δ'
section
variable {X:Cx}{CX:CXT}{k:Nat}{f:Addr}{fd:FuncData}{ps:List Str}{R:RD}{E:XK}{x y:Str}{p p' pos:Pos}{es:List Expr}{u:TLd}{i:Nat}
theorem z8c (G:FnOk X.prog X.w X.K X.mg X.base CX k f fd ps (spD R)) (hr:Room k X.A) (hg:Gl X x) (hm:X.mg x=some (.ref f)) (hk:PySem.W.keepIn X.K (.ref f)=true) (hb:Binds X.K fd ps []) (hx:z7x CX X E)
  (hv:PE X (.Name y p') (tVar i)) (ha:DL X es u) (hdb:(x == ("__debug__":Str))=false:=by decide) (hs:starEach (.Name y p' :: es) X.env=(false,eval (.Name y p') X.env)::starEach es X.env:=by rfl) (hpl:(backTo pos (starEach es X.env)).any (·.1)=false:=by rfl) :
  DE X (.Call (.Name x p) (.Name y p' :: es) [] pos) (dCallC R i u):=by
 obtain ⟨t,pt,s⟩:=ha
 refine ⟨_,z1t G hr hg hm hk hb .nil hx (z0k hv pt hs) hdb hs hpl,fun io H0 F0 F δ σ H Q Qd I q kk=>?_⟩
 obtain ⟨K,ns,e0,q⟩:=q
 obtain ⟨a,ea,sq⟩:=I.get i _ e0
 refine ⟨.ref a,z2b ea,s io H0 F0 F δ σ H _ _ I q fun ds vs δ' F' H' sf I' r q'=>?_⟩
 obtain ⟨e1,q'⟩:=q'
 show spD R ((.ref a::vs) ++ []) H' Q E
 rw [List.append_nil]
 refine ⟨H',[none],F',.sc K ns::ds.map .fz,_,fun p a e=>by cases p <;> simp at e,(y2h I'.sub r).push (s:=.sc K ns) (v:=.ref a) ⟨a,rfl,sf.seq sq⟩ (fun b c a e=>by cases e),q',fun b d v δ2 F2 H2 C q2=>?_⟩
 exact kk b d v δ' F2 H2 (sf.trans C.ext) (I'.back C) q2
end
section
variable {δ:List Slot}{Q:Bool→D→List Slot→Prop}{QL:List D→List Slot→Prop}{Q2:Bool→D→Prop}{td ti:TEd}{ul:TLd}{i:Nat}
def lst2K (ds:List D) (k:List D→List D→Prop):Prop:=match ds with | [.lst x,.lst y]=>k x y|_=>False
theorem lst2K_e {x y:List D}{k:List D→List D→Prop}:lst2K [.lst x,.lst y] k=k x y:=rfl
theorem v_iRev:diRev td δ QL=td δ fun _ d δ'=>lstK d fun ds=>QL ds.reverse δ':=by unfold diRev;simp only [y1n]
theorem v_iZip:diZip ul δ QL=ul δ fun ds δ'=>lst2K ds fun xs ys=>QL (zipD xs ys) δ':=by
 unfold diZip
 congr 1
 funext ds δ'
 apply propext
 constructor
 ·rintro ⟨xs,ys,rfl,h⟩;exact h
 ·intro h
  unfold lst2K at h
  split at h
  ·exact ⟨_,_,rfl,h⟩
  ·exact h.elim
theorem v_dgetE:dDGet td ti δ Q=td δ fun _ x δ1=>ti δ1 fun _ y δ2=>dctK x fun kds=>strK y fun k=>∃ d,getS kds k=some d∧Q false d δ2:=by
 unfold dDGet
 have key:∀ (x y:D) (δ2:List Slot),(∃ kds k d,x = .dct kds∧y = .str k∧getS kds k=some d∧Q false d δ2)=(dctK x fun kds=>strK y fun k=>∃ d,getS kds k=some d∧Q false d δ2):=by
  intro x y δ2
  simp only [← y0i,← z6p]
  apply propext
  constructor
  ·rintro ⟨kds,k,d,rfl,rfl,h1,h2⟩;exact ⟨kds,rfl,k,rfl,d,h1,h2⟩
  ·rintro ⟨kds,rfl,k,rfl,d,h1,h2⟩;exact ⟨kds,k,d,rfl,rfl,h1,h2⟩
 simp only [key]
theorem v_dinE {neg:Bool}:dDIn neg ti td δ Q=ti δ fun _ y δ1=>td δ1 fun _ x δ2=>dctK x fun kds=>strK y fun k=>Q false (.bl (if neg then !(getS kds k).isSome else (getS kds k).isSome)) δ2:=by
 unfold dDIn
 have key:∀ (x y:D) (δ2:List Slot),(∃ kds k,x = .dct kds∧y = .str k∧Q false (.bl (if neg then !(getS kds k).isSome else (getS kds k).isSome)) δ2)=(dctK x fun kds=>strK y fun k=>Q false (.bl (if neg then !(getS kds k).isSome else (getS kds k).isSome)) δ2):=by
  intro x y δ2
  simp only [← y0i,← z6p]
  apply propext
  constructor
  ·rintro ⟨kds,k,rfl,rfl,h⟩;exact ⟨kds,rfl,k,rfl,h⟩
  ·rintro ⟨kds,rfl,k,rfl,h⟩;exact ⟨kds,k,rfl,rfl,h⟩
 simp only [key]
theorem v_ixC {K:PySem.W.Frag}:dIxC K i ti δ Q=getK i δ fun s=>scK K s fun ns=>ti δ fun _ y δ1=>intK y fun j=>∃ n,atI ns j=some n∧Q false (.int n) δ1:=by
 unfold dIxC getK scK
 have key:∀ (ns:List Int) (y:D) (δ1:List Slot),(∃ j n,y = .int j∧atI ns j=some n∧Q false (.int n) δ1)=(intK y fun j=>∃ n,atI ns j=some n∧Q false (.int n) δ1):=by
  intro ns y δ1
  simp only [← intK_eq]
  apply propext
  constructor
  ·rintro ⟨j,n,rfl,h⟩;exact ⟨j,rfl,n,h⟩
  ·rintro ⟨j,rfl,n,h⟩;exact ⟨j,n,rfl,h⟩
 simp only [key]
 cases δ[i]? <;> simp
theorem v_lenC {K:PySem.W.Frag}:dLenC K i δ Q=getK i δ fun s=>scK K s fun ns=>Q false (.int ns.length) δ:=by
 unfold dLenC getK scK
 cases δ[i]? <;> simp
theorem atI3 {α:Type}{a b c d:α}{l:List α}:atI (a::b::c::d::l) 3=some d:=z3x (xs:=a::b::c::d::l) (j:=3) (v:=d) rfl
theorem v_ixT3 {a b c e:D}{r:List D}:fIxT (.tup (a::b::c::e::r)) (.int 3) Q2=Q2 false e:=by simp [fIxT,atI3]
theorem v_index:dIndex td ti δ Q=td δ fun _ x δ1=>∃ ks:List Str,x = .lst (ks.map .str)∧ti δ1 fun _ y δ2=>∃ (k:Str) (j:Nat),y = .str k∧ks[j]? = some k∧(∀ m,m < j→ks[m]? ≠ some k)∧Q false (.int j) δ2:=rfl
def scA (s:Slot) (k:PySem.W.Frag→List Int→Prop):Prop:=match s with | .sc K ns=>k K ns|_=>False
theorem v_scA {K:PySem.W.Frag}{ns:List Int}{k:PySem.W.Frag→List Int→Prop}:scA (.sc K ns) k=k K ns:=rfl
theorem v_callC {R:RD}:dCallC R i ul δ Q=getK i δ fun s=>scA s fun K ns=>ul δ fun ds δ'=>getK i δ' fun s'=>s' = .sc K ns∧hold R (fun b d _=>Q b d δ') .mk (.sc K ns::ds.map .fz):=by
 unfold dCallC getK hold
 have key:∀ (K:PySem.W.Frag) (ns:List Int) (δ':List Slot) (A:Prop),(δ'[i]? = some (.sc K ns)∧A)=(match δ'[i]? with|some s'=>s' = .sc K ns∧A|none=>False):=by
  intro K ns δ' A
  cases δ'[i]? <;> simp
 simp only [key]
 cases δ[i]? with
 |none=>simp
 |some s =>
  cases s with
  |sc K ns =>
   apply propext
   constructor
   ·rintro ⟨K',ns',e,h⟩;cases e;exact h
   ·intro h;exact ⟨K,ns,rfl,h⟩
  |_=>simp [scA]
end
end VL
namespace L2
open PySem PySem.Spec PyProof.Rows PySem.SeqAt
theorem strs_at {ks:List Str}{us:List Value}(r:Vals (ks.map V.str) us) {j:Nat}(h:j < us.toArray.size) (hj:j < ks.length):RelV (.str ks[j]) us.toArray[j]:=by
 have h':j < us.length:=by simpa using h
 obtain ⟨u,e,ru⟩:=r.get (i:=j) (x:=.str ks[j]) (by rw [List.getElem?_map,List.getElem?_eq_getElem hj];rfl)
 rw [List.getElem?_eq_getElem h'] at e
 cases e
 simpa using ru
theorem op_eq_strs {X:Cx}:OpR X (compareOp .Eq) (fun x y H Q=>∃ a b,x = .ref a∧y = .ref b∧∃ ks:List Str,H a=some (.lst (ks.map V.str))∧∃ js:List Str,H b=some (.lst (js.map V.str))∧X.A.units < cLine∧Q (.bl (decide (ks=js))) H):=by
 intro pins s σ H x y v u Q I rx ry h
 obtain ⟨a,b,rfl,rfl,ks,ha,js,hb,hu,q⟩:=h
 cases rx
 cases ry
 obtain ⟨us,ru,pu,_⟩:=I.list (SqL.of ha)
 obtain ⟨ws,rw',pw,_⟩:=I.list (SqL.of hb)
 have l1:=ru.length
 have l2:=rw'.length
 simp only [List.length_map] at l1 l2
 by_cases hl:ks.length=js.length
 ·refine SeqAt.eq_listAt (e:=fun j=>decide (ks.getD j "" = js.getD j "")) pu.isList pw.isList (by simp;omega) hu (fun j h1 h2=>?_) ?_
  ·have hj1:j < ks.length:=by simp at h1;omega
   have hj2:j < js.length:=by omega
   have e:=eqAt_V (A:=X.A.in1) (s:=s) (strs_at ru h1 hj1) (strs_at rw' h2 hj2) rfl rfl
   have ee:eqV (.str ks[j]) (.str js[j])=decide (ks.getD j "" = js.getD j ""):=by
    rw [List.getD_eq_getElem?_getD,List.getD_eq_getElem?_getD,List.getElem?_eq_getElem hj1,List.getElem?_eq_getElem hj2]
    show (ks[j] == js[j])=decide (ks[j]=js[j])
    rw [Bool.eq_iff_iff];simp
   rw [← ee]
   exact e
  ·have e:((List.range us.toArray.size).all fun j=>decide (ks.getD j "" = js.getD j ""))=decide (ks=js):=by
    have hs:us.toArray.size=ks.length:=by simp;omega
    rw [hs,Bool.eq_iff_iff]
    simp only [List.all_eq_true,List.mem_range,decide_eq_true_eq]
    constructor
    ·intro h
     refine List.ext_getElem hl fun j h1 h2=>?_
     have:=h j h1
     rwa [List.getD_eq_getElem?_getD,List.getD_eq_getElem?_getD,List.getElem?_eq_getElem h1,List.getElem?_eq_getElem h2] at this
    ·rintro rfl j _;rfl
   rw [e]
   exact ⟨.bl _,H,I,rfl,q⟩
 ·refine SeqAt.eq_list_lengthsAt pu.isList pw.isList (by simp;omega) hu ?_
  have:decide (ks=js)=false:=by
   rw [decide_eq_false_iff_not];intro z;exact hl (by rw [z])
  rw [this] at q
  exact ⟨.bl false,H,I,rfl,q⟩
end L2
namespace VL
open PySem L2
def fEqS:D→D→(Bool→D→Prop)→Prop:=fun x y Q=>∃ ks js:List Str,x = .lst (ks.map .str)∧y = .lst (js.map .str)∧Q false (.bl (decide (ks=js)))
theorem os_eqS {X:Cx}(hu:X.A.units+100 < cLine):OpS (fun x y H Q=>∃ a b,x = .ref a∧y = .ref b∧∃ ks:List Str,H a=some (.lst (ks.map V.str))∧∃ js:List Str,H b=some (.lst (js.map V.str))∧X.A.units < cLine∧Q (.bl (decide (ks=js))) H) fEqS:=by
 intro io H0 F0 F δ σ H x y v u Q Qd I px py q k
 obtain ⟨ks,js,rfl,rfl,q⟩:=q
 obtain ⟨a,vs,rfl,h1,r1⟩:=px.lst I
 obtain ⟨b,us,rfl,h2,r2⟩:=py.lst I
 rw [r1.strs] at h1
 rw [r2.strs] at h2
 exact ⟨a,b,rfl,rfl,ks,h1,js,h2,by omega,k false _ _ F H (Same.refl _) I.pB q⟩
def fInI:D→D→(Bool→D→Prop)→Prop:=fun x y Q=>∃ (k:Int) (ks:List Int),x = .int k∧y = .lst (ks.map .int)∧Q false (.bl (decide (k∈ks)))
def fNotInI:D→D→(Bool→D→Prop)→Prop:=fun x y Q=>∃ (k:Int) (ks:List Int),x = .int k∧y = .lst (ks.map .int)∧Q false (.bl (!decide (k∈ks)))
theorem os_inI:OpS (fun x y H Q=>∃ p,y = .ref p∧∃ xs,H p=some (.lst xs)∧z4f x=true∧xs.all z4f=true∧Q (.bl (inV x xs)) H) fInI:=by
 intro io H0 F0 F δ σ H x y v u Q Qd I px py q k
 obtain ⟨s,ks,rfl,rfl,q⟩:=q
 obtain ⟨b,us,rfl,h2,r2⟩:=py.lst I
 cases px.int
 cases r2.ints
 refine ⟨b,rfl,_,h2,rfl,flat_ints ks,k false _ _ F H (Same.refl _) (I.pushF ?_) q⟩
 rw [inV_ints];rfl
theorem y0u:OpS (fun x y H Q=>∃ p,y = .ref p∧∃ xs,H p=some (.lst xs)∧z4f x=true∧xs.all z4f=true∧Q (.bl (!inV x xs)) H) fNotInI:=by
 intro io H0 F0 F δ σ H x y v u Q Qd I px py q k
 obtain ⟨s,ks,rfl,rfl,q⟩:=q
 obtain ⟨b,us,rfl,h2,r2⟩:=py.lst I
 cases px.int
 cases r2.ints
 refine ⟨b,rfl,_,h2,rfl,flat_ints ks,k false _ _ F H (Same.refl _) (I.pushF ?_) q⟩
 rw [inV_ints];rfl
section
variable {Q2:Bool→D→Prop}{x:Int}{ks:List Int}
end
end VL
namespace L2
open PySem
end L2
namespace L2
open PySem PyProof.Rows
section
variable {X:Cx}{pos:Pos}
end
end L2
namespace VL
open PySem L2
section
variable {X:Cx}{pos:Pos}
end
end VL
namespace L2
open PySem PySem.Spec PyProof.Rows PySem.W
end L2
namespace VL
open PySem L2
section
variable {X:Cx}
def z9k:Nat→List D→List D
 |_,[]=>[]
 |n,x::xs=>.tup [.int (n:Int),x]::z9k (n+1) xs
theorem enumD_len:∀ (xs:List D) (n:Nat),(z9k n xs).length=xs.length
 | [],_=>rfl
 |_::xs,n=>by rw [z9k,List.length_cons,List.length_cons,enumD_len xs]
theorem enumD_get:∀ (xs:List D) (n i:Nat) (d:D),(z9k n xs)[i]? = some d→∃ x,xs[i]? = some x∧d = .tup [.int ((n+i:Nat):Int),x]
 | [],n,i,d,h=>by simp [z9k] at h
 |x::xs,n,0,d,h=>by simp [z9k] at h;exact ⟨x,rfl,h.symm⟩
 |x::xs,n,i+1,d,h=>by
  obtain ⟨y,e1,e2⟩:=enumD_get xs (n+1) i d (by simpa [z9k] using h)
  exact ⟨y,by simpa using e1,by rw [e2];congr 3;congr 1;omega⟩
def diEnum (u:TLd):TLd:=fun δ Q=>u δ fun ds δ'=>∃ xs,ds=[.lst xs]∧Q (z9k 0 xs) δ'
theorem itOk_enum {F:Hp}{a:Addr}{vs:List V}{xs:List D}(ha:F a=some (.lst vs)) (ra:Reps F xs vs):ItOk (Itn a) F (z9k 0 xs):=by
 intro io H0 F0 F' δ σ H' sf I i
 have hA:H' a=some (.lst vs):=I.sub _ _ (sf _ _ ha)
 refine ⟨fun d e=>?_,fun e=>?_⟩
 ·obtain ⟨x,ex,rfl⟩:=enumD_get _ _ _ _ e
  obtain ⟨v,ev,rv⟩:=ra.get ex
  refine ⟨⟨vs,v,hA,ev⟩,fun z H'' yl=>?_⟩
  obtain ⟨t,rfl,ht,yl⟩:=yl
  obtain ⟨v',ev',rfl⟩:=yl vs hA
  rw [ev] at ev';cases ev'
  obtain ⟨F2,s2,I2,r2⟩:=I.newT (ds:=[.int ((0+i:Nat):Int),x]) (vs:=[.int (i:Int),v]) ht ⟨_,_,rfl,(by rw [Nat.zero_add];rfl),_,_,rfl,Rep.mono sf _ _ rv,rfl⟩
  exact ⟨F2,s2,I2,r2⟩
 ·refine ⟨vs,hA,?_⟩
  have l1:=ra.len
  rw [enumD_len] at e
  rw [List.getElem?_eq_none_iff]
  omega
theorem di_enum {elts:List Expr}{x1:Nat}{pt:Pos}{e1:Expr}{u:TLd}{p pos:Pos}(hg:Gl X "enumerate") (hm:X.mg "enumerate" = none) (ha:DL X [e1] u) (hs:starEach [e1] X.env=(false,eval e1 X.env)::starEach [] X.env:=by rfl) (hpl:(backTo pos (starEach [] X.env)).any (·.1)=false:=by rfl) :
  DI X (.Tuple elts x1 pt) (.Call (.Name "enumerate" p) [e1] [] pos) (diEnum u):=by
 obtain ⟨t,p,s⟩:=ha
 refine ⟨_,pi_enum hg hm p hs hpl,fun io H0 F0 F δ σ H R Qd I q k=>s io H0 F0 F δ σ H _ _ I q fun ds vs δ' F' H' sf I' r q'=>?_⟩
 obtain ⟨xs,rfl,q'⟩:=q'
 obtain ⟨v,rfl,a,us,rfl,h1,r1⟩:=r.one_inv
 exact ⟨a,rfl,us,I'.sub _ _ h1,k _ _ δ' F' H' sf I' (itOk_enum h1 r1) q'⟩
def dLenSet (t:TEd):TEd:=fun δ Q=>t δ fun _ d δ'=>∃ ks:List Str,d = .lst (ks.map .str)∧ks.length≤4000∧Q false (.int (metS (fun i=>ks.getD i "") ks.length).length) δ'
theorem de_lenSet {e:Expr}{t:TEd}{p p2 p3 p4:Pos}(hc:X.calm=true) (gl:Gl X "len") (ml:X.mg "len" = none) (gs:Gl X "set") (ms:X.mg "set" = none) (he:DE X e t)
  (s2:starEach [e] X.env=(false,eval e X.env)::starEach [] X.env:=by rfl) (n2:(backTo p3 (starEach [] X.env)).any (·.1)=false:=by rfl)
  (s1:starEach [.Call (.Name "set" p2) [e] [] p3] X.env=(false,eval (.Call (.Name "set" p2) [e] [] p3) X.env)::starEach [] X.env:=by rfl) (n1:(backTo p4 (starEach [] X.env)).any (·.1)=false:=by rfl) :
  DE X (.Call (.Name "len" p) [.Call (.Name "set" p2) [e] [] p3] [] p4) (dLenSet t):=by
 obtain ⟨t1,q1,s⟩:=he
 refine ⟨_,pe_lenSet hc gl ml gs ms q1 s2 n2 s1 n1,fun io H0 F0 F δ σ H Q Qd I q k=>s.fz I q fun d v δ1 F1 H1 f1 I1 r1 q1=>?_⟩
 obtain ⟨ks,rfl,hl,q2⟩:=q1
 obtain ⟨a,vs,rfl,h1,r⟩:=r1
 have ev:vs=ks.map V.str:=by
  clear hl q2 h1 q
  induction ks generalizing vs with
  |nil=>exact r
  |cons z ks ih =>
   obtain ⟨v,r',rfl,e1,e2⟩:=r
   cases (show v = .str z from e1)
   rw [ih _ e2];rfl
 subst ev
 exact ⟨a,ks,rfl,I1.sub _ _ h1,hl,k false _ _ δ1 F1 H1 f1 I1.pI q2⟩
def dSlR (t:TEd):TEd:=fun δ Q=>t δ fun _ d δ'=>∃ xs,d = .lst xs∧Q true (.lst xs.reverse) δ'
theorem de_sliceR {e:Expr}{t:TEd}{k1:Nat}{p1 p0 p2 pos:Pos}(he:DE X e t):DE X (.Subscript e (.Slice none none (some (.UnaryOp .USub (.Constant (.int 1) k1 p1) p0)) p2) pos) (dSlR t):=by
 obtain ⟨t1,q1,s⟩:=he
 refine ⟨_,pe_sliceR q1,fun io H0 F0 F δ σ H Q Qd I q k=>s.fz I q fun d v δ1 F1 H1 f1 I1 r1 q1=>?_⟩
 obtain ⟨xs,rfl,q2⟩:=q1
 obtain ⟨a,vs,rfl,h1,r⟩:=r1
 exact ⟨a,rfl,vs,I1.sub _ _ h1,fun p hp=>k true _ _ δ1 F1 _ f1 (I1.newL hp r.rev) q2⟩
def fMax2:List D→(Bool→D→Prop)→Prop:=fun ds Q=>∃ i j,ds=[.int i,.int j]∧Q false (.int (if j > i then j else i))
theorem cs_max2:z7a (fun xs H Q=>∃ i j,xs=[.int i,.int j]∧Q (.int (if j > i then j else i)) H) fMax2:=by
 intro io H0 F0 F δ σ H xs vs Q Qd I px q k
 obtain ⟨i,j,rfl,q⟩:=q
 obtain ⟨v,u,rfl,p1,p2⟩:=pks2 px
 cases p1.int
 cases p2.int
 exact ⟨i,j,rfl,k false _ _ F H (Same.refl _) I.pI q⟩
end
end VL
namespace VL
open PySem L2
inductive A2 where
 |v (d:D)|o1|o2
def A2.one:A2→Bool
 |.o1=>true
 |_=>false
def A2.two:A2→Bool
 |.o2=>true
 |_=>false
abbrev TA2:=List Slot→(List A2→List Slot→Prop)→Prop
def A2Ok (F:Hp) (w1 w2:V):A2→V→Prop
 |.v d,x=>Rep F d x
 |.o1,x=>x=w1
 |.o2,x=>x=w2
def SimA2 (i j:Nat) (te:TA) (td:TA2):Prop:=∀ (io:List (Option Addr)) (H0 F0 F:Hp) (δ:List Slot) (σ:L2.St) (H:Hp) (w1 w2:V) (Q:List V→Hp→Prop) (Qd:List A2→List Slot→Prop),EI io H0 F0 F δ σ H→σ[i]? = some (some w1)→σ[j]? = some (some w2)→td δ Qd →
 (∀ os vs δ' F' H',Same F F'→EI io H0 F0 F' δ' σ H'→Paired (A2Ok F' w1 w2) os vs→Qd os δ'→Q vs H')→te σ H Q
def DA2 (X:Cx) (i j:Nat) (es:List Expr) (td:TA2):Prop:=∃ te,PA X es te∧SimA2 i j te td
def d2Nil:TA2:=fun δ Q=>Q [] δ
def d2V (t:TEd) (u:TA2):TA2:=fun δ Q=>t δ fun _ d δ'=>u δ' fun os δ''=>Q (.v d::os) δ''
def d2O1 (u:TA2):TA2:=fun δ Q=>u δ fun os δ''=>Q (.o1::os) δ''
def d2O2 (u:TA2):TA2:=fun δ Q=>u δ fun os δ''=>Q (.o2::os) δ''
section
variable {X:Cx}{i j:Nat}{a:Expr}{es:List Expr}{da:TEd}{u:TA2}
theorem d2_nil:DA2 X i j [] d2Nil:=⟨_,z1g,fun io H0 F0 F δ σ H w1 w2 Q Qd I h1 h2 q k=>k [] [] δ F H (Same.refl _) I .nil q⟩
theorem d2_v (ha:DE X a da) (hr:DA2 X i j es u) (hs:starEach (a::es) X.env=(false,eval a X.env)::starEach es X.env:=by rfl):DA2 X i j (a::es) (d2V da u):=by
 obtain ⟨ta,pa,sa⟩:=ha;obtain ⟨tr,pr,sr⟩:=hr
 refine ⟨_,z0k pa pr hs,fun io H0 F0 F δ σ H w1 w2 Q Qd I h1 h2 q k=>sa.fz I q fun d v δ' F' H' sf I' r q'=>sr io H0 F0 F' δ' σ H' w1 w2 _ _ I' h1 h2 q' fun ds vs δ2 F2 H2 s2 I2 r2 q2=>?_⟩
 exact k (.v d::ds) (v::vs) δ2 F2 H2 (sf.trans s2) I2 (.cons (show Rep F2 d v from Rep.mono s2 _ _ r) r2) q2
theorem d2_o1 {x:Str}{p:Pos}(ha:PE X (.Name x p) (tVar i)) (hr:DA2 X i j es u) (hs:starEach (.Name x p::es) X.env=(false,eval (.Name x p) X.env)::starEach es X.env:=by rfl):DA2 X i j (.Name x p::es) (d2O1 u):=by
 obtain ⟨tr,pr,sr⟩:=hr
 refine ⟨_,z0k ha pr hs,fun io H0 F0 F δ σ H w1 w2 Q Qd I h1 h2 q k=>⟨w1,h1,sr io H0 F0 F δ σ H w1 w2 _ _ I h1 h2 q fun ds vs δ2 F2 H2 s2 I2 r2 q2=>?_⟩⟩
 exact k (.o1::ds) (w1::vs) δ2 F2 H2 s2 I2 (.cons rfl r2) q2
theorem d2_o2 {x:Str}{p:Pos}(ha:PE X (.Name x p) (tVar j)) (hr:DA2 X i j es u) (hs:starEach (.Name x p::es) X.env=(false,eval (.Name x p) X.env)::starEach es X.env:=by rfl):DA2 X i j (.Name x p::es) (d2O2 u):=by
 obtain ⟨tr,pr,sr⟩:=hr
 refine ⟨_,z0k ha pr hs,fun io H0 F0 F δ σ H w1 w2 Q Qd I h1 h2 q k=>⟨w2,h2,sr io H0 F0 F δ σ H w1 w2 _ _ I h1 h2 q fun ds vs δ2 F2 H2 s2 I2 r2 q2=>?_⟩⟩
 exact k (.o2::ds) (w2::vs) δ2 F2 H2 s2 I2 (.cons rfl r2) q2
end
def y2l (c1 c2:D):A2→Slot
 |.v d=>.fz d
 |.o1=>.ob true c1
 |.o2=>.ob true c2
def a2Adr (a1 a2:Addr):A2→Option Addr
 |.v _=>none
 |.o1=>some a1
 |.o2=>some a2
def z8u (f:A2→Bool):List A2→List Slot→Option D
 |o::os,s::δ=>if f o then (match s with | .ob true c=>some c|_=>none) else z8u f os δ
 |_,_=>none
theorem y0z {f:A2→Bool}:∀ {os:List A2}{δ:List Slot}{c:D},z8u f os δ=some c→∃ (p:Nat) (o:A2),os[p]? = some o∧f o=true∧δ[p]? = some (Slot.ob true c)
 | [],δ,c,h=>by cases δ <;> cases h
 |o::os,[],c,h=>by cases h
 |o::os,s::δ,c,h=>by
  unfold z8u at h
  by_cases hf:f o=true
  ·rw [if_pos hf] at h
   cases s with
   |ob b c' =>
    cases b with
    |true=>cases h;exact ⟨0,o,rfl,hf,rfl⟩
    |false=>cases h
   |_=>cases h
  ·rw [if_neg hf] at h
   obtain ⟨p,o',e1,e2,e3⟩:=y0z h
   exact ⟨p+1,o',by simpa using e1,e2,by simpa using e3⟩
theorem one_only {α:Type}{f:α→Bool}:∀ {os:List α}{p q:Nat}{x y:α},(os.filter f).length=1→os[p]? = some x→f x=true→os[q]? = some y→f y=true→p=q
 | [],p,q,x,y,h,e1,_,_,_=>by simp at e1
 |o::os,p,q,x,y,h,e1,f1,e2,f2=>by
  by_cases hf:f o=true
  ·rw [List.filter_cons_of_pos hf,List.length_cons] at h
   have nil:os.filter f=[]:=List.length_eq_zero_iff.mp (by omega)
   have no:∀ (k:Nat) (z:α),os[k]? = some z→f z≠true:=fun k z e fz=>by
    have:z∈os.filter f:=List.mem_filter.mpr ⟨List.mem_of_getElem? e,fz⟩
    rw [nil] at this;cases this
   cases p with
   |zero =>
    cases q with
    |zero=>rfl
    |succ q=>exact absurd f2 (no q y (by simpa using e2))
   |succ p=>exact absurd f1 (no p x (by simpa using e1))
  ·rw [List.filter_cons_of_neg hf] at h
   cases p with
   |zero=>simp at e1;subst e1;exact absurd f1 hf
   |succ p =>
    cases q with
    |zero=>simp at e2;subst e2;exact absurd f2 hf
    |succ q=>exact congrArg (· + 1) (one_only h (by simpa using e1) f1 (by simpa using e2) f2)
theorem A2.one_eq {o:A2}(h:o.one=true):o = .o1:=by cases o <;> first|rfl|cases h
theorem A2.two_eq {o:A2}(h:o.two=true):o = .o2:=by cases o <;> first|rfl|cases h
def dCallIO2 (R:RD) (i j:Nat) (u:TA2):TEd:=fun δ Q=>(peek δ i).isSome=true∧(peek δ j).isSome=true∧u δ fun os δ'=>∃ f1 c1 f2 c2,δ'[i]? = some (.ob f1 c1)∧δ'[j]? = some (.ob f2 c2)∧i≠j∧(os.filter A2.one).length=1∧(os.filter A2.two).length=1 ∧
 hold R (fun b d δ2=>∃ c1' c2',z8u A2.one os δ2=some c1'∧z8u A2.two os δ2=some c2'∧Q b d ((δ'.set i (.ob f1 c1')).set j (.ob f2 c2'))) .mk (os.map (y2l c1 c2))
theorem y2o {R:RD}{i j:Nat}{E:XK}{io:List (Option Addr)}{H0 F0 F F':Hp}{δ':List Slot}{σ:L2.St}{H':Hp}{w1 w2:V}{os:List A2}{vs:List V}{Q:VK}{Qd:Bool→D→List Slot→Prop}(sf:Same F F') (I':EI io H0 F0 F' δ' σ H') (ew1:σ[i]? = some (some w1)) (ew2:σ[j]? = some (some w2)) (r:Paired (A2Ok F' w1 w2) os vs)
  (q':∃ f1 c1 f2 c2,δ'[i]? = some (.ob f1 c1)∧δ'[j]? = some (.ob f2 c2)∧i≠j∧(os.filter A2.one).length=1∧(os.filter A2.two).length=1 ∧
   R (os.map (y2l c1 c2)) fun b d δ2=>∃ c1' c2',z8u A2.one os δ2=some c1'∧z8u A2.two os δ2=some c2'∧Qd b d ((δ'.set i (.ob f1 c1')).set j (.ob f2 c2')))
  (k:∀ b d v δ2 F2 H2,Same F F2→EI (none::io) H0 F0 F2 (rsl b d::δ2) (some v::σ) H2→Qd b d δ2→Q v H2):spD R (vs ++ []) H' Q E:=by
 obtain ⟨f1,c1,f2,c2,ec1,ec2,ne,o1,o2,q'⟩:=q'
 obtain ⟨a1,ea1,n11,n12,hc1,hio1⟩:=I'.get i _ ec1
 obtain ⟨a2,ea2,n21,n22,hc2,hio2⟩:=I'.get j _ ec2
 have z1:=z2b ea1
 rw [ew1] at z1;cases z1
 have z2:=z2b ea2
 rw [ew2] at z2;cases z2
 have hne:a1≠a2:=fun z=>I'.apart i j _ _ _ _ a1 ne ec1 ec2 ea1 (by rw [z];exact ea2)
 rw [List.append_nil]
 have lenE:os.length=vs.length:=Paired.length r
 have xNe:∀ b,b≠a1→b≠a2→(fun b=>if b=a1∨b=a2 then none else H' b:Hp) b=H' b:=fun b h1 h2=>if_neg (by rintro (h|h);exact h1 h;exact h2 h)
 have xA1:(fun b=>if b=a1∨b=a2 then none else H' b:Hp) a1=none:=if_pos (.inl rfl)
 have xA2:(fun b=>if b=a1∨b=a2 then none else H' b:Hp) a2=none:=if_pos (.inr rfl)
 generalize (fun b=>if b=a1∨b=a2 then none else H' b:Hp)=Hx at xNe xA1 xA2
 have xSub:Same Hx H':=fun b o eb=>by
  by_cases h1:b=a1
  ·rw [h1,xA1] at eb;cases eb
  ·by_cases h2:b=a2
   ·rw [h2,xA2] at eb;cases eb
   ·rw [xNe b h1 h2] at eb;exact eb
 refine ⟨Hx,os.map (a2Adr a1 a2),F',os.map (y2l c1 c2),_,fun p b ep=>?_,⟨xSub,I'.sub,Same.refl _,fun b o eb hb=>?_,by simp [lenE],fun p t ej=>?_,fun p l b1 x1 b2 x2 a' np g1 g2 g3 g4=>?_⟩,q',fun b d v δ2 F2 H2 C q2=>?_⟩
 ·rw [List.getD_eq_getElem?_getD,List.getElem?_map] at ep
  cases eo:os[p]? with
  |none=>rw [eo] at ep;cases ep
  |some o =>
   rw [eo] at ep
   obtain ⟨v,ev,rv⟩:=Paired.getE r eo
   cases o with
   |v d=>cases ep
   |o1=>cases ep;cases (show v = .ref _ from rv);exact ev
   |o2=>cases ep;cases (show v = .ref _ from rv);exact ev
 ·rw [hb] at eb;cases eb
 ·rw [List.getElem?_map] at ej
  cases eo:os[p]? with
  |none=>rw [eo] at ej;cases ej
  |some o =>
   rw [eo] at ej
   cases ej
   obtain ⟨v,ev,rv⟩:=Paired.getE r eo
   cases o with
   |v d=>exact ⟨v,by simp [List.getD_eq_getElem?_getD,ev],rv⟩
   |o1=>cases (show v = .ref a1 from rv);exact ⟨a1,by simp [List.getD_eq_getElem?_getD,ev],xA1,n12,hc1,fun _=>by simp [List.getD_eq_getElem?_getD,eo,a2Adr]⟩
   |o2=>cases (show v = .ref a2 from rv);exact ⟨a2,by simp [List.getD_eq_getElem?_getD,ev],xA2,n22,hc2,fun _=>by simp [List.getD_eq_getElem?_getD,eo,a2Adr]⟩
 ·have key:∀ {p:Nat}{b:Bool}{x:D}{a:Addr},(os.map (y2l c1 c2))[p]? = some (.ob b x)→(vs.map some).getD p none=some (.ref a)→(os[p]? = some .o1∧a=a1)∨(os[p]? = some .o2∧a=a2):=fun {p b x a} g g'=>by
   rw [List.getElem?_map] at g
   cases eo:os[p]? with
   |none=>rw [eo] at g;cases g
   |some o =>
    rw [eo] at g
    obtain ⟨v,ev,rv⟩:=Paired.getE r eo
    have g'':v = .ref a:=by simpa [List.getD_eq_getElem?_getD,ev] using g'
    cases o with
    |v d=>cases g
    |o1=>cases (show v = .ref a1 from rv);cases g'';exact .inl ⟨rfl,rfl⟩
    |o2=>cases (show v = .ref a2 from rv);cases g'';exact .inr ⟨rfl,rfl⟩
  rcases key g1 g3 with ⟨y1,y2⟩|⟨y1,y2⟩ <;> rcases key g2 g4 with ⟨y3,y4⟩|⟨y3,y4⟩
  ·exact np (one_only o1 y1 rfl y3 rfl)
  ·exact hne (y2.symm.trans y4)
  ·exact hne (y4.symm.trans y2)
  ·exact np (one_only o2 y1 rfl y3 rfl)
 ·obtain ⟨c1',c2',eo1,eo2,q2⟩:=q2
  obtain ⟨p1,x1,ep1,fx1,es1⟩:=y0z eo1
  cases A2.one_eq fx1
  obtain ⟨p2,x2,ep2,fx2,es2⟩:=y0z eo2
  cases A2.two_eq fx2
  obtain ⟨b1,eb1,m11,m12,k1,kio1⟩:=C.get (p1+1) _ (by simpa using es1)
  obtain ⟨b2,eb2,m21,m22,k2,kio2⟩:=C.get (p2+1) _ (by simpa using es2)
  have eqb1:b1=a1:=by
   have h1:=kio1 rfl
   simp only [List.getD_cons_succ] at h1
   rw [List.getD_eq_getElem?_getD,List.getElem?_map,ep1] at h1
   cases h1;rfl
  have eqb2:b2=a2:=by
   have h1:=kio2 rfl
   simp only [List.getD_cons_succ] at h1
   rw [List.getD_eq_getElem?_getD,List.getElem?_map,ep2] at h1
   cases h1;rfl
  subst eqb1 eqb2
  have hnew:∀ b o,F2 b=some o→F' b=none→H' b=none∨b=b1∨b=b2:=fun b o g1 g2=>by
   by_cases h1:b=b1
   ·exact .inr (.inl h1)
   ·by_cases h2:b=b2
    ·exact .inr (.inr h2)
    ·have:=C.new b o g1 g2
     rw [xNe b h1 h2] at this
     exact .inl this
  have oth1:∀ l y z a3,l≠i→δ'[l]? = some (.ob y z)→σ.getD l none=some (.ref a3)→a3≠b1:=fun l y z a3 hl g1 g2 e=>I'.apart l i _ _ _ _ b1 hl g1 ec1 (by rw [g2,e]) ea1
  have oth2:∀ l y z a3,l≠j→δ'[l]? = some (.ob y z)→σ.getD l none=some (.ref a3)→a3≠b2:=fun l y z a3 hl g1 g2 e=>I'.apart l j _ _ _ _ b2 hl g1 ec2 (by rw [g2,e]) ea2
  have keepH:∀ b o,b≠b1→b≠b2→H' b=some o→H2 b=some o:=fun b o h1 h2 e=>C.base b o (by rw [xNe b h1 h2];exact e)
  have isOb:∀ {l:Nat}{y:Bool}{z:D},((δ'.set i (.ob f1 c1')).set j (.ob f2 c2'))[l]? = some (Slot.ob y z)→∃ y2 z2,δ'[l]? = some (Slot.ob y2 z2):=fun {l y z} h=>by
   rw [List.getElem?_set] at h
   split at h
   ·rename_i e;subst e;exact ⟨_,_,ec2⟩
   ·rw [List.getElem?_set] at h
    split at h
    ·rename_i e;subst e;exact ⟨_,_,ec1⟩
    ·exact ⟨_,_,h⟩
  have J:EI io H0 F0 F2 ((δ'.set i (.ob f1 c1')).set j (.ob f2 c2')) σ H2:=by
   refine ⟨fun b o eb=>?_,C.sub,I'.ext.trans C.ext,fun b o e h=>?_,by simpa using I'.len,fun l t el=>?_,fun l m y1 z1 y2 z2 a' nl g1 g2 g3 g4=>?_⟩
   ·exact keepH b o (fun z=>by rw [z,n11] at eb;cases eb) (fun z=>by rw [z,n21] at eb;cases eb) (I'.base b o eb)
   ·cases q:F' b with
    |some u=>exact I'.new b u q h
    |none =>
     rcases hnew b o e q with z|z|z
     ·exact I'.base.free z
     ·rw [z];exact n11
     ·rw [z];exact n21
   ·rw [List.getElem?_set] at el
    split at el
    ·rename_i e;subst e
     split at el
     ·cases el;exact ⟨b2,ea2,n21,m22,k2,hio2⟩
     ·cases el
    ·rename_i hj
     rw [List.getElem?_set] at el
     split at el
     ·rename_i e;subst e
      split at el
      ·cases el;exact ⟨b1,ea1,n11,m12,k1,hio1⟩
      ·cases el
     ·rename_i hi
      refine (I'.get l t el).mono C.ext fun a3 b3 c3 es eo=>?_
      subst es
      obtain ⟨a4,g1,h1,h2,h3,h4⟩:=I'.get l _ el
      rw [eo] at g1;cases g1
      have x1:=oth1 l _ _ _ (fun z=>hi z.symm) el eo
      have x2:=oth2 l _ _ _ (fun z=>hj z.symm) el eo
      refine ⟨?_,fun u hu=>keepH _ _ x1 x2 hu⟩
      cases q:F2 a3 with
      |none=>rfl
      |some o =>
       rcases hnew a3 o q h2 with z|z|z
       ·obtain ⟨u,hu⟩:=h3.some
        rw [z] at hu;cases hu
       ·exact absurd z x1
       ·exact absurd z x2
   ·obtain ⟨_,_,q1⟩:=isOb g1
    obtain ⟨_,_,q2⟩:=isOb g2
    exact I'.apart l m _ _ _ _ a' nl q1 q2 g3 g4
  refine k b d v _ F2 H2 (sf.trans C.ext) (J.push ?_ fun b' c3 a3 es ev l y z el eo=>?_) q2
  ·have h0:=C.get 0 _ rfl
   cases b with
   |false=>obtain ⟨v',e,r⟩:=h0;simp at e;subst e;exact ⟨v,rfl,r⟩
   |true =>
    obtain ⟨a3,e,h1,h2,h3,h4⟩:=h0
    simp at e;subst e
    refine ⟨a3,rfl,?_,h2,h3,fun z=>by cases z⟩
    by_cases g1:a3=b1
    ·rw [g1];exact n11
    ·by_cases g2:a3=b2
     ·rw [g2];exact n21
     ·rw [xNe a3 g1 g2] at h1;exact I'.base.free h1
  ·subst ev
   have h0:=C.get 0 _ rfl
   cases b with
   |false=>cases es
   |true =>
    obtain ⟨a5,e5,h5,_⟩:=h0
    simp at e5;subst e5
    rw [List.getElem?_set] at el
    split at el
    ·rename_i e;subst e
     rw [ea2] at eo;cases eo
     exact C.apart 0 (p2+1) false d true c2' _ (by omega) rfl (by simpa using es2) rfl eb2
    ·rename_i hj
     rw [List.getElem?_set] at el
     split at el
     ·rename_i e;subst e
      rw [ea1] at eo;cases eo
      exact C.apart 0 (p1+1) false d true c1' _ (by omega) rfl (by simpa using es1) rfl eb1
     ·rename_i hi
      have x1:=oth1 l _ _ _ (fun z=>hi z.symm) el eo
      have x2:=oth2 l _ _ _ (fun z=>hj z.symm) el eo
      rw [xNe _ x1 x2] at h5
      obtain ⟨a4,g1,h1,h2,h3,h4⟩:=I'.get l _ el
      rw [eo] at g1;cases g1
      obtain ⟨u,hu⟩:=h3.some
      rw [h5] at hu;cases hu
theorem sim_callIO2 {R:RD}{i j:Nat}{t:TA}{u:TA2}{E:XK}(s:SimA2 i j t u):Sim (y1x (spD R) [] E t) (dCallIO2 R i j u):=fun io H0 F0 F δ σ H Q Qd I q k=>by
 obtain ⟨p1,p2,q⟩:=q
 obtain ⟨d1,e1⟩:=Option.isSome_iff_exists.mp p1
 obtain ⟨d2,e2⟩:=Option.isSome_iff_exists.mp p2
 obtain ⟨w1,ew1,_⟩:=I.pk e1
 obtain ⟨w2,ew2,_⟩:=I.pk e2
 exact s io H0 F0 F δ σ H w1 w2 _ _ I ew1 ew2 q fun os vs δ' F' H' sf I' r q'=>y2o sf I' ew1 ew2 r q' k
abbrev TAT:=List Slot→(List A2→D→List Slot→Prop)→Prop
def SimAT (i:Nat) (te:TA) (td:TAT):Prop:=∀ (io:List (Option Addr)) (H0 F0 F:Hp) (δ:List Slot) (σ:L2.St) (H:Hp) (w1:V) (Q:List V→Hp→Prop) (Qd:List A2→D→List Slot→Prop),EI io H0 F0 F δ σ H→σ[i]? = some (some w1)→td δ Qd →
 (∀ os vs δ' F' H' a2 c2,Same F F'→EI (none::io) H0 F0 F' (.ob false c2::δ') (some (.ref a2)::σ) H'→Paired (A2Ok F' w1 (.ref a2)) os vs→Qd os c2 δ'→Q vs H')→te σ H Q
def DAT (X:Cx) (i:Nat) (es:List Expr) (td:TAT):Prop:=∃ te,PA X es te∧SimAT i te td
def dTEnd (t:TEd) (n:Int):TAT:=fun δ Q=>t δ fun b d δ'=>b=true∧Q [.o2,.v (.int n)] d δ'
def dTV (t:TEd) (u:TAT):TAT:=fun δ Q=>t δ fun _ d δ'=>u δ' fun os c δ''=>Q (.v d::os) c δ''
def dTO1 (u:TAT):TAT:=fun δ Q=>u δ fun os c δ''=>Q (.o1::os) c δ''
section
variable {X:Cx}{i:Nat}{a:Expr}{es:List Expr}{da:TEd}{u:TAT}
theorem dT_end {n:Int}{k1:Nat}{p1:Pos}(ha:DE X a da) (hs:starEach [a,.Constant (.int n) k1 p1] X.env=(false,eval a X.env)::starEach [.Constant (.int n) k1 p1] X.env:=by rfl) (hs2:starEach [.Constant (.int n) k1 p1] X.env=(false,eval (.Constant (.int n) k1 p1) X.env)::starEach [] X.env:=by rfl):DAT X i [a,.Constant (.int n) k1 p1] (dTEnd da n):=by
 obtain ⟨ta,pa,sa⟩:=ha
 refine ⟨_,z0k pa (z0k z3j z1g hs2) hs,fun io H0 F0 F δ σ H w1 Q Qd I h1 q k=>sa io H0 F0 F δ σ H _ _ I q fun b d v δ' F' H' sf I' q'=>?_⟩
 obtain ⟨rfl,q'⟩:=q'
 obtain ⟨a2,e,_⟩:=I'.get 0 _ rfl
 simp at e
 subst e
 exact k [.o2,.v (.int n)] _ δ' F' H' a2 d sf I' (.cons rfl (.cons rfl .nil)) q'
theorem dT_v (ha:DE X a da) (hr:DAT X i es u) (hs:starEach (a::es) X.env=(false,eval a X.env)::starEach es X.env:=by rfl):DAT X i (a::es) (dTV da u):=by
 obtain ⟨ta,pa,sa⟩:=ha;obtain ⟨tr,pr,sr⟩:=hr
 refine ⟨_,z0k pa pr hs,fun io H0 F0 F δ σ H w1 Q Qd I h1 q k=>sa.fz I q fun d v δ' F' H' sf I' r q'=>sr io H0 F0 F' δ' σ H' w1 _ _ I' h1 q' fun ds vs δ2 F2 H2 a2 c2 s2 I2 r2 q2=>?_⟩
 exact k (.v d::ds) (v::vs) δ2 F2 H2 a2 c2 (sf.trans s2) I2 (.cons (show Rep F2 d v from Rep.mono s2 _ _ r) r2) q2
theorem dT_o1 {x:Str}{p:Pos}(ha:PE X (.Name x p) (tVar i)) (hr:DAT X i es u) (hs:starEach (.Name x p::es) X.env=(false,eval (.Name x p) X.env)::starEach es X.env:=by rfl):DAT X i (.Name x p::es) (dTO1 u):=by
 obtain ⟨tr,pr,sr⟩:=hr
 refine ⟨_,z0k ha pr hs,fun io H0 F0 F δ σ H w1 Q Qd I h1 q k=>⟨w1,h1,sr io H0 F0 F δ σ H w1 _ _ I h1 q fun ds vs δ2 F2 H2 a2 c2 s2 I2 r2 q2=>?_⟩⟩
 exact k (.o1::ds) (w1::vs) δ2 F2 H2 a2 c2 s2 I2 (.cons rfl r2) q2
end
theorem EI.drop1 {x y:Option Addr}{io:List (Option Addr)}{H0 F0 F H:Hp}{s t:Slot}{δ:List Slot}{o p:Option V}{σ:L2.St}(I:EI (x::y::io) H0 F0 F (s::t::δ) (o::p::σ) H):EI (x::io) H0 F0 F (s::δ) (o::σ) H:=by
 have ix:∀ l:Nat,∃ m:Nat,(s::δ)[l]? = (s::t::δ)[m]?∧(o::σ).getD l none=(o::p::σ).getD m none∧(x::io).getD l none=(x::y::io).getD m none∧m=if l=0 then 0 else l+1:=fun l=>by
  cases l with
  |zero=>exact ⟨0,rfl,rfl,rfl,rfl⟩
  |succ l=>exact ⟨l+2,rfl,rfl,rfl,rfl⟩
 refine ⟨I.base,I.sub,I.ext,I.new,by simpa using I.len,fun l u e=>?_,fun l m b c b' c' a ne e1 e2 e3 e4=>?_⟩
 ·obtain ⟨m,g1,g2,g3,_⟩:=ix l
  rw [g1] at e
  rw [g2,g3]
  exact I.get m u e
 ·obtain ⟨l',g1,g2,_,g4⟩:=ix l
  obtain ⟨m',k1,k2,_,k4⟩:=ix m
  rw [g1] at e1;rw [k1] at e2;rw [g2] at e3;rw [k2] at e4
  refine I.apart l' m' b c b' c' a (fun z=>ne ?_) e1 e2 e3 e4
  rw [g4,k4] at z
  split at z <;> split at z <;> omega
def dCallT (R:RD) (i:Nat) (u:TAT):TEd:=fun δ Q=>(peek δ i).isSome=true∧u δ fun os c2 δ'=>∃ f1 c1,δ'[i]? = some (.ob f1 c1)∧(os.filter A2.one).length=1∧(os.filter A2.two).length=1 ∧
 hold R (fun b d δ2=>∃ c1' c2',z8u A2.one os δ2=some c1'∧z8u A2.two os δ2=some c2'∧Q b d (δ'.set i (.ob f1 c1'))) .mk (os.map (y2l c1 c2))
theorem sim_callT {R:RD}{i:Nat}{t:TA}{u:TAT}{E:XK}(s:SimAT i t u):Sim (y1x (spD R) [] E t) (dCallT R i u):=fun io H0 F0 F δ σ H Q Qd I q k=>by
 obtain ⟨p1,q⟩:=q
 obtain ⟨d1,e1⟩:=Option.isSome_iff_exists.mp p1
 obtain ⟨w1,ew1,_⟩:=I.pk e1
 refine s io H0 F0 F δ σ H w1 _ _ I ew1 q fun os vs δ' F' H' a2 c2 sf I' r q'=>?_
 obtain ⟨f1,c1,ec1,o1,o2,q'⟩:=q'
 refine y2o (i:=i+1) (j:=0) (Qd:=fun b d δ2=>∃ s2 δ3,δ2=s2::δ3∧Qd b d δ3) sf I' (by simpa using ew1) rfl r ⟨f1,c1,false,c2,by simpa using ec1,rfl,by omega,o1,o2,?_⟩ fun b d v δ2 F2 H2 s2 I2 q2=>?_
 ·have e:(fun (b:Bool) (d:D) (δ2:List Slot)=>∃ c1' c2',z8u A2.one os δ2=some c1'∧z8u A2.two os δ2=some c2'∧Qd b d (δ'.set i (.ob f1 c1')))=fun b d δ2=>∃ c1' c2',z8u A2.one os δ2=some c1'∧z8u A2.two os δ2=some c2'∧∃ s2 δ3,(((Slot.ob false c2::δ').set (i+1) (.ob f1 c1')).set 0 (.ob false c2'))=s2::δ3∧Qd b d δ3:=by
   funext b d δ2
   apply propext
   constructor
   ·rintro ⟨c1',c2',g1,g2,g3⟩;exact ⟨c1',c2',g1,g2,_,_,rfl,g3⟩
   ·rintro ⟨c1',c2',g1,g2,s2,δ3,g3,g4⟩;cases g3;exact ⟨c1',c2',g1,g2,g4⟩
  rw [← e]
  exact q'
 ·obtain ⟨s3,δ3,rfl,q2⟩:=q2
  exact k b d v δ3 F2 H2 s2 I2.drop1 q2
section
variable {X:Cx}{CX:CXT}{k:Nat}{f:Addr}{fd:FuncData}{ps:List Str}{R:RD}{E:XK}{x:Str}{p pos:Pos}{e:Expr}{es:List Expr}{i j:Nat}{u:TA2}
theorem de_callIO2 (G:FnOk X.prog X.w X.K X.mg X.base CX k f fd ps (spD R)) (hr:Room k X.A) (hg:Gl X x) (hm:X.mg x=some (.ref f)) (hk:PySem.W.keepIn X.K (.ref f)=true) (hb:Binds X.K fd ps []) (hx:z7x CX X E)
  (ha:DA2 X i j (e::es) u) (hdb:(x == ("__debug__":Str))=false:=by decide) (he:starEach (e::es) X.env=(false,eval e X.env)::starEach es X.env:=by rfl) (hpl:(backTo pos (starEach es X.env)).any (·.1)=false:=by rfl) :
  DE X (.Call (.Name x p) (e::es) [] pos) (dCallIO2 R i j u):=by
 obtain ⟨t,pt,s⟩:=ha
 exact ⟨_,z1t G hr hg hm hk hb .nil hx pt hdb he hpl,sim_callIO2 s⟩
theorem de_callT {uT:TAT}(G:FnOk X.prog X.w X.K X.mg X.base CX k f fd ps (spD R)) (hr:Room k X.A) (hg:Gl X x) (hm:X.mg x=some (.ref f)) (hk:PySem.W.keepIn X.K (.ref f)=true) (hb:Binds X.K fd ps []) (hx:z7x CX X E)
  (ha:DAT X i (e::es) uT) (hdb:(x == ("__debug__":Str))=false:=by decide) (he:starEach (e::es) X.env=(false,eval e X.env)::starEach es X.env:=by rfl) (hpl:(backTo pos (starEach es X.env)).any (·.1)=false:=by rfl) :
  DE X (.Call (.Name x p) (e::es) [] pos) (dCallT R i uT):=by
 obtain ⟨t,pt,s⟩:=ha
 exact ⟨_,z1t G hr hg hm hk hb .nil hx pt hdb he hpl,sim_callT s⟩
end
section
variable {δ:List Slot}{Q:Bool→D→List Slot→Prop}{QL:List D→List Slot→Prop}{Q2:Bool→D→Prop}{QA:List A2→List Slot→Prop}{td:TEd}{ul:TLd}{ua:TA2}{x y:Int}
def lst1K (ds:List D) (k:List D→Prop):Prop:=match ds with | [.lst x]=>k x|_=>False
theorem v_lst1K {x:List D}{k:List D→Prop}:lst1K [.lst x] k=k x:=rfl
theorem v_iEnum:diEnum ul δ QL=ul δ fun ds δ'=>lst1K ds fun xs=>QL (z9k 0 xs) δ':=by
 unfold diEnum
 congr 1
 funext ds δ'
 apply propext
 constructor
 ·rintro ⟨xs,rfl,h⟩;exact h
 ·intro h
  unfold lst1K at h
  split at h
  ·exact ⟨_,rfl,h⟩
  ·exact h.elim
theorem v_lenSet:dLenSet td δ Q=td δ fun _ d δ'=>∃ ks:List Str,d = .lst (ks.map .str)∧ks.length≤4000∧Q false (.int (metS (fun i=>ks.getD i "") ks.length).length) δ':=rfl
theorem v_slR:dSlR td δ Q=td δ fun _ d δ'=>lstK d fun xs=>Q true (.lst xs.reverse) δ':=by unfold dSlR;simp only [y1n]
theorem v_max2:fMax2 [.int x,.int y] Q2=Q2 false (.int (if y > x then y else x)):=by
 apply propext
 constructor
 ·rintro ⟨i,j,e,h⟩;cases e;exact h
 ·exact fun h=>⟨_,_,rfl,h⟩
theorem v_TEnd {n:Int}{QT:List A2→D→List Slot→Prop}:dTEnd td n δ QT=td δ fun b d δ'=>b=true∧QT [.o2,.v (.int n)] d δ':=rfl
theorem v_TV {uT:TAT}{QT:List A2→D→List Slot→Prop}:dTV td uT δ QT=td δ fun _ d δ'=>uT δ' fun os c δ''=>QT (.v d::os) c δ'':=rfl
theorem v_TO1 {uT:TAT}{QT:List A2→D→List Slot→Prop}:dTO1 uT δ QT=uT δ fun os c δ''=>QT (.o1::os) c δ'':=rfl
theorem v_2Nil:d2Nil δ QA=QA [] δ:=rfl
theorem v_2V:d2V td ua δ QA=td δ fun _ d δ'=>ua δ' fun os δ''=>QA (.v d::os) δ'':=rfl
theorem v_2O1:d2O1 ua δ QA=ua δ fun os δ''=>QA (.o1::os) δ'':=rfl
theorem v_2O2:d2O2 ua δ QA=ua δ fun os δ''=>QA (.o2::os) δ'':=rfl
end
end VL
namespace L2
open PySem PySem.Spec PyProof.Rows PySem.SeqAt
section
variable {X:Cx}
theorem op_neLL:OpR X (compareOp .NotEq) (fun x y H Q=>∃ a b c d us vs,x = .ref a∧y = .ref b∧H a=some (.lst [.ref c])∧H b=some (.lst [.ref d])∧H c=some (.lst us)∧H d=some (.lst vs)∧us.length≠vs.length∧X.A.units+2 < cLine∧Q (.bl true) H):=by
 intro pins s σ H x y v u Q I rx ry h
 obtain ⟨a,b,c,d,us,vs,rfl,rfl,ha,hb,hc,hd,hl,hu,q⟩:=h
 cases rx
 cases ry
 obtain ⟨ia,ra,pa,_⟩:=I.list (SqL.of ha)
 obtain ⟨ib,rb,pb,_⟩:=I.list (SqL.of hb)
 obtain ⟨ic,rc,pc,_⟩:=I.list (SqL.of hc)
 obtain ⟨id',rd,pd,_⟩:=I.list (SqL.of hd)
 obtain ⟨va,rfl,ea⟩:=z8j ra
 obtain ⟨vb,rfl,eb⟩:=z8j rb
 cases ea
 cases eb
 have lc:=rc.length
 have ld:=rd.length
 have ne:c≠d:=fun z=>hl (by rw [z,hd] at hc;cases hc;rfl)
 refine PySem.EqBoolInt.of_rcne (k:=true) ?_ ⟨.bl true,H,I,rfl,q⟩
 have:=RcNeAt.lists (A:=X.A) (e:=fun _=>false) pa.isList pb.isList rfl (by omega) fun j h1 h2=>by
  have hj:j=0:=by simp at h1;exact h1
  subst hj
  exact EqAt.of_refs ne (RcAt.lists_lengths pc.isList pd.isList (by simp;omega) (by show X.A.units+1 < cLine;omega))
 exact this
end
end L2
namespace VL
open PySem L2
def fNeF:D→D→(Bool→D→Prop)→Prop:=fun x y Q=>∃ xs,x = .lst xs∧y = .lst [.lst []]∧((xs.length≠1∧Q false (.bl true))∨(xs=[.lst []]∧Q false (.bl false)) ∨ ∃ u us,xs=[.lst (u::us)]∧Q false (.bl true))
theorem op_neF {X:Cx}:OpR X (compareOp .NotEq) (fun x y H Q=>(∃ a b,x = .ref a∧y = .ref b∧∃ xs,H a=some (.lst xs)∧∃ ys,H b=some (.lst ys)∧X.A.units < cLine ∧
  ((xs.length≠ys.length∧Q (.bl true) H)∨(xs.length=ys.length∧(∃ n,(∀ (i:Nat) x y,xs[i]? = some x→ys[i]? = some y→EqT H n x y)∧X.A.units+n+1 < cLine)∧Q (.bl false) H))) ∨
  ∃ a b c d us vs,x = .ref a∧y = .ref b∧H a=some (.lst [.ref c])∧H b=some (.lst [.ref d])∧H c=some (.lst us)∧H d=some (.lst vs)∧us.length≠vs.length∧X.A.units+2 < cLine∧Q (.bl true) H):=by
 intro pins s σ H x y v u Q I rx ry h
 rcases h with h|h
 ·exact y2a pins s σ H x y v u Q I rx ry h
 ·exact op_neLL pins s σ H x y v u Q I rx ry h
theorem os_neF {X:Cx}(hu:X.A.units+100 < cLine):OpS (fun x y H Q=>(∃ a b,x = .ref a∧y = .ref b∧∃ xs,H a=some (.lst xs)∧∃ ys,H b=some (.lst ys)∧X.A.units < cLine ∧
  ((xs.length≠ys.length∧Q (.bl true) H)∨(xs.length=ys.length∧(∃ n,(∀ (i:Nat) x y,xs[i]? = some x→ys[i]? = some y→EqT H n x y)∧X.A.units+n+1 < cLine)∧Q (.bl false) H))) ∨
  ∃ a b c d us vs,x = .ref a∧y = .ref b∧H a=some (.lst [.ref c])∧H b=some (.lst [.ref d])∧H c=some (.lst us)∧H d=some (.lst vs)∧us.length≠vs.length∧X.A.units+2 < cLine∧Q (.bl true) H) fNeF:=by
 intro io H0 F0 F δ σ H x y v u Q Qd I px py q k
 obtain ⟨xs,rfl,rfl,q⟩:=q
 rcases q with ⟨hl,q⟩|⟨rfl,q⟩|⟨z,us,rfl,q⟩
 ·exact .inl (os_neL hu io H0 F0 F δ σ H _ _ v u Q Qd I px py ⟨xs,_,rfl,rfl,.inl ⟨by simpa using hl,q⟩⟩ k)
 ·exact .inl (os_neL hu io H0 F0 F δ σ H _ _ v u Q Qd I px py ⟨_,_,rfl,rfl,.inr ⟨rfl,by simp [eqbL,eqb],by simp [depL,dep],q⟩⟩ k)
 ·obtain ⟨a,vs,rfl,ha,ra⟩:=px.lst I
  obtain ⟨b,ws,rfl,hb,rb⟩:=py.lst I
  obtain ⟨x1,rfl,c,cs,rfl,hc,rc⟩:=ra.one_inv
  obtain ⟨x2,rfl,d,ds,rfl,hd,rd⟩:=rb.one_inv
  cases (show ds=[] from rd)
  have lc:=rc.len
  exact .inr ⟨a,b,c,d,cs,[],rfl,rfl,ha,hb,I.sub _ _ hc,I.sub _ _ hd,by rw [← lc];simp,by omega,k false _ _ F H (Same.refl _) (I.pushF (d:=.bl true) rfl) q⟩
def dCallC2 (R:RD) (i:Nat) (t:TEd) (u:TLd):TEd:=fun δ Q=>t δ fun _ d0 δ0=>∃ K ns,δ0[i]? = some (.sc K ns)∧u δ0 fun ds δ'=>δ'[i]? = some (.sc K ns)∧hold R (fun b d _=>Q b d δ') .mk (.fz d0 :: .sc K ns::ds.map .fz)
section
variable {X:Cx}{CX:CXT}{k:Nat}{f:Addr}{fd:FuncData}{ps:List Str}{R:RD}{E:XK}{x y:Str}{p p' pos:Pos}{e:Expr}{es:List Expr}{t0:TEd}{u:TLd}{i:Nat}
theorem de_callC2 (G:FnOk X.prog X.w X.K X.mg X.base CX k f fd ps (spD R)) (hr:Room k X.A) (hg:Gl X x) (hm:X.mg x=some (.ref f)) (hk:PySem.W.keepIn X.K (.ref f)=true) (hb:Binds X.K fd ps []) (hx:z7x CX X E)
  (he:DE X e t0) (hv:PE X (.Name y p') (tVar i)) (ha:DL X es u) (hdb:(x == ("__debug__":Str))=false:=by decide)
  (hs0:starEach (e :: .Name y p' :: es) X.env=(false,eval e X.env)::starEach (.Name y p' :: es) X.env:=by rfl) (hs:starEach (.Name y p' :: es) X.env=(false,eval (.Name y p') X.env)::starEach es X.env:=by rfl) (hpl:(backTo pos (starEach (.Name y p' :: es) X.env)).any (·.1)=false:=by rfl) :
  DE X (.Call (.Name x p) (e :: .Name y p' :: es) [] pos) (dCallC2 R i t0 u):=by
 obtain ⟨t,pt,s⟩:=ha
 obtain ⟨te,pe,se⟩:=he
 refine ⟨_,z1t G hr hg hm hk hb .nil hx (z0k pe (z0k hv pt hs) hs0) hdb hs0 hpl,fun io H0 F0 F δ σ H Q Qd I q kk=>se.fz I q fun d0 v0 δ1 F1 H1 f1 I1 r1 q1=>?_⟩
 obtain ⟨K,ns,e0,q⟩:=q1
 obtain ⟨a,ea,sq⟩:=I1.get i _ e0
 refine ⟨.ref a,z2b ea,s io H0 F0 F1 δ1 σ H1 _ _ I1 q fun ds vs δ' F' H' sf I' r q'=>?_⟩
 obtain ⟨e1,q'⟩:=q'
 show spD R ((v0 :: .ref a::vs) ++ []) H' Q E
 rw [List.append_nil]
 refine ⟨H',[none,none],F',.fz d0 :: .sc K ns::ds.map .fz,_,fun p a e=>by rcases p with _|_|p <;> simp at e,((y2h I'.sub r).push (s:=.sc K ns) (v:=.ref a) ⟨a,rfl,sf.seq sq⟩ (fun b c a e=>by cases e)).pushF (Rep.mono sf _ _ r1),q',fun b d v δ2 F2 H2 C q2=>?_⟩
 exact kk b d v δ' F2 H2 ((f1.trans sf).trans C.ext) (I'.back C) q2
end
section
variable {δ:List Slot}{Q:Bool→D→List Slot→Prop}{td:TEd}{ul:TLd}{i:Nat}
theorem v_callC2 {R:RD}:dCallC2 R i td ul δ Q=td δ fun _ d0 δ0=>getK i δ0 fun s=>scA s fun K ns=>ul δ0 fun ds δ'=>getK i δ' fun s'=>s' = .sc K ns∧hold R (fun b d _=>Q b d δ') .mk (.fz d0 :: .sc K ns::ds.map .fz):=by
 unfold dCallC2
 congr 1
 funext _ d0 δ0
 unfold getK
 have key:∀ (K:PySem.W.Frag) (ns:List Int) (δ':List Slot) (A:Prop),(δ'[i]? = some (.sc K ns)∧A)=(match δ'[i]? with|some s'=>s' = .sc K ns∧A|none=>False):=by
  intro K ns δ' A
  cases δ'[i]? <;> simp
 simp only [key]
 cases δ0[i]? with
 |none=>simp
 |some s =>
  cases s with
  |sc K ns =>
   apply propext
   constructor
   ·rintro ⟨K',ns',e,h⟩;cases e;exact h
   ·exact fun h=>⟨K,ns,rfl,h⟩
  |_=>simp [scA]
end
end VL
namespace Pap
open PySem L2
inductive Part where
 |txt (s:Str)
 |tup (n:Str) (ps:List Part)
mutual
def z2g:Part→Nat
 |.txt _=>1
 |.tup _ ps=>1+z0w ps
def z0w:List Part→Nat
 | []=>0
 |p::ps=>z2g p+z0w ps
end
def head1:Part→Str
 |.txt _=>"#"
 |.tup n _=>n
def z2p (ps:List Part):List Str:=ps.map head1
theorem z2x (ps qs:List Part):z0w (ps ++ qs)=z0w ps+z0w qs:=by
 induction ps with
 |nil=>simp [z0w]
 |cons p ps ih=>simp [z0w,ih];omega
inductive RepL (H:Hp):List V→List Part→List V→List Addr→Prop
 |nil:RepL H [] [] [] []
 |txt {s:Str}{vs:List V}{ps:List Part}{out:List V}{F:List Addr}:RepL H vs ps out F→RepL H (.str s::vs) (.txt s::ps) (.str s::out) F
 |tup {t l:Addr}{n:Str}{cs:List V}{qs:List Part}{o1:List V}{F1:List Addr}{vs:List V}{ps:List Part}{o2:List V}{F2:List Addr}(ht:H t=some (.tup [.str n,.ref l])) (hl:H l=some (.lst cs)) (h1:RepL H cs qs o1 F1) (h2:RepL H vs ps o2 F2) :
   RepL H (.ref t::vs) (.tup n qs::ps) (.ref t::(o1 ++ o2)) (l::(F1 ++ F2))
inductive Bel (H:Hp):Addr→List Addr→List (List Part × Str)→List Addr→Prop
 |nil {c:Addr}:Bel H c [] [] []
 |cons {c a t:Addr}{as:List Addr}{vs:List V}{n:Str}{ps:List Part}{o:List V}{F G:List Addr}{fs:List (List Part × Str)}(ha:H a=some (.lst (vs ++ [.ref t]))) (ht:H t=some (.tup [.str n,.ref c])) (h:RepL H vs ps o F) (b:Bel H a as fs G) :
   Bel H c (a::as) ((ps,n)::fs) (F ++ G)
structure BInv (H:Hp) (a:Addr) (as:List Addr) (cur:List Part) (fs:List (List Part × Str)) (S:List Addr):Prop where
 ex:∃ vs o F G,H a=some (.lst vs)∧RepL H vs cur o F∧Bel H a as fs G∧S=F ++ G
 nd:(a::as).Nodup
 off:∀ b∈a::as,b∉S
theorem z4l:∀ ps:List Part,ps.length≤z0w ps
 | []=>Nat.le_refl _
 |p::ps=>by
  have h1:1≤z2g p:=by cases p <;> simp [z2g]
  have h2:=z4l ps
  simp only [z0w,List.length_cons]
  omega
end Pap
namespace L2
open PySem PySem.Spec PyProof.Rows
structure Ent (K:PySem.W.Frag) (mg:Str→Option Value) (x:Str) (st:Stmt) (ps:List Str) (f:Addr) (fd:FuncData):Prop where
 F:Fun K x x st f fd
 g:mg x=some (.ref f)
 b:Binds K fd ps []
theorem z1h {K:PySem.W.Frag}{mg:Str→Option Value}{h:Heap}{x:Str}{st:Stmt}{ps:List Str}{f:Addr}{oc:Value}{od an:Option Addr}{osl:Array (Option Value)}{kV doc pm cdv ct:Value}(X:K.In h) (G:h.Ns mainGlobals mg)
  (hb:∀ (kV doc pm:Value) (an:Option Addr) (cdv ct:Value) (us:List Value),us.length=ps.length→bindArgs (PySem.W.fnOf x x (z0q st) (z0o st) (z0c st) .none kV doc pm an cdv ct) ⟨us,[]⟩=pure (ps.zip us))
  (a:PySem.W.nsIn K mainGlobals x=some (some (.ref f))) (l:K.lookup f=some ⟨oc,od,.func (PySem.W.fnOf x x (z0q st) (z0o st) (z0c st) .none kV doc pm an cdv ct),osl⟩)
  (c:PySem.W.codeIn K cdv x=true) (k:PySem.W.keepIn K (.ref f)=true):∃ f fd,Ent K mg x st ps f fd :=
 ⟨f,_,fun_mk l c k,PySem.W.mg_of X G a,(fun_mk (st:=st) l c k).binds hb⟩
end L2
namespace K04
open PySem L2 VL
def top (i:Nat):Stmt:=PySem.Challenge.pw_formferry_k08_faults.main.body.getD i (.Pass ⟨0,0,0,0⟩)
abbrev s_tuples_beneath:Stmt:=top 6
abbrev s_tuples_with_paths:Stmt:=top 7
abbrev s_sign_of:Stmt:=top 8
abbrev s_word:Stmt:=top 9
abbrev s_patterns_within:Stmt:=top 11
abbrev s_signs:Stmt:=top 12
abbrev s_bare:Stmt:=top 13
abbrev s_firsts:Stmt:=top 14
abbrev s_lasts:Stmt:=top 15
abbrev s_link:Stmt:=top 16
abbrev s_link_row:Stmt:=top 17
abbrev s_link_all:Stmt:=top 18
abbrev s_nexts:Stmt:=top 19
abbrev s_table:Stmt:=top 20
abbrev s_agrees:Stmt:=top 21
abbrev s_look_twice:Stmt:=top 23
abbrev s_look_names:Stmt:=top 24
abbrev s_look:Stmt:=top 25
abbrev s_tables:Stmt:=top 26
abbrev s_holds:Stmt:=top 27
abbrev s_faults:Stmt:=top 28
abbrev s_is_paper:Stmt:=top 29
abbrev s__law_cell_at:Stmt:=top 31
abbrev s__law_draws:Stmt:=top 32
abbrev s__law_pop:Stmt:=top 33
abbrev s__law_alike:Stmt:=top 34
abbrev s__law_name:Stmt:=top 35
abbrev s__law_wrapped:Stmt:=top 36
abbrev s__law_pattern:Stmt:=top 37
abbrev s__law_signs:Stmt:=top 38
abbrev s__law_form:Stmt:=top 39
abbrev s__law_text:Stmt:=top 40
abbrev s__law_word:Stmt:=top 41
abbrev s__law_grown:Stmt:=top 42
abbrev s__law_more:Stmt:=top 43
abbrev s__law_ends:Stmt:=top 44
abbrev s__law_fits:Stmt:=top 45
abbrev s__law_faults:Stmt:=top 46
abbrev s__law_all_faults:Stmt:=top 47
abbrev s__law_paper:Stmt:=top 48
abbrev s__law_bent_row:Stmt:=top 49
abbrev s__law_parts:Stmt:=top 50
abbrev s__law_copy_pattern:Stmt:=top 51
abbrev s__law_copy_form:Stmt:=top 52
abbrev s__law_copy_row:Stmt:=top 53
abbrev s__law_many:Stmt:=top 54
abbrev s_law:Stmt:=top 55
theorem z8m:FnScope ["path","part"] ["path","part"] (z0c s_tuples_beneath):=⟨rfl,rfl,rfl,by decide +kernel,rfl,by decide +kernel,by decide +kernel⟩
theorem sc_tuples_with_paths:FnScope ["paper","found","waiting","place"] ["paper"] (z0c s_tuples_with_paths):=⟨rfl,rfl,rfl,by decide +kernel,rfl,by decide +kernel,by decide +kernel⟩
theorem sc_sign_of:FnScope ["part"] ["part"] (z0c s_sign_of):=⟨rfl,rfl,rfl,by decide +kernel,rfl,by decide +kernel,by decide +kernel⟩
theorem sc_word:FnScope ["row"] ["row"] (z0c s_word):=⟨rfl,rfl,rfl,by decide +kernel,rfl,by decide +kernel,by decide +kernel⟩
theorem z7h:FnScope ["pattern"] ["pattern"] (z0c s_patterns_within):=⟨rfl,rfl,rfl,by decide +kernel,rfl,by decide +kernel,by decide +kernel⟩
theorem sc_signs:FnScope ["pattern","found","inner"] ["pattern"] (z0c s_signs):=⟨rfl,rfl,rfl,by decide +kernel,rfl,by decide +kernel,by decide +kernel⟩
theorem sc_bare:FnScope ["pattern","kind"] ["pattern"] (z0c s_bare):=⟨rfl,rfl,rfl,by decide +kernel,rfl,by decide +kernel,by decide +kernel⟩
theorem sc_firsts:FnScope ["pattern","found","inner"] ["pattern"] (z0c s_firsts):=⟨rfl,rfl,rfl,by decide +kernel,rfl,by decide +kernel,by decide +kernel⟩
theorem sc_lasts:FnScope ["pattern","found","inner"] ["pattern"] (z0c s_lasts):=⟨rfl,rfl,rfl,by decide +kernel,rfl,by decide +kernel,by decide +kernel⟩
theorem sc_link:FnScope ["ends","begins","followers","end","begin"] ["ends","begins","followers"] (z0c s_link):=⟨rfl,rfl,rfl,by decide +kernel,rfl,by decide +kernel,by decide +kernel⟩
theorem sc_link_row:FnScope ["patterns","followers","ends","inner"] ["patterns","followers"] (z0c s_link_row):=⟨rfl,rfl,rfl,by decide +kernel,rfl,by decide +kernel,by decide +kernel⟩
theorem sc_link_all:FnScope ["pattern","followers","inner"] ["pattern","followers"] (z0c s_link_all):=⟨rfl,rfl,rfl,by decide +kernel,rfl,by decide +kernel,by decide +kernel⟩
theorem sc_nexts:FnScope ["pattern","order","followers","sign","told"] ["pattern"] (z0c s_nexts):=⟨rfl,rfl,rfl,by decide +kernel,rfl,by decide +kernel,by decide +kernel⟩
theorem sc_table:FnScope ["pattern"] ["pattern"] (z0c s_table):=⟨rfl,rfl,rfl,by decide +kernel,rfl,by decide +kernel,by decide +kernel⟩
theorem sc_agrees:FnScope ["told","word","sign","behind"] ["told","word"] (z0c s_agrees):=⟨rfl,rfl,rfl,by decide +kernel,rfl,by decide +kernel,by decide +kernel⟩
theorem sc_look_twice:FnScope ["rules","ahead","name","pattern","found"] ["rules"] (z0c s_look_twice):=⟨rfl,rfl,rfl,by decide +kernel,rfl,by decide +kernel,by decide +kernel⟩
theorem sc_look_names:FnScope ["root","rules","known","rule","sign"] ["root","rules"] (z0c s_look_names):=⟨rfl,rfl,rfl,by decide +kernel,rfl,by decide +kernel,by decide +kernel⟩
theorem sc_look:FnScope ["form"] ["form"] (z0c s_look):=⟨rfl,rfl,rfl,by decide +kernel,rfl,by decide +kernel,by decide +kernel⟩
theorem sc_tables:FnScope ["rules","found","name","pattern"] ["rules"] (z0c s_tables):=⟨rfl,rfl,rfl,by decide +kernel,rfl,by decide +kernel,by decide +kernel⟩
theorem sc_holds:FnScope ["part","known"] ["part","known"] (z0c s_holds):=⟨rfl,rfl,rfl,by decide +kernel,rfl,by decide +kernel,by decide +kernel⟩
theorem sc_faults:FnScope ["form","paper","known","found","path","part","other_root"] ["form","paper"] (z0c s_faults):=⟨rfl,rfl,rfl,by decide +kernel,rfl,by decide +kernel,by decide +kernel⟩
theorem sc_is_paper:FnScope ["form","paper"] ["form","paper"] (z0c s_is_paper):=⟨rfl,rfl,rfl,by decide +kernel,rfl,by decide +kernel,by decide +kernel⟩
theorem y0c:FnScope ["_law_script","_law_k"] ["_law_script","_law_k"] (z0c s__law_cell_at):=⟨rfl,rfl,rfl,by decide +kernel,rfl,by decide +kernel,by decide +kernel⟩
theorem sc__law_draws:FnScope ["_law_script","_law_turn","_law_many_here","_law_cells","_law_found","_law_left","_law_k","_law_at","_law_place","_law_number"] ["_law_script","_law_turn","_law_many_here"] (z0c s__law_draws):=⟨rfl,rfl,rfl,by decide +kernel,rfl,by decide +kernel,by decide +kernel⟩
theorem sc__law_pop:FnScope ["_law_draws_here"] ["_law_draws_here"] (z0c s__law_pop):=⟨rfl,rfl,rfl,by decide +kernel,rfl,by decide +kernel,by decide +kernel⟩
theorem sc__law_alike:FnScope ["_law_found","_law_due","_law_k"] ["_law_found","_law_due"] (z0c s__law_alike):=⟨rfl,rfl,rfl,by decide +kernel,rfl,by decide +kernel,by decide +kernel⟩
theorem sc__law_name:FnScope ["_law_k","_law_draw","_law_letters","_law_base","_law_at"] ["_law_k","_law_draw"] (z0c s__law_name):=⟨rfl,rfl,rfl,by decide +kernel,rfl,by decide +kernel,by decide +kernel⟩
theorem y1d:FnScope ["_law_pattern_here","_law_number"] ["_law_pattern_here","_law_number"] (z0c s__law_wrapped):=⟨rfl,rfl,rfl,by decide +kernel,rfl,by decide +kernel,by decide +kernel⟩
theorem sc__law_pattern:FnScope ["_law_some","_law_draws_here","_law_row","_law_number","_law_many_here","_law_at","_law_made"] ["_law_some","_law_draws_here"] (z0c s__law_pattern):=⟨rfl,rfl,rfl,by decide +kernel,rfl,by decide +kernel,by decide +kernel⟩
theorem sc__law_signs:FnScope ["_law_names","_law_number","_law_some","_law_at"] ["_law_names","_law_number"] (z0c s__law_signs):=⟨rfl,rfl,rfl,by decide +kernel,rfl,by decide +kernel,by decide +kernel⟩
theorem sc__law_form:FnScope ["_law_script","_law_turn","_law_many_here","_law_draws_here","_law_first","_law_names","_law_rules","_law_name_here","_law_at"] ["_law_script","_law_turn","_law_many_here"] (z0c s__law_form):=⟨rfl,rfl,rfl,by decide +kernel,rfl,by decide +kernel,by decide +kernel⟩
theorem sc__law_text:FnScope ["_law_number","_law_some"] ["_law_number"] (z0c s__law_text):=⟨rfl,rfl,rfl,by decide +kernel,rfl,by decide +kernel,by decide +kernel⟩
theorem sc__law_word:FnScope ["_law_pattern_here","_law_draws_here","_law_number","_law_found","_law_one","_law_many_here","_law_k"] ["_law_pattern_here","_law_draws_here"] (z0c s__law_word):=⟨rfl,rfl,rfl,by decide +kernel,rfl,by decide +kernel,by decide +kernel⟩
theorem sc__law_grown:FnScope ["_law_table","_law_name_here","_law_draws_here","_law_left","_law_deep","_law_word_drawn","_law_row","_law_sign"] ["_law_table","_law_name_here","_law_draws_here","_law_left","_law_deep"] (z0c s__law_grown):=⟨rfl,rfl,rfl,by decide +kernel,rfl,by decide +kernel,by decide +kernel⟩
theorem sc__law_more:FnScope ["_law_pattern_here","_law_signs_met","_law_starts","_law_found","_law_ahead"] ["_law_pattern_here","_law_signs_met","_law_starts"] (z0c s__law_more):=⟨rfl,rfl,rfl,by decide +kernel,rfl,by decide +kernel,by decide +kernel⟩
theorem sc__law_ends:FnScope ["_law_pattern_here","_law_signs_met","_law_starts","_law_one","_law_found"] ["_law_pattern_here","_law_signs_met","_law_starts"] (z0c s__law_ends):=⟨rfl,rfl,rfl,by decide +kernel,rfl,by decide +kernel,by decide +kernel⟩
theorem sc__law_fits:FnScope ["_law_pattern_here","_law_row","_law_signs_met","_law_part"] ["_law_pattern_here","_law_row"] (z0c s__law_fits):=⟨rfl,rfl,rfl,by decide +kernel,rfl,by decide +kernel,by decide +kernel⟩
theorem sc__law_faults:FnScope ["_law_table","_law_part","_law_path","_law_found","_law_k"] ["_law_table","_law_part","_law_path"] (z0c s__law_faults):=⟨rfl,rfl,rfl,by decide +kernel,rfl,by decide +kernel,by decide +kernel⟩
theorem sc__law_all_faults:FnScope ["_law_form_here","_law_paper_here","_law_table","_law_name_here","_law_pattern_here","_law_found"] ["_law_form_here","_law_paper_here"] (z0c s__law_all_faults):=⟨rfl,rfl,rfl,by decide +kernel,rfl,by decide +kernel,by decide +kernel⟩
theorem sc__law_paper:FnScope ["_law_form_here","_law_script","_law_turn","_law_many_here","_law_draws_here","_law_table","_law_name_here","_law_pattern_here"] ["_law_form_here","_law_script","_law_turn","_law_many_here"] (z0c s__law_paper):=⟨rfl,rfl,rfl,by decide +kernel,rfl,by decide +kernel,by decide +kernel⟩
theorem sc__law_bent_row:FnScope ["_law_row","_law_at","_law_turn","_law_name_here","_law_found","_law_part"] ["_law_row","_law_at","_law_turn","_law_name_here"] (z0c s__law_bent_row):=⟨rfl,rfl,rfl,by decide +kernel,rfl,by decide +kernel,by decide +kernel⟩
theorem sc__law_parts:FnScope ["_law_row","_law_many_here","_law_part"] ["_law_row"] (z0c s__law_parts):=⟨rfl,rfl,rfl,by decide +kernel,rfl,by decide +kernel,by decide +kernel⟩
theorem z6i:FnScope ["_law_pattern_here"] ["_law_pattern_here"] (z0c s__law_copy_pattern):=⟨rfl,rfl,rfl,by decide +kernel,rfl,by decide +kernel,by decide +kernel⟩
theorem z8r:FnScope ["_law_form_here"] ["_law_form_here"] (z0c s__law_copy_form):=⟨rfl,rfl,rfl,by decide +kernel,rfl,by decide +kernel,by decide +kernel⟩
theorem z9i:FnScope ["_law_row"] ["_law_row"] (z0c s__law_copy_row):=⟨rfl,rfl,rfl,by decide +kernel,rfl,by decide +kernel,by decide +kernel⟩
theorem sc__law_many:FnScope ["_law_cell"] ["_law_cell"] (z0c s__law_many):=⟨rfl,rfl,rfl,by decide +kernel,rfl,by decide +kernel,by decide +kernel⟩
theorem sc_law:FnScope ["_law_script","_law_form_here","_law_paper_here","_law_draws_here","_law_names","_law_k","_law_at","_law_row","_law_due","_law_handed","_law_found","_law_told","_law_path"] ["_law_script"] (z0c s_law):=⟨rfl,rfl,rfl,by decide +kernel,rfl,by decide +kernel,by decide +kernel⟩
open PySem L2 VL
local macro_rules|`(tactic| walk_at "vd")=>do
 let u←("reduceIte getK_0 getK_s setK_0 setK_s setW_no setW_fz setW_ob setW_s varS_fz varS_ob pkS_fz pkS_ob obK_ob scK_sc ioK_t ioK_no intK_e strK_e blK_e lstK_e dctK_e truK_lst isLK_e int1K_e dFor_eq dComp_eq v_seq v_next v_ret v_brk v_never v_drop v_if v_set v_c v_var v_mv v_op v_opV v_opW v_test v_not v_and v_or v_truV v_andV v_notV v_ifE v_neg v_nil v_cons v_tup v_lst v_CB v_CBV v_mt v_gN v_gTup2 v_gCons v_gNil v_setL v_iList v_iRng1 v_call v_aNil v_aV v_aO v_callIO v_oN v_oS v_slLV v_slS v_slC v_join v_dict0 v_dget v_din v_dput v_I v_Ic v_eq_ii v_eq_ss v_ne_ii v_ne_ss v_catS v_cat v_ixL v_ixT0 v_ixT1 v_ixT2 v_ixS v_ixQl v_ixQt v_eqL0 v_neL0 v_notInL v_inT2 v_inT3 v_lenL v_lenS v_lenQl v_lenQt v_listOf v_int1b v_append v_extend v_pop z9d z9g z7y z7z z6n z9f z9a z7m z8d z6k z9c z8w z7j z7n z6l z8y z8z z7e z7s z6m lst2K_e v_iRev v_iZip v_dgetE v_dinE v_ixC v_lenC v_ixT3 v_index v_scA v_callC v_lst1K v_iEnum v_lenSet v_slR v_max2 v_TEnd v_TV v_TO1 v_2Nil v_2V v_2O1 v_2O2 v_callC2".splitOn " ").mapM fun n=>`(Lean.Parser.Tactic.simpLemma| ↓ $(Lean.mkIdent n.toName):term)
 let v←("rsl_t rsl_f outS keepIo_t keepIo_f keepIo_fz keepIo_no keepIo_sc List.map_cons List.map_nil List.length_cons List.length_nil Nat.reduceAdd List.replicate_succ List.replicate_zero List.cons_append List.nil_append List.append_nil List.drop_succ_cons List.drop_zero List.filter_cons List.filter_nil Option.isNone_none Option.isNone_some and_true true_and decide_eq_true_eq Bool.true_eq_false Bool.false_eq_true Bool.not_true Bool.not_false Bool.not_not Bool.not_eq_eq_eq_not decide_true decide_false if_true if_false eq_self Int.zero_add List.isEmpty_nil List.isEmpty_cons not_true_eq_false not_false_eq_true false_and and_false Option.isSome_none Option.isSome_some y0o fgt List.set_cons_zero List.set_cons_succ".splitOn " ").mapM fun n=>`(Lean.Parser.Tactic.simpLemma| $(Lean.mkIdent n.toName):term)
 `(tactic| simp only [$((u++v).toArray),*])
structure Zs (K:PySem.W.Frag) (mg:Str→Option Value):Prop where
 z_list:mg "list" = none
 z_reversed:mg "reversed" = none
 z_isinstance:mg "isinstance" = none
 z_str:mg "str" = none
 z_len:mg "len" = none
 z_int:mg "int" = none
 z_bool:mg "bool" = none
 z_range:mg "range" = none
 z_all:mg "all" = none
 z_any:mg "any" = none
 z_zip:mg "zip" = none
 z_tuple:mg "tuple" = none
 z_dict:mg "dict" = none
 z_set:mg "set" = none
 z_enumerate:mg "enumerate" = none
 z_max:mg "max" = none
 g_TEXT_SIGN:∃ t,mg "TEXT_SIGN" = some (.str "#" t)
 kit:KitOk K
inductive Wk where
 |maybe|many|some
def Wk.str:Wk→Str
 |.maybe=>"maybe"
 |.many=>"many"
 |.some=>"some"
inductive Pat where
 |none
 |one (s:Str)
 |row (ps:List Pat)
 |any (ps:List Pat)
 |wrap (k:Wk) (p:Pat)
mutual
def patD:Pat→D
 |.none=>.tup [.str "none"]
 |.one s=>.tup [.str "one",.str s]
 |.row ps=>.tup [.str "row",.lst (z1k ps)]
 |.any ps=>.tup [.str "any",.lst (z1k ps)]
 |.wrap k p=>.tup [.str k.str,patD p]
def z1k:List Pat→List D
 | []=>[]
 |p::ps=>patD p::z1k ps
end
theorem z2u:∀ ps:List Pat,z1k ps=ps.map patD
 | []=>rfl
 |p::ps=>by rw [z1k,z2u ps];rfl
theorem z4z (ps:List Pat):(z1k ps).length=ps.length:=by rw [z2u];simp
def kids:Pat→List Pat
 |.row ps=>ps
 |.any ps=>ps
 |.wrap _ p=>[p]
 |_=>[]
mutual
def szP:Pat→Nat
 |.none=>1
 |.one _=>1
 |.row ps=>1+szPs ps
 |.any ps=>1+szPs ps
 |.wrap _ p=>1+szP p
def szPs:List Pat→Nat
 | []=>0
 |p::ps=>szP p+szPs ps
end
mutual
def dpP:Pat→Nat
 |.none=>0
 |.one _=>0
 |.row ps=>dpPs ps+1
 |.any ps=>dpPs ps+1
 |.wrap _ p=>dpP p+1
def dpPs:List Pat→Nat
 | []=>0
 |p::ps=>max (dpP p) (dpPs ps)
end
theorem z3q {p:Pat}:∀ {ps:List Pat},p∈ps→dpP p≤dpPs ps
 |q::ps,h=>by
  rcases List.mem_cons.mp h with rfl|h
  ·simp only [dpPs];omega
  ·have:=z3q h;simp only [dpPs];omega
theorem z5f {p:Pat}:∀ {ps:List Pat},p∈ps→szP p≤szPs ps
 |q::ps,h=>by
  rcases List.mem_cons.mp h with rfl|h
  ·simp only [szPs];omega
  ·have:=z5f h;simp only [szPs];omega
theorem szP_pos:∀ p:Pat,0 < szP p
 |.none=>by simp [szP]
 |.one _=>by simp [szP]
 |.row ps=>by simp only [szP];omega
 |.any ps=>by simp only [szP];omega
 |.wrap _ p=>by simp only [szP];omega
theorem z4h:∀ ps:List Pat,ps.length≤szPs ps
 | []=>Nat.le_refl _
 |p::ps=>by have:=z4h ps;have:=szP_pos p;simp only [szPs,List.length_cons];omega
theorem z2f:∀ ps qs:List Pat,szPs (ps ++ qs)=szPs ps+szPs qs
 | [],qs=>by simp [szPs]
 |p::ps,qs=>by simp only [List.cons_append,szPs,z2f ps qs];omega
theorem z8t (p:Pat):szPs (kids p) < szP p:=by
 cases p <;> simp [kids,szP,szPs]
theorem z8f {p q:Pat}(h:q∈kids p):dpP q < dpP p:=by
 cases p with
 |row ps=>have:=z3q (show q∈ps from h);simp only [dpP];omega
 |any ps=>have:=z3q (show q∈ps from h);simp only [dpP];omega
 |wrap k p=>simp [kids] at h;subst h;simp [dpP]
 |none=>simp [kids] at h
 |one s=>simp [kids] at h
mutual
def z0h:Pat→List Str
 |.none=>[]
 |.one s=>[s]
 |.row ps=>z0r ps
 |.any ps=>z0r ps
 |.wrap _ p=>z0h p
def z0r:List Pat→List Str
 | []=>[]
 |p::ps=>z0h p ++ z0r ps
end
theorem z3w:∀ ps qs:List Pat,z0r (ps ++ qs)=z0r ps ++ z0r qs
 | [],qs=>by simp [z0r]
 |p::ps,qs=>by simp only [List.cons_append,z0r,z3w ps qs,List.append_assoc]
theorem signsP_kids {p:Pat}(h:∀ s,p ≠ .one s):z0h p=z0r (kids p):=by
 cases p with
 |one s=>exact absurd rfl (h s)
 |_=>simp [z0h,z0r,kids]
mutual
theorem z4m:∀ p:Pat,(z0h p).length≤szP p
 |.none=>by simp [z0h]
 |.one _=>by simp [z0h,szP]
 |.row ps=>by have:=z5h ps;simp only [z0h,szP];omega
 |.any ps=>by have:=z5h ps;simp only [z0h,szP];omega
 |.wrap _ p=>by have:=z4m p;simp only [z0h,szP];omega
theorem z5h:∀ ps:List Pat,(z0r ps).length≤szPs ps
 | []=>by simp [z0r]
 |p::ps=>by have:=z4m p;have:=z5h ps;simp only [z0r,szPs,List.length_append];omega
end
mutual
def z2v:Pat→Bool
 |.none=>true
 |.one _=>false
 |.row ps=>z1w ps
 |.any ps=>z6r ps
 |.wrap .some p=>z2v p
 |.wrap _ _=>true
def z1w:List Pat→Bool
 | []=>true
 |p::ps=>z2v p && z1w ps
def z6r:List Pat→Bool
 | []=>false
 |p::ps=>z2v p || z6r ps
end
theorem y1c:∀ ps:List Pat,(ps.map z2v).all id=z1w ps
 | []=>rfl
 |p::ps=>by simp only [List.map_cons,List.all_cons,id,z1w,y1c ps]
theorem y0b:∀ ps:List Pat,(ps.map z2v).any id=z6r ps
 | []=>rfl
 |p::ps=>by simp only [List.map_cons,List.any_cons,id,z6r,y0b ps]
theorem z6o:∀ ps qs:List Pat,z1w (ps ++ qs)=(z1w ps && z1w qs)
 | [],qs=>by simp [z1w]
 |p::ps,qs=>by simp only [List.cons_append,z1w,z6o ps qs,Bool.and_assoc]
mutual
def z1b:Pat→List Str
 |.none=>[]
 |.one s=>[s]
 |.row ps=>z1y ps
 |.any ps=>z2k ps
 |.wrap _ p=>z1b p
def z1y:List Pat→List Str
 | []=>[]
 |p::ps=>z1b p ++ (if z2v p then z1y ps else [])
def z2k:List Pat→List Str
 | []=>[]
 |p::ps=>z1b p ++ z2k ps
end
mutual
def z1e:Pat→List Str
 |.none=>[]
 |.one s=>[s]
 |.row ps=>z3r ps
 |.any ps=>z4s ps
 |.wrap _ p=>z1e p
def z3r:List Pat→List Str
 | []=>[]
 |p::ps=>(if z1w ps then z1e p else []) ++ z3r ps
def z4s:List Pat→List Str
 | []=>[]
 |p::ps=>z1e p ++ z4s ps
end
mutual
theorem z3g:∀ p:Pat,(z1b p).length≤szP p
 |.none=>by simp [z1b]
 |.one _=>by simp [z1b,szP]
 |.row ps=>by have:=z6w ps;simp only [z1b,szP];omega
 |.any ps=>by have:=z6s ps;simp only [z1b,szP];omega
 |.wrap _ p=>by have:=z3g p;simp only [z1b,szP];omega
theorem z6w:∀ ps:List Pat,(z1y ps).length≤szPs ps
 | []=>by simp [z1y]
 |p::ps=>by
  have:=z3g p;have:=z6w ps
  simp only [z1y,szPs,List.length_append]
  split <;> simp <;> omega
theorem z6s:∀ ps:List Pat,(z2k ps).length≤szPs ps
 | []=>by simp [z2k]
 |p::ps=>by have:=z3g p;have:=z6s ps;simp only [z2k,szPs,List.length_append];omega
end
mutual
theorem z3z:∀ p:Pat,(z1e p).length≤szP p
 |.none=>by simp [z1e]
 |.one _=>by simp [z1e,szP]
 |.row ps=>by have:=z8p ps;simp only [z1e,szP];omega
 |.any ps=>by have:=z8n ps;simp only [z1e,szP];omega
 |.wrap _ p=>by have:=z3z p;simp only [z1e,szP];omega
theorem z8p:∀ ps:List Pat,(z3r ps).length≤szPs ps
 | []=>by simp [z3r]
 |p::ps=>by
  have:=z3z p;have:=z8p ps
  simp only [z3r,szPs,List.length_append]
  split <;> simp <;> omega
theorem z8n:∀ ps:List Pat,(z4s ps).length≤szPs ps
 | []=>by simp [z4s]
 |p::ps=>by have:=z3z p;have:=z8n ps;simp only [z4s,szPs,List.length_append];omega
end
theorem compL {α:Type}(f g:α→D) (xs:List α) {te:TEd}{Q:Bool→D→List VL.Slot→Prop}{δ:List VL.Slot}(hl:xs.length≤sizeLine)
  (h:∀ x∈xs,∀ P:D→List VL.Slot→Prop,P (g x) (.fz (f x)::δ)→te (.fz (f x)::δ) fun _ y δ'=>P y δ') (q:Q true (.lst (xs.map g)) δ):CompD 1 (xs.map f) (dgN 0) dYes te Q δ:=by
 refine ⟨fun r acc δ1=>δ1=δ∧∃ pre suf,xs=pre ++ suf∧r=suf.map f∧acc=pre.map g,⟨rfl,[],xs,rfl,rfl,rfl⟩,?_,?_⟩
 ·rintro d r acc δ1 ⟨rfl,pre,suf,e,er,rfl⟩
  cases suf with
  |nil=>cases er
  |cons x suf =>
   cases er
   refine ⟨trivial,?_⟩
   unfold dYes
   dsimp only
   rw [if_pos rfl]
   have hlen:pre.length < sizeLine:=by rw [e] at hl;simp at hl;omega
   exact h x (by rw [e];simp) (fun y δ4=>(pre.map g).length < sizeLine∧List.drop 1 δ4=δ1∧∃ pre' suf',xs=pre' ++ suf'∧suf.map f=suf'.map f∧pre.map g ++ [y]=pre'.map g) ⟨by simpa using hlen,rfl,pre ++ [x],suf,by rw [e];simp,rfl,by simp⟩
 ·rintro acc δ1 ⟨rfl,pre,suf,e,er,rfl⟩
  have es:suf=[]:=by simpa using er.symm
  subst es
  simp at e
  subst e
  exact q
section
variable {P:Program}{w:World}{K:PySem.W.Frag}{mg:Str→Option Value}{base:Heap}{f:Addr}{fd:FuncData}
def z8a:RD:=fun δ Q=>∃ p:Pat,δ=[.fz (patD p)]∧Q true (.lst (z1k (kids p))) [.no]
theorem z7o (E:Ent K mg "patterns_within" s_patterns_within ["pattern"] f fd) (T:Zs K mg):FnOk P w K mg base CX0 1 f fd ["pattern"] (spD z8a):=by
 refine VL.Fun.dok E.F z7h (fun δ Qd h=>?_) (by decide) (fun cdv A outer s H E δ Qd hr h=>?_)
 ·obtain ⟨p,rfl,_⟩:=h;rfl
 ·obtain ⟨p,rfl,q⟩:=h
  have hu:=z4k hr
  refine ⟨_,(z0b (z1m (z1c os_inT z7l (z0g z0j z0v (pv 0) z0d (fun _ _=>rfl)) (z2a (z0a z0z (z0a z0z z0e))) rfl) (z0f (z0n (z4w cs_list z4j rfl T.z_list PyProof.Rows.boot_list (z0a (z0g z0j z0v (pv 0) z0d (fun _ _=>rfl)) z0e)))) z0t)
   (z0b (z1m (z1c os_inT z7l (z0g z0j z0v (pv 0) z0d (fun _ _=>rfl)) (z2a (z0a z0z (z0a z0z (z0a z0z z0e)))) rfl) (z0f (z0n (z1f (z0a (z0g z0j z0v (pv 0) z0d (fun _ _=>rfl)) z0e)))) z0t)
   (z0f (z0n (z1f z0e))))),?_⟩
  have sz:=z0x
  cases p with
  |none =>
   simp only [patD]
   walk_at "vd"
   refine ⟨by omega,?_⟩
   rw [if_neg (by decide)]
   refine ⟨by omega,?_⟩
   rw [if_neg (by decide)]
   exact ⟨by omega,q⟩
  |one s =>
   simp only [patD]
   walk_at "vd"
   refine ⟨by omega,?_⟩
   rw [if_neg (by decide)]
   refine ⟨by omega,?_⟩
   rw [if_neg (by decide)]
   exact ⟨by omega,q⟩
  |row ps =>
   simp only [patD]
   walk_at "vd"
   refine ⟨by omega,?_⟩
   rw [if_pos (.inl trivial)]
   exact q
  |any ps =>
   simp only [patD]
   walk_at "vd"
   refine ⟨by omega,?_⟩
   rw [if_pos (.inr trivial)]
   exact q
  |wrap k p =>
   cases k <;> simp only [patD,Wk.str] <;> walk_at "vd" <;> refine ⟨by omega,?_⟩ <;> rw [if_neg (by decide)] <;> refine ⟨by omega,?_⟩
   ·rw [if_pos (.inl trivial)];exact ⟨by omega,q⟩
   ·rw [if_pos (.inr (.inl trivial))];exact ⟨by omega,q⟩
   ·rw [if_pos (.inr (.inr trivial))];exact ⟨by omega,q⟩
theorem z3y {k:Nat}{ps:List Str}{R:RD}(h:∀ δ Q,¬ R δ Q):FnOk P w K mg base CX0 k f fd ps (spD R) :=
 ⟨fun vs H Q E q=>by obtain ⟨_,_,_,_,_,_,_,z,_⟩:=q;exact (h _ _ z).elim,fun A outer s H args us vs Q E _ _ _ _ q=>by obtain ⟨_,_,_,_,_,_,_,z,_⟩:=q;exact (h _ _ z).elim⟩
theorem pat_kind (p:Pat):(∃ s,p = .one s)∨((∀ s,p ≠ .one s)∧∃ (z:Str) (r:List D),patD p = .tup (.str z::r)∧z ≠ "one"∧(z = "row"↔∃ ps,p = .row ps)):=by
 cases p with
 |one s=>exact .inl ⟨s,rfl⟩
 |none=>exact .inr ⟨(fun s e=>by cases e),"none",_,rfl,by decide,⟨fun h=>absurd h (by decide),(fun ⟨_,e⟩=>by cases e)⟩⟩
 |row ps=>exact .inr ⟨(fun s e=>by cases e),"row",_,rfl,by decide,⟨fun _=>⟨ps,rfl⟩,fun _=>rfl⟩⟩
 |any ps=>exact .inr ⟨(fun s e=>by cases e),"any",_,rfl,by decide,⟨fun h=>absurd h (by decide),(fun ⟨_,e⟩=>by cases e)⟩⟩
 |wrap k p=>exact .inr ⟨(fun s e=>by cases e),k.str,_,rfl,by cases k <;> decide,⟨fun h=>absurd h (by cases k <;> decide),(fun ⟨_,e⟩=>by cases e)⟩⟩
def R_signs (n:Nat):RD:=fun δ Q=>∃ p:Pat,δ=[.fz (patD p)]∧dpP p < n∧szP p≤1000000∧Q true (.lst ((z0h p).map .str)) [.no]
theorem ok_signs {f1:Addr}{fd1:FuncData}(E_signs:Ent K mg "signs" s_signs ["pattern"] f fd) (T:Zs K mg) (E_patterns_within:Ent K mg "patterns_within" s_patterns_within ["pattern"] f1 fd1):∀ n,FnOk P w K mg base CX0 (n+2) f fd ["pattern"] (spD (R_signs n)):=by
 have G_patterns_within:FnOk P w K mg base CX0 1 f1 fd1 _ (spD z8a):=z7o E_patterns_within T
 intro n
 induction n with
 |zero=>exact z3y fun δ Q h=>by obtain ⟨_,_,h,_⟩:=h;exact Nat.not_lt_zero _ h
 |succ n G_signs =>
 refine VL.Fun.dok E_signs.F sc_signs (fun δ Qd h=>?_) (by decide) (fun cdv A outer s H E δ Qd hr h=>?_)
 ·obtain ⟨_,rfl,_⟩:=h;rfl
 ·obtain ⟨p,rfl,hdp,hsz,q⟩:=h
  refine ⟨_,(z0b (z1m (z1c z3d z3a (z0g z0j z0v (pv 0) z0d (fun _ _=>rfl)) z0z (z1a _)) (z0f (z0n (z1f (z0a (z0g z0j z0v (pv 0) z0d (fun _ _=>rfl)) z0e)))) z0t)
   (z0b (z0p (i:=1) sc_signs.nd rfl (Or.inl rfl) (z1f z0e))
   (z0b (z2t PassesOwn.never rfl (z1l (z0s G_patterns_within (hr.mono (by omega)) rfl E_patterns_within.g E_patterns_within.F.kp E_patterns_within.b z0y (z0a (dv 0) z0e))) (z1n (i:=2) sc_signs.nd rfl (Or.inl rfl)) (z0f (z2i (z5m ms_extend PySem.F.slot_list_extend PySem.F.type_list_extend y0a (pv 1) (z0a (z0s G_signs (hr.mono (by omega)) rfl E_signs.g E_signs.F.kp E_signs.b z0y (z0a (dv 2) z0e)) z0e)))))
   (z0f (z0n (dm 1)))))),?_⟩
  have sz:=z0x
  rcases pat_kind p with ⟨s,rfl⟩|⟨h1,z,r,ep,hz,_⟩
  ·simp only [patD]
   walk_at "vd"
   exact ⟨by omega,q⟩
  ·rw [ep]
   walk_at "vd"
   rw [if_neg (by simpa using hz),← ep]
   refine ⟨by omega,p,rfl,?_⟩
   walk_at "vd"
   refine z4v [2] (fun r δ=>∃ pre suf,kids p=pre ++ suf∧r=z1k suf∧δ=[.fz (patD p),.ob false (.lst ((z0r pre).map .str)),.no]) ⟨[],kids p,rfl,rfl,rfl⟩ ?_ ?_
   ·rintro d r δ ⟨pre,suf,e1,e2,rfl⟩
    cases suf with
    |nil=>cases e2
    |cons c suf =>
     cases e2
     walk_at "vd"
     have hc:c∈kids p:=by rw [e1];simp
     have e5:=z8t p
     rw [e1,z2f,szPs] at e5
     have e6:=z8f hc
     have e7:=z4m c
     have e8:=z5h pre
     refine ⟨c,rfl,by omega,by omega,?_⟩
     walk_at "vd"
     refine ⟨by simp;omega,pre ++ [c],suf,by simp [e1],rfl,?_⟩
     simp [z3w,z0r]
   ·rintro δ ⟨pre,suf,e1,e2,rfl⟩
    cases suf with
    |cons c suf=>cases e2
    |nil =>
     walk_at "vd"
     rw [List.append_nil] at e1
     rw [signsP_kids h1,e1] at q
     exact q
end
open PySem L2 VL
section
variable {P:Program}{w:World}{K:PySem.W.Frag}{mg:Str→Option Value}{base:Heap}{f:Addr}{fd:FuncData}
def R_bare (n:Nat):RD:=fun δ Q=>∃ p:Pat,δ=[.fz (patD p)]∧dpP p < n∧szP p≤1000000∧Q false (.bl (z2v p)) [.no]
theorem ok_bare (E_bare:Ent K mg "bare" s_bare ["pattern"] f fd) (T:Zs K mg):∀ n,FnOk P w K mg base CX0 (n+2) f fd ["pattern"] (spD (R_bare n)):=by
 intro n
 induction n with
 |zero=>exact z3y fun δ Q h=>by obtain ⟨_,_,h,_⟩:=h;exact Nat.not_lt_zero _ h
 |succ n G_bare =>
 refine VL.Fun.dok E_bare.F sc_bare (fun δ Qd h=>?_) (by decide) (fun cdv A outer s H E δ Qd hr h=>?_)
 ·obtain ⟨_,rfl,_⟩:=h;rfl
 ·obtain ⟨p,rfl,hdp,hsz,q⟩:=h
  refine ⟨_,(z0b (z0p (i:=1) sc_bare.nd rfl (Or.inl rfl) (z0g z0j z0v (pv 0) z0d (fun _ _=>rfl)))
   (z0b (z1m (z1c z3d z3a (dv 1) z0z (z1a _)) (z0f (z0n (z1r cs_all (call_all_lst rfl) rfl T.z_all PyProof.Rows.boot_all (z0a (z3v ["inner"] ["pattern","kind"] rfl (show CScopeG (z0c s_bare) ["pattern","kind"] ["inner"] _ _ from ⟨rfl,by decide +kernel,by decide +kernel,by decide +kernel,by decide +kernel⟩) (z1l (z0g z0j z0v (pv 0) z0d (fun _ _=>rfl))) (fun _ _ _ _ _=>(z1s (i:=0) (by decide) (show List.Nodup (["inner","pattern","kind"]:List Str) from by decide +kernel) rfl (Or.inl rfl))) (fun _ _ _ _ _=>z5v) (fun _ _ _ _ _=>(z0s G_bare (hr.mono (by omega)) rfl E_bare.g E_bare.F.kp E_bare.b z0y (z0a (dv 0) z0e)))) z0e)))) z0t)
   (z0b (z1m (z1c z3d z3a (dv 1) z0z (z1a _)) (z0f (z0n (z1r cs_any (call_any_lst rfl) rfl T.z_any PyProof.Rows.boot_any (z0a (z3v ["inner"] ["pattern","kind"] rfl (show CScopeG (z0c s_bare) ["pattern","kind"] ["inner"] _ _ from ⟨rfl,by decide +kernel,by decide +kernel,by decide +kernel,by decide +kernel⟩) (z1l (z0g z0j z0v (pv 0) z0d (fun _ _=>rfl))) (fun _ _ _ _ _=>(z1s (i:=0) (by decide) (show List.Nodup (["inner","pattern","kind"]:List Str) from by decide +kernel) rfl (Or.inl rfl))) (fun _ _ _ _ _=>z5v) (fun _ _ _ _ _=>(z0s G_bare (hr.mono (by omega)) rfl E_bare.g E_bare.F.kp E_bare.b z0y (z0a (dv 0) z0e)))) z0e)))) z0t)
   (z0b (z1m (z1c z3d z3a (dv 1) z0z (z1a _)) (z0f (z0n (z0s G_bare (hr.mono (by omega)) rfl E_bare.g E_bare.F.kp E_bare.b z0y (z0a (z0g z0j z0v (pv 0) z0d (fun _ _=>rfl)) z0e)))) z0t)
   (z0f (z0n (de_cmp os_ne op_ne (dv 1) z0z (z1a _)))))))),?_⟩
  have sz:=z0x
  cases p with
  |none =>
   simp only [patD]
   walk_at "vd"
   rw [if_neg (by decide),if_neg (by decide),if_neg (by decide)]
   exact q
  |one s =>
   simp only [patD]
   walk_at "vd"
   rw [if_neg (by decide),if_neg (by decide),if_neg (by decide)]
   exact q
  |row ps =>
   simp only [patD]
   simp only [dpP] at hdp
   simp only [szP] at hsz
   have hl:=z4h ps
   walk_at "vd"
   rw [z2u]
   refine compL patD (fun p=>.bl (z2v p)) ps (by omega) (fun c hc Pq hP=>?_) ?_
   ·have h1:=z3q hc
    have h2:=z5f hc
    walk_at "vd"
    refine ⟨c,rfl,by omega,by omega,?_⟩
    walk_at "vd"
    exact hP
   ·refine ⟨ps.map z2v,by simp,?_⟩
    walk_at "vd"
    rw [y1c]
    exact q
  |any ps =>
   simp only [patD]
   simp only [dpP] at hdp
   simp only [szP] at hsz
   have hl:=z4h ps
   walk_at "vd"
   rw [if_neg (by decide)]
   rw [z2u]
   refine compL patD (fun p=>.bl (z2v p)) ps (by omega) (fun c hc Pq hP=>?_) ?_
   ·have h1:=z3q hc
    have h2:=z5f hc
    walk_at "vd"
    refine ⟨c,rfl,by omega,by omega,?_⟩
    walk_at "vd"
    exact hP
   ·refine ⟨ps.map z2v,by simp,?_⟩
    walk_at "vd"
    rw [y0b]
    exact q
  |wrap k p =>
   simp only [dpP] at hdp
   simp only [szP] at hsz
   cases k with
   |maybe =>
    simp only [patD,Wk.str]
    walk_at "vd"
    rw [if_neg (by decide),if_neg (by decide),if_neg (by decide)]
    exact q
   |many =>
    simp only [patD,Wk.str]
    walk_at "vd"
    rw [if_neg (by decide),if_neg (by decide),if_neg (by decide)]
    exact q
   |some =>
    simp only [patD,Wk.str]
    walk_at "vd"
    rw [if_neg (by decide),if_neg (by decide)]
    exact ⟨p,rfl,by omega,by omega,q⟩
end
open PySem L2 VL
theorem y0g:∀ ps qs:List Pat,z2k (ps ++ qs)=z2k ps ++ z2k qs
 | [],qs=>by simp [z2k]
 |p::ps,qs=>by simp only [List.cons_append,z2k,y0g ps qs,List.append_assoc]
theorem z6z:∀ ps qs:List Pat,z1w ps=true→z1y (ps ++ qs)=z1y ps ++ z1y qs
 | [],qs,_=>by simp [z1y]
 |p::ps,qs,h=>by
  simp only [z1w,Bool.and_eq_true] at h
  simp only [List.cons_append,z1y,h.1,if_true,z6z ps qs h.2,List.append_assoc]
theorem lastsR_no:∀ ps qs:List Pat,z1w qs=false→z3r (ps ++ qs)=z3r qs
 | [],qs,_=>rfl
 |p::ps,qs,h=>by
  have e:z1w (ps ++ qs)=false:=by rw [z6o,h,Bool.and_false]
  simp only [List.cons_append,z3r,e,lastsR_no ps qs h]
  simp
theorem firstsP_kids {p:Pat}(h:∀ s,p ≠ .one s) (h':∀ ps,p ≠ .row ps):z1b p=z2k (kids p):=by
 cases p with
 |one s=>exact absurd rfl (h s)
 |row ps=>exact absurd rfl (h' ps)
 |_=>simp [z1b,z2k,kids]
theorem lastsP_kids {p:Pat}(h:∀ s,p ≠ .one s) (h':∀ ps,p ≠ .row ps):z1e p=z4s (kids p):=by
 cases p with
 |one s=>exact absurd rfl (h s)
 |row ps=>exact absurd rfl (h' ps)
 |_=>simp [z1e,z4s,kids]
theorem z7i (ps qs:List Pat):z1k (ps ++ qs)=z1k ps ++ z1k qs:=by simp [z2u]
section
variable {P:Program}{w:World}{K:PySem.W.Frag}{mg:Str→Option Value}{base:Heap}{f:Addr}{fd:FuncData}
def z9z (n:Nat):RD:=fun δ Q=>∃ p:Pat,δ=[.fz (patD p)]∧dpP p < n∧szP p≤1000000∧Q true (.lst ((z1b p).map .str)) [.no]
def R_lasts (n:Nat):RD:=fun δ Q=>∃ p:Pat,δ=[.fz (patD p)]∧dpP p < n∧szP p≤1000000∧Q true (.lst ((z1e p).map .str)) [.no]
theorem y0k {f1 f2:Addr}{fd1 fd2:FuncData}(E_firsts:Ent K mg "firsts" s_firsts ["pattern"] f fd) (T:Zs K mg) (E_patterns_within:Ent K mg "patterns_within" s_patterns_within ["pattern"] f1 fd1) (E_bare:Ent K mg "bare" s_bare ["pattern"] f2 fd2):∀ n,FnOk P w K mg base CX0 (n+3) f fd ["pattern"] (spD (z9z n)):=by
 have G_patterns_within:FnOk P w K mg base CX0 1 f1 fd1 _ (spD z8a):=z7o E_patterns_within T
 intro n
 induction n with
 |zero=>exact z3y fun δ Q h=>by obtain ⟨_,_,h,_⟩:=h;exact Nat.not_lt_zero _ h
 |succ n G_firsts =>
 have G_bare:FnOk P w K mg base CX0 (n+2) f2 fd2 _ (spD (R_bare n)):=ok_bare E_bare T n
 refine VL.Fun.dok E_firsts.F sc_firsts (fun δ Qd h=>?_) (by decide) (fun cdv A outer s H E δ Qd hr h=>?_)
 ·obtain ⟨_,rfl,_⟩:=h;rfl
 ·obtain ⟨p,rfl,hdp,hsz,q⟩:=h
  refine ⟨_,(z0b (z1m (z1c z3d z3a (z0g z0j z0v (pv 0) z0d (fun _ _=>rfl)) z0z (z1a _)) (z0f (z0n (z1f (z0a (z0g z0j z0v (pv 0) z0d (fun _ _=>rfl)) z0e)))) z0t)
   (z0b (z0p (i:=1) sc_firsts.nd rfl (Or.inl rfl) (z1f z0e))
   (z0b (z2t PassesOwn.never rfl (z1l (z0s G_patterns_within (hr.mono (by omega)) rfl E_patterns_within.g E_patterns_within.F.kp E_patterns_within.b z0y (z0a (dv 0) z0e))) (z1n (i:=2) sc_firsts.nd rfl (Or.inl rfl)) (z0b (z2i (z5m ms_extend PySem.F.slot_list_extend PySem.F.type_list_extend y0a (pv 1) (z0a (z0s G_firsts (hr.mono (by omega)) rfl E_firsts.g E_firsts.F.kp E_firsts.b z0y (z0a (dv 2) z0e)) z0e)))
   (z0f (z1m (dt_w (z9b (z1c z3d z3a (z0g z0j z0v (pv 0) z0d (fun _ _=>rfl)) z0z (z1a _)) (z5t (z4y (z3p (z0s G_bare (hr.mono (by omega)) rfl E_bare.g E_bare.F.kp E_bare.b z0y (z0a (dv 2) z0e))))))) (z0f ds_break) z0t))))
   (z0f (z0n (dm 1)))))),?_⟩
  have sz:=z0x
  rcases pat_kind p with ⟨s,rfl⟩|⟨h1,z,r,ep,hz,hrow⟩
  ·simp only [patD]
   walk_at "vd"
   exact ⟨by omega,q⟩
  ·have er:=ep
   rw [ep]
   walk_at "vd"
   rw [if_neg (by simpa using hz),← ep]
   refine ⟨by omega,p,rfl,?_⟩
   walk_at "vd"
   by_cases hzr:z = "row"
   ·obtain ⟨ps,rfl⟩:=hrow.mp hzr
    subst hzr
    simp only [kids] at *
    refine z4v [2] (fun r δ=>∃ pre suf,ps=pre ++ suf∧r=z1k suf∧z1w pre=true∧δ=[.fz (patD (.row ps)),.ob false (.lst ((z1y pre).map .str)),.no]) ⟨[],ps,rfl,rfl,rfl,rfl⟩ ?_ ?_
    ·rintro d r δ ⟨pre,suf,e1,e2,hb,rfl⟩
     cases suf with
     |nil=>cases e2
     |cons c suf =>
      cases e2
      simp only [patD]
      walk_at "vd"
      have hc:c∈kids (.row ps):=by rw [e1];simp [kids]
      have e5:=z8t (.row ps)
      rw [show kids (.row ps)=ps from rfl,e1,z2f,szPs] at e5
      rw [← e1] at e5
      have e6:=z8f hc
      have e7:=z3g c
      have e9:=z6w pre
      refine ⟨c,rfl,by omega,by omega,?_⟩
      walk_at "vd"
      refine ⟨by simp;omega,c,rfl,by omega,by omega,?_⟩
      walk_at "vd"
      cases hbc:z2v c with
      |true =>
       rw [if_neg (by simp)]
       refine ⟨pre ++ [c],suf,by simp [e1],rfl,by simp [z6o,z1w,hb,hbc],?_⟩
       rw [z6z _ _ hb]
       simp [z1y]
      |false =>
       rw [if_pos (by simp)]
       simp only [z1b,e1,z6z _ _ hb,z1y,hbc] at q
       simpa using q
    ·rintro δ ⟨pre,suf,e1,e2,hb,rfl⟩
     cases suf with
     |cons c suf=>cases e2
     |nil =>
      walk_at "vd"
      rw [List.append_nil] at e1
      subst e1
      exact q
   ·have hnr:∀ ps,p ≠ .row ps:=fun ps e=>hzr (hrow.mpr ⟨ps,e⟩)
    refine z4v [2] (fun r δ=>∃ pre suf,kids p=pre ++ suf∧r=z1k suf∧δ=[.fz (patD p),.ob false (.lst ((z2k pre).map .str)),.no]) ⟨[],kids p,rfl,rfl,rfl⟩ ?_ ?_
    ·rintro d r δ ⟨pre,suf,e1,e2,rfl⟩
     cases suf with
     |nil=>cases e2
     |cons c suf =>
      cases e2
      rw [ep]
      walk_at "vd"
      have hc:c∈kids p:=by rw [e1];simp
      have e5:=z8t p
      rw [e1,z2f,szPs] at e5
      have e6:=z8f hc
      have e7:=z3g c
      have e9:=z6s pre
      refine ⟨c,rfl,by omega,by omega,?_⟩
      walk_at "vd"
      refine ⟨by simp;omega,?_⟩
      rw [if_neg (by simpa using hzr)]
      refine ⟨pre ++ [c],suf,by simp [e1],rfl,?_⟩
      rw [y0g]
      simp [z2k]
    ·rintro δ ⟨pre,suf,e1,e2,rfl⟩
     cases suf with
     |cons c suf=>cases e2
     |nil =>
      walk_at "vd"
      rw [List.append_nil] at e1
      rw [firstsP_kids h1 hnr,e1] at q
      exact q
theorem ok_lasts {f1 f2:Addr}{fd1 fd2:FuncData}(E_lasts:Ent K mg "lasts" s_lasts ["pattern"] f fd) (T:Zs K mg) (E_patterns_within:Ent K mg "patterns_within" s_patterns_within ["pattern"] f1 fd1) (E_bare:Ent K mg "bare" s_bare ["pattern"] f2 fd2):∀ n,FnOk P w K mg base CX0 (n+3) f fd ["pattern"] (spD (R_lasts n)):=by
 have G_patterns_within:FnOk P w K mg base CX0 1 f1 fd1 _ (spD z8a):=z7o E_patterns_within T
 intro n
 induction n with
 |zero=>exact z3y fun δ Q h=>by obtain ⟨_,_,h,_⟩:=h;exact Nat.not_lt_zero _ h
 |succ n G_lasts =>
 have G_bare:FnOk P w K mg base CX0 (n+2) f2 fd2 _ (spD (R_bare n)):=ok_bare E_bare T n
 refine VL.Fun.dok E_lasts.F sc_lasts (fun δ Qd h=>?_) (by decide) (fun cdv A outer s H E δ Qd hr h=>?_)
 ·obtain ⟨_,rfl,_⟩:=h;rfl
 ·obtain ⟨p,rfl,hdp,hsz,q⟩:=h
  refine ⟨_,(z0b (z1m (z1c z3d z3a (z0g z0j z0v (pv 0) z0d (fun _ _=>rfl)) z0z (z1a _)) (z0f (z0n (z1f (z0a (z0g z0j z0v (pv 0) z0d (fun _ _=>rfl)) z0e)))) z0t)
   (z0b (z0p (i:=1) sc_lasts.nd rfl (Or.inl rfl) (z1f z0e))
   (z0b (z2t PassesOwn.never rfl (di_rev rfl T.z_reversed (z0s G_patterns_within (hr.mono (by omega)) rfl E_patterns_within.g E_patterns_within.F.kp E_patterns_within.b z0y (z0a (dv 0) z0e))) (z1n (i:=2) sc_lasts.nd rfl (Or.inl rfl)) (z0b (z0p (i:=1) sc_lasts.nd rfl (Or.inl rfl) (z0m z3n z3i (z0s G_lasts (hr.mono (by omega)) rfl E_lasts.g E_lasts.F.kp E_lasts.b z0y (z0a (dv 2) z0e)) (dv 1)))
   (z0f (z1m (dt_w (z9b (z1c z3d z3a (z0g z0j z0v (pv 0) z0d (fun _ _=>rfl)) z0z (z1a _)) (z5t (z4y (z3p (z0s G_bare (hr.mono (by omega)) rfl E_bare.g E_bare.F.kp E_bare.b z0y (z0a (dv 2) z0e))))))) (z0f ds_break) z0t))))
   (z0f (z0n (dm 1)))))),?_⟩
  have sz:=z0x
  rcases pat_kind p with ⟨s,rfl⟩|⟨h1,z,r,ep,hz,hrow⟩
  ·simp only [patD]
   walk_at "vd"
   exact ⟨by omega,q⟩
  ·have er:=ep
   rw [ep]
   walk_at "vd"
   rw [if_neg (by simpa using hz),← ep]
   refine ⟨by omega,p,rfl,?_⟩
   walk_at "vd"
   by_cases hzr:z = "row"
   ·obtain ⟨ps,rfl⟩:=hrow.mp hzr
    subst hzr
    simp only [kids] at *
    refine z4v [2] (fun r δ=>∃ pre suf,ps=pre ++ suf∧r=(z1k pre).reverse∧z1w suf=true∧δ=[.fz (patD (.row ps)),.ob false (.lst ((z3r suf).map .str)),.no]) ⟨ps,[],by simp,rfl,rfl,rfl⟩ ?_ ?_
    ·rintro d r δ ⟨pre,suf,e1,e2,hb,rfl⟩
     rcases List.eq_nil_or_concat pre with rfl|⟨pre,c,rfl⟩
     ·cases e2
     ·rw [List.concat_eq_append,z7i,z1k,z1k,List.reverse_append] at e2
      cases e2
      rw [List.concat_eq_append,List.append_assoc] at e1
      simp only [patD]
      walk_at "vd"
      have hc:c∈kids (.row ps):=by rw [e1];simp [kids]
      have e5:=z8t (.row ps)
      rw [show kids (.row ps)=ps from rfl,e1,z2f,z2f,szPs,szPs] at e5
      rw [← e1] at e5
      have e6:=z8f hc
      have e7:=z3z c
      have e9:=z8p suf
      refine ⟨c,rfl,by omega,by omega,?_⟩
      walk_at "vd"
      refine ⟨by simp;omega,c,rfl,by omega,by omega,?_⟩
      walk_at "vd"
      have el:z3r (c::suf)=z1e c ++ z3r suf:=by simp [z3r,hb]
      cases hbc:z2v c with
      |true =>
       rw [if_neg (by simp)]
       refine ⟨pre,c::suf,by simp [e1],rfl,by simp [z1w,hb,hbc],?_⟩
       rw [el]
       simp
      |false =>
       rw [if_pos (by simp)]
       have en:z1w (c::suf)=false:=by simp [z1w,hbc]
       have eq:z1e (.row ps)=z1e c ++ z3r suf:=by
        rw [z1e,e1,List.singleton_append,lastsR_no _ _ en,el]
       rw [eq] at q
       simpa using q
    ·rintro δ ⟨pre,suf,e1,e2,hb,rfl⟩
     have ep:pre=[]:=by
      have:=congrArg List.length e2
      rw [List.length_reverse,z4z] at this
      exact List.length_eq_zero_iff.mp this.symm
     subst ep
     walk_at "vd"
     rw [List.nil_append] at e1
     subst e1
     exact q
   ·have hnr:∀ ps,p ≠ .row ps:=fun ps e=>hzr (hrow.mpr ⟨ps,e⟩)
    refine z4v [2] (fun r δ=>∃ pre suf,kids p=pre ++ suf∧r=(z1k pre).reverse∧δ=[.fz (patD p),.ob false (.lst ((z4s suf).map .str)),.no]) ⟨kids p,[],by simp,rfl,rfl⟩ ?_ ?_
    ·rintro d r δ ⟨pre,suf,e1,e2,rfl⟩
     rcases List.eq_nil_or_concat pre with rfl|⟨pre,c,rfl⟩
     ·cases e2
     ·rw [List.concat_eq_append,z7i,z1k,z1k,List.reverse_append] at e2
      cases e2
      rw [List.concat_eq_append,List.append_assoc] at e1
      rw [ep]
      walk_at "vd"
      have hc:c∈kids p:=by rw [e1];simp
      have e5:=z8t p
      rw [e1,z2f,z2f,szPs,szPs] at e5
      have e6:=z8f hc
      have e7:=z3z c
      have e9:=z8n suf
      refine ⟨c,rfl,by omega,by omega,?_⟩
      walk_at "vd"
      refine ⟨by simp;omega,?_⟩
      rw [if_neg (by simpa using hzr)]
      refine ⟨pre,c::suf,by simp [e1],rfl,?_⟩
      simp [z4s]
    ·rintro δ ⟨pre,suf,e1,e2,rfl⟩
     have ep':pre=[]:=by
      have:=congrArg List.length e2
      rw [List.length_reverse,z4z] at this
      exact List.length_eq_zero_iff.mp this.symm
     subst ep'
     walk_at "vd"
     rw [List.nil_append] at e1
     rw [lastsP_kids h1 hnr,e1] at q
     exact q
end
open PySem L2 VL
local macro_rules|`(tactic| walk_at "rd")=>do
 let v←("L2.start tSeq tNext tAsg gName tVar tC tOp tTest tIfS tRet tDrop y1x y1p tNil tB tTup tLst tIf tRev rEq scal z5q rExtend rCat tLM tDGet sDPut tDNewK tB upd_none z0l and_imp ne_eq HO.lst.injEq HO.tup.injEq cxOf_K cxOf_A tFor_r1 tFor_l List.map_cons List.map_nil List.length_cons List.length_nil Nat.reduceAdd Nat.reduceSub List.replicate_succ List.replicate_zero List.cons_append List.nil_append List.append_nil List.getElem?_cons_zero List.getElem?_cons_succ List.set_cons_zero List.set_cons_succ Option.some.injEq V.int.injEq V.str.injEq V.ref.injEq V.bl.injEq V.ty.injEq List.cons.injEq exists_eq_left' and_true true_and and_assoc exists_and_left reduceCtorEq false_and false_or or_false decide_eq_true_eq if_true if_false Bool.true_eq_false Bool.false_eq_true Bool.not_true Bool.not_false Bool.not_eq_eq_eq_not".splitOn " ").mapM fun n=>`(Lean.Parser.Tactic.simpLemma| $(Lean.mkIdent n.toName):term)
 `(tactic| simp only [$(v.toArray),*])
local macro_rules|`(tactic| walk_at "rs")=>do
 let v←("L2.start tSeq tNext tAsg gName tVar tC tOp tTest tRet tDrop y1x y1p tNil tB tTup tLst tIf tRev rEq scal z5q rExtend rCat tLM tDGet sDPut tDNewK tB upd_none z0l and_imp ne_eq HO.lst.injEq HO.tup.injEq cxOf_K cxOf_A tFor_r1 tFor_l List.map_cons List.map_nil List.length_cons List.length_nil Nat.reduceAdd Nat.reduceSub List.replicate_succ List.replicate_zero List.cons_append List.nil_append List.append_nil List.getElem?_cons_zero List.getElem?_cons_succ List.set_cons_zero List.set_cons_succ Option.some.injEq V.int.injEq V.str.injEq V.ref.injEq V.bl.injEq V.ty.injEq List.cons.injEq exists_eq_left' and_true true_and and_assoc exists_and_left reduceCtorEq false_and false_or or_false decide_eq_true_eq if_true if_false Bool.true_eq_false Bool.false_eq_true Bool.not_true Bool.not_false Bool.not_eq_eq_eq_not".splitOn " ").mapM fun n=>`(Lean.Parser.Tactic.simpLemma| $(Lean.mkIdent n.toName):term)
 `(tactic| simp only [$(v.toArray),*])
theorem hu1 {n:Nat}(h:n+100 < cLine):n+1 < cLine:=by omega
theorem z2s {R:RD}{vs:List V}{ds:List D}{H:Hp}{Q:VK}{E:XK}{Qd:Bool→D→List Slot→Prop}(r:Reps H ds vs) (h:R (ds.map .fz) Qd) (k:∀ b d δ' v H',Same H H'→Qd b d δ'→Rep H' d v→Q v H'):spD R vs H Q E:=by
 refine ⟨_,[],H,_,Qd,fun p a e=>by simp at e,y2h (Same.refl _) r,h,fun b d v δ' F' H' I q=>?_⟩
 obtain ⟨F2,s,I2,rv⟩:=I.fr
 exact k b d δ' v H' I.base q (Rep.mono I2.sub _ _ rv)
theorem fn_noneS {P:Program}{w:World}{K:PySem.W.Frag}{mg:Str→Option Value}{base:Heap}{f:Addr}{fd:FuncData}{k:Nat}{ps:List Str}{S:Sp}(h:∀ vs H Q E,¬ S vs H Q E):FnOk P w K mg base CX0 k f fd ps S :=
 ⟨fun vs H Q E q=>(h _ _ _ _ q).elim,fun A outer s H args us vs Q E _ _ _ _ q=>(h _ _ _ _ q).elim⟩
structure Fol (H:Hp) (a:Addr) (okvs:List (Key × V)) (S:List Str) (ad:Str→Addr) (M:Str→Str→Bool) (c:Nat):Prop where
 at_:H a=some (.dK okvs)
 out:∀ s∈S,valV okvs (.inr s)=some (.ref (ad s))
 inj:∀ s∈S,∀ s' ∈ S,ad s=ad s'→s=s'
 na:∀ s∈S,ad s≠a
 inn:∀ s∈S,∃ kvs,H (ad s)=some (.dK kvs)∧kvs.length≤c∧(∀ kv∈kvs,kv.2 = .bl true∧∃ t,kv.1 = .inr t)∧∀ t,(valV kvs (.inr t)).isSome=M s t
def Kp (S:List Str) (ad:Str→Addr) (H H':Hp):Prop:=∀ b o,(∀ s∈S,b≠ad s)→H b=some o→H' b=some o
theorem Kp.refl {S:List Str}{ad:Str→Addr}{H:Hp}:Kp S ad H H:=fun _ _ _ e=>e
theorem Kp.trans {S:List Str}{ad:Str→Addr}{H H' H'':Hp}(h:Kp S ad H H') (h':Kp S ad H' H''):Kp S ad H H'':=fun b o n e=>h' b o n (h b o n e)
theorem Kp.of {S:List Str}{ad:Str→Addr}{H H':Hp}(h:Same H H'):Kp S ad H H':=fun b o _ e=>h b o e
section
variable {H:Hp}{a:Addr}{okvs:List (Key × V)}{S:List Str}{ad:Str→Addr}{M:Str→Str→Bool}{c:Nat}
theorem Fol.lst (h:Fol H a okvs S ad M c) {b:Addr}{xs:List V}(e:H b=some (.lst xs)):∀ s∈S,b≠ad s:=fun s hs z=>by
 obtain ⟨kvs,e',_⟩:=h.inn s hs
 rw [← z,e] at e';cases e'
theorem Fol.tup (h:Fol H a okvs S ad M c) {b:Addr}{xs:List V}(e:H b=some (.tup xs)):∀ s∈S,b≠ad s:=fun s hs z=>by
 obtain ⟨kvs,e',_⟩:=h.inn s hs
 rw [← z,e] at e';cases e'
theorem Fol.same {H':Hp}(h:Fol H a okvs S ad M c) (s:Same H H'):Fol H' a okvs S ad M c :=
 ⟨s _ _ h.at_,h.out,h.inj,h.na,fun z hz=>by obtain ⟨kvs,e,r⟩:=h.inn z hz;exact ⟨kvs,s _ _ e,r⟩⟩
theorem Fol.cong {M':Str→Str→Bool}{c':Nat}(h:Fol H a okvs S ad M c) (e:∀ s∈S,∀ t,M s t=M' s t) (l:c≤c'):Fol H a okvs S ad M' c' :=
 ⟨h.at_,h.out,h.inj,h.na,fun z hz=>by obtain ⟨kvs,e1,e2,e3,e4⟩:=h.inn z hz;exact ⟨kvs,e1,by omega,e3,fun t=>by rw [e4,e z hz]⟩⟩
theorem putK_len {κ:Type}[DecidableEq κ] (kvs:List (κ × V)) (k:κ) (v:V):(putK kvs k v).length≤kvs.length+1:=by
 unfold putK
 split <;> simp
theorem putK_mem {κ:Type}[DecidableEq κ] {kvs:List (κ × V)}{k:κ}{v:V}{kv:κ × V}(h:kv∈putK kvs k v):kv∈kvs∨kv=(k,v):=by
 unfold putK at h
 split at h
 ·obtain ⟨q,hq,e⟩:=List.mem_map.mp h
  split at e
  ·rename_i z;right;rw [← e,z]
  ·left;rw [← e];exact hq
 ·rcases List.mem_append.mp h with h|h
  ·exact .inl h
  ·exact .inr (by simpa using h)
theorem Fol.put {kvs:List (Key × V)}{s t:Str}(h:Fol H a okvs S ad M c) (hs:s∈S) (e:H (ad s)=some (.dK kvs)) :
  Fol (upd H (ad s) (.dK (putK kvs (.inr t) (.bl true)))) a okvs S ad (fun s' t'=>M s' t' || (decide (s' = s) && decide (t' = t))) (c+1) where
 at_:=by rw [z0i fun z=>h.na s hs z.symm];exact h.at_
 out:=h.out
 inj:=h.inj
 na:=h.na
 inn:=fun s' hs'=>by
  by_cases z:s' = s
  ·subst z
   obtain ⟨kvs',e',l,all,m⟩:=h.inn s' hs'
   rw [e] at e';cases e'
   refine ⟨_,z0l,Nat.le_trans (putK_len _ _ _) (by omega),fun kv hkv=>?_,fun t'=>?_⟩
   ·rcases putK_mem hkv with hk|rfl
    ·exact all kv hk
    ·exact ⟨rfl,t,rfl⟩
   ·rw [valV_put]
    by_cases zt:t' = t
    ·subst zt;simp
    ·rw [if_neg (fun z=>zt (Sum.inr.inj z)),m];simp [zt]
  ·obtain ⟨kvs',e',l,all,m⟩:=h.inn s' hs'
   refine ⟨kvs',by rw [z0i fun y=>z (h.inj s' hs' s hs y)];exact e',by omega,all,fun t'=>?_⟩
   rw [m];simp [z]
end
section
variable {P:Program}{w:World}{K:PySem.W.Frag}{mg:Str→Option Value}{base:Heap}{f:Addr}{fd:FuncData}
def sp_link:Sp:=fun vs H Q _=>∃ (e b a:Addr) (ends begins:List Str) (okvs:List (Key × V)) (S:List Str) (ad:Str→Addr) (M:Str→Str→Bool) (c:Nat),vs=[.ref e,.ref b,.ref a]∧H e=some (.lst (ends.map .str))∧H b=some (.lst (begins.map .str))∧Fol H a okvs S ad M c ∧
 (∀ s∈ends,s∈S)∧ends.length≤100∧begins.length≤100∧c+10000 < sizeLine∧∀ H',Kp S ad H H'→Fol H' a okvs S ad (fun s t=>M s t || (decide (s∈ends) && decide (t∈begins))) (c+10000)→Q .non H'
theorem ok_link (E_link:Ent K mg "link" s_link ["ends","begins","followers"] f fd) (T:Zs K mg):FnOk P w K mg base CX0 1 f fd ["ends","begins","followers"] sp_link:=by
 refine E_link.F.ok sc_link (fun vs H Q E h=>?_) (fun cdv A outer s H vs Q E hr h=>?_)
 ·obtain ⟨_,_,_,_,_,_,_,_,_,_,rfl,_⟩:=h;rfl
 ·obtain ⟨e,b,a,ends,begins,okvs,S,ad,M,c,rfl,he,hb,fo,sub,l1,l2,hc,q⟩:=h
  have hu:=z4k hr
  refine ⟨_,(z2m (z7p PassesOwn.never rfl (z5n (pv 0)) (z4o (i:=3) sc_link.nd rfl (Or.inl rfl)) (z2m (z7p PassesOwn.never rfl (z5n (pv 1)) (z4o (i:=4) sc_link.nd rfl (Or.inl rfl)) (z2m (ps_dput (hu1 hu) (pe_dget (hu1 hu) (pv 2) (pv 3) (fun _ _=>rfl)) (pv 4) pe_bl rfl)))))),?_⟩
  have sz:=z0x
  walk_at "rs"
  refine ⟨⟨_,SqL.of he⟩,loopL (xs:=ends.map .str) (fun i σ H'=>∃ x3 x4,σ=[some (.ref e),some (.ref b),some (.ref a),x3,x4]∧Kp S ad H H'∧Fol H' a okvs S ad (fun s t=>M s t || (decide (s∈ends.take i) && decide (t∈begins))) (c+100 * i)) ⟨_,_,rfl,Kp.refl,fo.cong (fun s _ t=>by simp) (by omega)⟩ (fun i σ H' _ h=>?_) (fun i x σ H' hx h=>?_) fun σ H' h=>?_⟩
  ·obtain ⟨_,_,_,kp,_⟩:=h
   exact SqL.of (kp _ _ (fo.lst he) he)
  ·obtain ⟨x3,x4,rfl,kp,fo1⟩:=h
   obtain ⟨s,hs,rfl⟩:∃ s,ends[i]? = some s∧x = .str s:=by
    rw [List.getElem?_map] at hx
    obtain ⟨s,h1,h2⟩:=Option.map_eq_some_iff.mp hx
    exact ⟨s,h1,h2.symm⟩
   have hi:=(List.getElem?_eq_some_iff.mp hs).1
   have hsS:s∈S:=sub s (List.mem_of_getElem? hs)
   walk_at "rs"
   have hb':H' b=some (.lst (begins.map .str)):=kp _ _ (fo.lst hb) hb
   refine ⟨⟨_,SqL.of hb'⟩,loopL (xs:=begins.map .str) (fun j σ H2=>∃ x4,σ=[some (.ref e),some (.ref b),some (.ref a),some (.str s),x4]∧Kp S ad H H2∧Fol H2 a okvs S ad (fun s' t=>M s' t || (decide (s' ∈ ends.take i) && decide (t∈begins)) || (decide (s' = s) && decide (t∈begins.take j))) (c+100 * i+j)) ⟨_,rfl,kp,fo1.cong (fun s _ t=>by simp) (by omega)⟩ (fun j σ H2 _ h=>?_) (fun j x σ H2 hx h=>?_) fun σ H2 h=>?_⟩
   ·obtain ⟨_,_,kp,_⟩:=h
    exact SqL.of (kp _ _ (fo.lst hb) hb)
   ·obtain ⟨x4,rfl,kp2,fo2⟩:=h
    obtain ⟨t,ht,rfl⟩:∃ t,begins[j]? = some t∧x = .str t:=by
     rw [List.getElem?_map] at hx
     obtain ⟨s,h1,h2⟩:=Option.map_eq_some_iff.mp hx
     exact ⟨s,h1,h2.symm⟩
    have hj:=(List.getElem?_eq_some_iff.mp ht).1
    obtain ⟨kvs,ek,lk,_⟩:=fo2.inn s hsS
    walk_at "rd"
    refine ⟨_,DGet.s fo2.at_ (fo2.out s hsS),ad s,rfl,_,DPut.s ek (by omega),fun b' o n e'=>?_,(fo2.put (t:=t) hsS ek).cong (fun s' _ t'=>?_) (by omega)⟩
    ·rw [z0i (n s hsS)];exact kp2 b' o n e'
    ·have et:begins.take (j+1)=begins.take j ++ [t]:=by rw [List.take_add_one,ht];rfl
     rw [et]
     simp only [List.mem_append,List.mem_singleton]
     by_cases z1:s' = s <;> by_cases z2:t' ∈ begins.take j <;> by_cases z3:t' = t <;> simp [z1,z2,z3]
   ·obtain ⟨x4,rfl,kp2,fo2⟩:=h
    refine ⟨_,_,rfl,kp2,fo2.cong (fun s' _ t=>?_) (by rw [List.length_map];omega)⟩
    have et:ends.take (i+1)=ends.take i ++ [s]:=by rw [List.take_add_one,hs];rfl
    rw [et,List.length_map,List.take_length]
    simp only [List.mem_append,List.mem_singleton]
    by_cases z1:s' ∈ ends.take i <;> by_cases z2:s' = s <;> by_cases z3:t∈begins <;> simp [z1,z2,z3]
  ·obtain ⟨x3,x4,rfl,kp,fo1⟩:=h
   rw [List.length_map,List.take_length] at fo1
   exact q _ kp (fo1.cong (fun _ _ _=>rfl) (by omega))
end
open PySem L2 VL
def z4u:List Str→List Pat→Str→Str→Bool
 |_,[]=>fun _ _=>false
 |ends,c::cs=>fun s t=>(decide (s∈ends) && decide (t∈z1b c)) || z4u (z1e c ++ if z2v c then ends else []) cs s t
mutual
def LkP:Pat→Str→Str→Bool
 |.none=>fun _ _=>false
 |.one _=>fun _ _=>false
 |.row ps=>fun s t=>LkL ps s t || z4u [] ps s t
 |.any ps=>fun s t=>LkL ps s t
 |.wrap .maybe p=>fun s t=>LkP p s t
 |.wrap _ p=>fun s t=>LkP p s t || (decide (s∈z1e p) && decide (t∈z1b p))
def LkL:List Pat→Str→Str→Bool
 | []=>fun _ _=>false
 |p::ps=>fun s t=>LkP p s t || LkL ps s t
end
mutual
theorem z1x {s:Str}:∀ p:Pat,s∈z1e p→s∈z0h p
 |.none,h=>by simp [z1e] at h
 |.one _,h=>by simpa [z1e,z0h] using h
 |.row ps,h=>by simp only [z1e,z0h] at h ⊢;exact z5r ps h
 |.any ps,h=>by simp only [z1e,z0h] at h ⊢;exact z5u ps h
 |.wrap _ p,h=>by simp only [z1e,z0h] at h ⊢;exact z1x p h
theorem z5r {s:Str}:∀ ps:List Pat,s∈z3r ps→s∈z0r ps
 | [],h=>by simp [z3r] at h
 |p::ps,h=>by
  simp only [z3r,z0r,List.mem_append] at h ⊢
  rcases h with h|h
  ·split at h
   ·exact .inl (z1x p h)
   ·cases h
  ·exact .inr (z5r ps h)
theorem z5u {s:Str}:∀ ps:List Pat,s∈z4s ps→s∈z0r ps
 | [],h=>by simp [z4s] at h
 |p::ps,h=>by
  simp only [z4s,z0r,List.mem_append] at h ⊢
  rcases h with h|h
  ·exact .inl (z1x p h)
  ·exact .inr (z5u ps h)
end
theorem y1v {s:Str}{c:Pat}:∀ {ps:List Pat},c∈ps→s∈z0h c→s∈z0r ps
 |q::ps,h,hs=>by
  simp only [z0r,List.mem_append]
  rcases List.mem_cons.mp h with rfl|h
  ·exact .inl hs
  ·exact .inr (y1v h hs)
theorem Kp.frz {S:List Str}{ad:Str→Addr}{F H H':Hp}(h:Kp S ad H H') (s:Same F H) (n:∀ s∈S,F (ad s)=none):Same F H':=fun b o e=>h b o (fun z hz y=>by rw [y,n z hz] at e;cases e) (s b o e)
theorem reps_at {F:Hp}:∀ {ps:List Pat}{vs:List V}{i:Nat}{v:V},Reps F (z1k ps) vs→vs[i]? = some v→∃ c,ps[i]? = some c∧Rep F (patD c) v
 |ps,vs,i,v,r,e=>by
  obtain ⟨d,ed,rd⟩:=r.get' e
  rw [z2u,List.getElem?_map] at ed
  obtain ⟨c,ec,rfl⟩:=Option.map_eq_some_iff.mp ed
  exact ⟨c,ec,rd⟩
section
variable {P:Program}{w:World}{K:PySem.W.Frag}{mg:Str→Option Value}{base:Heap}{f:Addr}{fd:FuncData}
def y0 (n:Nat):Sp:=fun vs H Q _=>∃ (l a:Addr) (ps:List Pat) (F:Hp) (okvs:List (Key × V)) (S:List Str) (ad:Str→Addr) (M:Str→Str→Bool) (c:Nat),vs=[.ref l,.ref a]∧Rep F (.lst (z1k ps)) (.ref l)∧Same F H∧(∀ s∈S,F (ad s)=none)∧Fol H a okvs S ad M c ∧
 (∀ s∈z0r ps,s∈S)∧szPs ps≤100∧dpPs ps < n∧c+10000 * ps.length < sizeLine∧∀ H',Kp S ad H H'→Fol H' a okvs S ad (fun s t=>M s t || z4u [] ps s t) (c+10000 * ps.length)→Q .non H'
theorem ok_link_row {f1 f2 f3 f4 f5:Addr}{fd1 fd2 fd3 fd4 fd5:FuncData}(E_link_row:Ent K mg "link_row" s_link_row ["patterns","followers"] f fd) (T:Zs K mg) (E_link:Ent K mg "link" s_link ["ends","begins","followers"] f1 fd1) (E_firsts:Ent K mg "firsts" s_firsts ["pattern"] f2 fd2) (E_lasts:Ent K mg "lasts" s_lasts ["pattern"] f3 fd3) (E_bare:Ent K mg "bare" s_bare ["pattern"] f4 fd4) (E_patterns_within:Ent K mg "patterns_within" s_patterns_within ["pattern"] f5 fd5) (n:Nat) :
  FnOk P w K mg base CX0 (n+4) f fd ["patterns","followers"] (y0 n):=by
 have G_link:FnOk P w K mg base CX0 1 f1 fd1 _ sp_link:=ok_link E_link T
 have G_firsts:FnOk P w K mg base CX0 (n+3) f2 fd2 _ (spD (z9z n)):=y0k E_firsts T E_patterns_within E_bare n
 have G_lasts:FnOk P w K mg base CX0 (n+3) f3 fd3 _ (spD (R_lasts n)):=ok_lasts E_lasts T E_patterns_within E_bare n
 have G_bare:FnOk P w K mg base CX0 (n+2) f4 fd4 _ (spD (R_bare n)):=ok_bare E_bare T n
 refine E_link_row.F.ok sc_link_row (fun vs H Q E h=>?_) (fun cdv A outer s H vs Q E hr h=>?_)
 ·obtain ⟨_,_,_,_,_,_,_,_,_,rfl,_⟩:=h;rfl
 ·obtain ⟨l,a,ps,F,okvs,S,ad,M,c,rfl,⟨_,us,e0,hl,rl⟩,sF,nF,fo,sub,l1,l2,hc,q⟩:=h
  cases e0
  have hu:=z4k hr
  refine ⟨_,(z1o (z5k (i:=2) sc_link_row.nd rfl (Or.inl rfl) (z5y z1g))
   (z2m (z7p PassesOwn.never rfl (z5n (pv 0)) (z4o (i:=3) sc_link_row.nd rfl (Or.inl rfl)) (z1o (z4e (z1t G_link (hr.mono (by omega)) rfl E_link.g E_link.F.kp E_link.b .nil z0y (z0k (pv 2) (z0k (z1t G_firsts (hr.mono (by omega)) rfl E_firsts.g E_firsts.F.kp E_firsts.b .nil z0y (z0k (pv 3) z1g)) (z0k (pv 1) z1g)))))
   (z2m (z5k (i:=2) sc_link_row.nd rfl (Or.inl rfl) (pe_op z3i (z1t G_lasts (hr.mono (by omega)) rfl E_lasts.g E_lasts.F.kp E_lasts.b .nil z0y (z0k (pv 3) z1g)) (pe_ifExp (y2j (z1t G_bare (hr.mono (by omega)) rfl E_bare.g E_bare.F.kp E_bare.b .nil z0y (z0k (pv 3) z1g))) (pv 2) (z5y z1g))))))))),?_⟩
  have sz:=z0x
  have plen:=z4h ps
  have ulen:=rl.len
  rw [z4z] at ulen
  walk_at "rs"
  refine ⟨by omega,fun p hp=>?_⟩
  have s0:Same H (upd H p (.lst [])):=Same.of_new hp
  refine ⟨⟨us,SqL.of (s0 _ _ (sF _ _ hl))⟩,loopL (xs:=us) (fun i σ H'=>∃ e Es M' x3,σ=[some (.ref l),some (.ref a),some (.ref e),x3]∧H' e=some (.lst (Es.map .str))∧(∀ s∈Es,s∈S)∧Es.length≤szPs (ps.take i)∧Kp S ad H H'∧Fol H' a okvs S ad M' (c+10000 * i)∧∀ s t,(M' s t || z4u Es (ps.drop i) s t)=(M s t || z4u [] ps s t)) ⟨p,[],M,_,rfl,z0l,fun s h=>(by cases h),by simp,Kp.of s0,(fo.same s0).cong (fun _ _ _=>rfl) (by omega),fun _ _=>rfl⟩ (fun i σ H' _ h=>?_) (fun i x σ H' hx h=>?_) fun σ H' h=>?_⟩
  ·obtain ⟨_,_,_,_,_,_,_,_,kp,_⟩:=h
   exact SqL.of (kp.frz sF nF _ _ hl)
  ·obtain ⟨e,Es,M',x3,rfl,he,hEs,lEs,kp,fo1,eqn⟩:=h
   obtain ⟨ch,hch,rch⟩:=reps_at rl hx
   have hmem:=List.mem_of_getElem? hch
   have d1:=z3q hmem
   have z1:=z5f hmem
   have f1:=z3g ch
   have la1:=z3z ch
   have hi:=(List.getElem?_eq_some_iff.mp hch).1
   have et:ps.take (i+1)=ps.take i ++ [ch]:=by rw [List.take_add_one,hch];rfl
   have ed:ps.drop i=ch::ps.drop (i+1):=by
    obtain ⟨hi,e⟩:=List.getElem?_eq_some_iff.mp hch
    rw [← e];exact List.drop_eq_getElem_cons hi
   have ez:=congrArg szPs (List.take_append_drop i ps)
   rw [z2f,ed,szPs] at ez
   have sF1:=kp.frz sF nF
   walk_at "rs"
   refine z2s (ds:=[patD ch]) (Qd:=fun b d _=>d = .lst ((z1b ch).map .str)) ⟨_,_,rfl,Rep.mono sF1 _ _ rch,rfl⟩ ⟨ch,rfl,by omega,by omega,rfl⟩ fun b1 dd1 δ1 v1 H1 s1 ed1 rd1=>?_
   subst ed1
   obtain ⟨b,bs,rfl,hb,rb⟩:=rd1
   rw [rb.strs] at hb
   refine ⟨e,b,a,Es,z1b ch,okvs,S,ad,M',_,rfl,s1 _ _ he,hb,fo1.same s1,hEs,by omega,by omega,by omega,fun H2 kp2 fo2=>?_⟩
   have sF2:Same F H2:=kp2.frz (sF1.trans s1) nF
   have kp02:Kp S ad H H2:=(kp.trans (.of s1)).trans kp2
   have he2:H2 e=some (.lst (Es.map .str)):=kp2 _ _ (fo1.lst he) (s1 _ _ he)
   refine z2s (ds:=[patD ch]) (Qd:=fun b d _=>d = .lst ((z1e ch).map .str)) ⟨_,_,rfl,Rep.mono sF2 _ _ rch,rfl⟩ ⟨ch,rfl,by omega,by omega,rfl⟩ fun b3 dd3 δ3 v3 H3 s3 ed3 rd3=>?_
   subst ed3
   obtain ⟨la,las,rfl,hla,rla⟩:=rd3
   rw [rla.strs] at hla
   refine z2s (ds:=[patD ch]) (Qd:=fun b d _=>d = .bl (z2v ch)) ⟨_,_,rfl,Rep.mono (sF2.trans s3) _ _ rch,rfl⟩ ⟨ch,rfl,by omega,by omega,rfl⟩ fun b4 dd4 δ4 v4 H4 s4 ed4 rd4=>?_
   subst ed4
   have s24:=s3.trans s4
   have eqn':∀ Es',(∀ s t,z4u Es (ps.drop i) s t=((decide (s∈Es) && decide (t∈z1b ch)) || z4u Es' (ps.drop (i+1)) s t))→∀ s t,((M' s t || (decide (s∈Es) && decide (t∈z1b ch))) || z4u Es' (ps.drop (i+1)) s t)=(M s t || z4u [] ps s t):=fun Es' h s t=>by
    rw [← eqn,h,Bool.or_assoc]
   have subl:∀ s∈z1e ch,s∈S:=fun s hs=>sub s (y1v hmem (z1x ch hs))
   refine ⟨z2v ch,rd4,?_⟩
   cases hb:z2v ch with
   |true =>
    rw [if_pos rfl]
    refine ⟨la,rfl,_,s4 _ _ hla,_,s24 _ _ he2,by simp;omega,fun p hp=>⟨z1e ch ++ Es,by simp,fun s hs=>?_,by rw [et,z2f,szPs,szPs];simp;omega,kp02.trans (.of (s24.trans (Same.of_new hp))),_,(fo2.same (s24.trans (Same.of_new hp))).cong (fun _ _ _=>rfl) (by omega),eqn' _ fun s t=>by rw [ed,z4u,hb];rfl⟩⟩
    rcases List.mem_append.mp hs with h|h
    ·exact subl s h
    ·exact hEs s h
   |false =>
    rw [if_neg (by simp)]
    refine ⟨by omega,fun p hp=>⟨la,rfl,_,(Same.of_new hp) _ _ (s4 _ _ hla),by simp;omega,fun p1 np hp1=>⟨z1e ch,rfl,subl,by rw [et,z2f,szPs,szPs];omega,?_,_,(fo2.same ((s24.trans (Same.of_new hp)).trans (Same.of_new (upd_none.mpr ⟨np,hp1⟩)))).cong (fun _ _ _=>rfl) (by omega),eqn' _ fun s t=>by rw [ed,z4u,hb];simp⟩⟩⟩
    exact kp02.trans (.of ((s24.trans (Same.of_new hp)).trans (Same.of_new (upd_none.mpr ⟨np,hp1⟩))))
  ·obtain ⟨e,Es,M',x3,rfl,he,hEs,lEs,kp,fo1,eqn⟩:=h
   rw [← ulen,List.drop_length] at eqn
   exact q _ kp (fo1.cong (fun s _ t=>by rw [← eqn];simp [z4u]) (by omega))
end
open PySem L2 VL
def noD (H:Hp):Hp:=fun b=>match H b with|some (.dK _)=>none|o=>o
theorem noD_sub {H:Hp}:Same (noD H) H:=fun b o e=>by
 unfold noD at e
 split at e
 ·cases e
 ·exact e
theorem noD_d {H:Hp}{b:Addr}{kvs:List (Key × V)}(e:H b=some (.dK kvs)):noD H b=none:=by unfold noD;rw [e]
theorem noD_t {H:Hp}{b:Addr}{xs:List V}(e:H b=some (.tup xs)):noD H b=some (.tup xs):=by unfold noD;rw [e]
theorem noD_l {H:Hp}{b:Addr}{xs:List V}(e:H b=some (.lst xs)):noD H b=some (.lst xs):=by unfold noD;rw [e]
mutual
theorem rep_noD {H:Hp}:∀ (p:Pat) (v:V),Rep H (patD p) v→Rep (noD H) (patD p) v
 |.none,v,h=>by
  obtain ⟨a,vs,e,h1,h2⟩:=h
  exact ⟨a,vs,e,noD_t h1,h2⟩
 |.one s,v,h=>by
  obtain ⟨a,vs,e,h1,h2⟩:=h
  exact ⟨a,vs,e,noD_t h1,h2⟩
 |.row ps,v,h=>by
  obtain ⟨a,vs,e,h1,u,r,e2,h2,u',r',e3,⟨l,us,e4,h4,h5⟩,h6⟩:=h
  exact ⟨a,vs,e,noD_t h1,u,r,e2,h2,u',r',e3,⟨l,us,e4,noD_l h4,z7f ps us h5⟩,h6⟩
 |.any ps,v,h=>by
  obtain ⟨a,vs,e,h1,u,r,e2,h2,u',r',e3,⟨l,us,e4,h4,h5⟩,h6⟩:=h
  exact ⟨a,vs,e,noD_t h1,u,r,e2,h2,u',r',e3,⟨l,us,e4,noD_l h4,z7f ps us h5⟩,h6⟩
 |.wrap k p,v,h=>by
  obtain ⟨a,vs,e,h1,u,r,e2,h2,u',r',e3,h3,h6⟩:=h
  exact ⟨a,vs,e,noD_t h1,u,r,e2,h2,u',r',e3,rep_noD p u' h3,h6⟩
theorem z7f {H:Hp}:∀ (ps:List Pat) (vs:List V),Reps H (z1k ps) vs→Reps (noD H) (z1k ps) vs
 | [],vs,h=>h
 |p::ps,vs,h=>by
  obtain ⟨v,r,e,h1,h2⟩:=h
  exact ⟨v,r,e,rep_noD p v h1,z7f ps r h2⟩
end
theorem Fol.noD {H:Hp}{a:Addr}{okvs:List (Key × V)}{S:List Str}{ad:Str→Addr}{M:Str→Str→Bool}{c:Nat}(h:Fol H a okvs S ad M c):∀ s∈S,noD H (ad s)=none:=fun s hs=>by
 obtain ⟨kvs,e,_⟩:=h.inn s hs
 exact noD_d e
theorem LkL_snoc (c:Pat) (s t:Str):∀ ps:List Pat,LkL (ps ++ [c]) s t=(LkL ps s t || LkP c s t)
 | []=>by simp [LkL]
 |p::ps=>by simp only [List.cons_append,LkL,LkL_snoc c s t ps,Bool.or_assoc]
theorem kids_signs {p:Pat}{s:Str}(h:s∈z0r (kids p)):s∈z0h p:=by
 cases p <;> simpa [kids,z0h,z0r] using h
section
variable {P:Program}{w:World}{K:PySem.W.Frag}{mg:Str→Option Value}{base:Heap}{f:Addr}{fd:FuncData}
def z6y (n:Nat):Sp:=fun vs H Q _=>∃ (x:V) (a:Addr) (p:Pat) (okvs:List (Key × V)) (S:List Str) (ad:Str→Addr) (M:Str→Str→Bool) (c:Nat),vs=[x,.ref a]∧Rep H (patD p) x∧Fol H a okvs S ad M c ∧
 (∀ s∈z0h p,s∈S)∧szP p≤100∧dpP p < n∧c+20000 * szP p < sizeLine∧∀ H',Kp S ad H H'→Fol H' a okvs S ad (fun s t=>M s t || LkP p s t) (c+(20000 * szP p - 10000))→Q .non H'
theorem ok_link_all {f1 f2 f3 f4 f5 f6:Addr}{fd1 fd2 fd3 fd4 fd5 fd6:FuncData}(E_link_all:Ent K mg "link_all" s_link_all ["pattern","followers"] f fd) (T:Zs K mg) (E_link:Ent K mg "link" s_link ["ends","begins","followers"] f1 fd1) (E_firsts:Ent K mg "firsts" s_firsts ["pattern"] f2 fd2) (E_lasts:Ent K mg "lasts" s_lasts ["pattern"] f3 fd3) (E_bare:Ent K mg "bare" s_bare ["pattern"] f4 fd4) (E_patterns_within:Ent K mg "patterns_within" s_patterns_within ["pattern"] f5 fd5) (E_link_row:Ent K mg "link_row" s_link_row ["patterns","followers"] f6 fd6) :
  ∀ n,FnOk P w K mg base CX0 (n+5) f fd ["pattern","followers"] (z6y n):=by
 have G_link:FnOk P w K mg base CX0 1 f1 fd1 _ sp_link:=ok_link E_link T
 have G_patterns_within:FnOk P w K mg base CX0 1 f5 fd5 _ (spD z8a):=z7o E_patterns_within T
 intro n
 induction n with
 |zero=>exact fn_noneS fun vs H Q E h=>by obtain ⟨_,_,_,_,_,_,_,_,_,_,_,_,_,h,_⟩:=h;exact Nat.not_lt_zero _ h
 |succ n ih =>
  have G_link_all:FnOk P w K mg base CX0 (n+5) f fd _ (z6y n):=ih
  have G_link_row:FnOk P w K mg base CX0 (n+4) f6 fd6 _ (y0 n):=ok_link_row E_link_row T E_link E_firsts E_lasts E_bare E_patterns_within n
  have G_firsts:FnOk P w K mg base CX0 (n+3) f2 fd2 _ (spD (z9z n)):=y0k E_firsts T E_patterns_within E_bare n
  have G_lasts:FnOk P w K mg base CX0 (n+3) f3 fd3 _ (spD (R_lasts n)):=ok_lasts E_lasts T E_patterns_within E_bare n
  refine E_link_all.F.ok sc_link_all (fun vs H Q E h=>?_) (fun cdv A outer s H vs Q E hr h=>?_)
  ·obtain ⟨_,_,_,_,_,_,_,_,rfl,_⟩:=h;rfl
  ·obtain ⟨x,a,p,okvs,S,ad,M,c,rfl,rx,fo,sub,l1,l2,hc,q⟩:=h
   have hu:=z4k hr
   refine ⟨_,(z1o (z7p PassesOwn.never rfl (z5n (z1t G_patterns_within (hr.mono (by omega)) rfl E_patterns_within.g E_patterns_within.F.kp E_patterns_within.b .nil z0y (z0k (pv 0) z1g))) (z4o (i:=2) sc_link_all.nd rfl (Or.inl rfl)) (z2m (z4e (z1t G_link_all (hr.mono (by omega)) rfl E_link_all.g E_link_all.F.kp E_link_all.b .nil z0y (z0k (pv 2) (z0k (pv 1) z1g))))))
   (z1o (ps_if (z8s z3a (z5z z0v (pv 0) z3j (fun _ _=>rfl)) pe_str (z1a _)) (z2m (z4e (z1t G_link_row (hr.mono (by omega)) rfl E_link_row.g E_link_row.F.kp E_link_row.b .nil z0y (z0k (z5z z0v (pv 0) z3j (fun _ _=>rfl)) (z0k (pv 1) z1g))))) y0t)
   (z2m (ps_if (z8s z7l (z5z z0v (pv 0) z3j (fun _ _=>rfl)) (pe_tup (z0k pe_str (z0k pe_str z1g))) rfl) (z2m (z4e (z1t G_link (hr.mono (by omega)) rfl E_link.g E_link.F.kp E_link.b .nil z0y (z0k (z1t G_lasts (hr.mono (by omega)) rfl E_lasts.g E_lasts.F.kp E_lasts.b .nil z0y (z0k (z5z z0v (pv 0) z3j (fun _ _=>rfl)) z1g)) (z0k (z1t G_firsts (hr.mono (by omega)) rfl E_firsts.g E_firsts.F.kp E_firsts.b .nil z0y (z0k (z5z z0v (pv 0) z3j (fun _ _=>rfl)) z1g)) (z0k (pv 1) z1g)))))) y0t)))),?_⟩
   have sz:=z0x
   walk_at "rs"
   refine z2s (ds:=[patD p]) (Qd:=fun b d _=>d = .lst (z1k (kids p))) ⟨_,_,rfl,rx,rfl⟩ ⟨p,rfl,rfl⟩ fun b1 dd1 δ1 v1 H1 s1 ed1 rd1=>?_
   subst ed1
   obtain ⟨l,us,rfl,hl,rl⟩:=rd1
   have fo1:=fo.same s1
   have rF:=z7f _ _ rl
   have nF:=fo1.noD
   have kz:=z8t p
   have ulen:=rl.len
   rw [z4z] at ulen
   refine ⟨l,rfl,⟨us,SqL.of hl⟩,loopL (xs:=us) (fun i σ H'=>∃ x2,σ=[some x,some (.ref a),x2]∧Kp S ad H1 H'∧Fol H' a okvs S ad (fun s t=>M s t || LkL ((kids p).take i) s t) (c+(20000 * szPs ((kids p).take i) - 10000 * i))) ⟨_,rfl,Kp.refl,fo1.cong (fun _ _ _=>by simp [LkL]) (by omega)⟩ (fun i σ H' _ h=>?_) (fun i x' σ H' hx h=>?_) fun σ H' h=>?_⟩
   ·obtain ⟨_,_,kp,_⟩:=h
    exact SqL.of (kp.frz noD_sub nF _ _ (noD_l hl))
   ·obtain ⟨x2,rfl,kp,fo2⟩:=h
    obtain ⟨ch,hch,rch⟩:=reps_at rF hx
    have hmem:=List.mem_of_getElem? hch
    have d1:=z8f hmem
    have hi:=(List.getElem?_eq_some_iff.mp hch).1
    have et:(kids p).take (i+1)=(kids p).take i ++ [ch]:=by rw [List.take_add_one,hch];rfl
    have ed:(kids p).drop i=ch::(kids p).drop (i+1):=by
     obtain ⟨hi,e⟩:=List.getElem?_eq_some_iff.mp hch
     rw [← e];exact List.drop_eq_getElem_cons hi
    have ez:=congrArg szPs (List.take_append_drop i (kids p))
    rw [z2f,ed,szPs] at ez
    have tl:=z4h ((kids p).take i)
    rw [List.length_take,Nat.min_eq_left (by omega)] at tl
    have cp:=szP_pos ch
    walk_at "rs"
    refine ⟨x',a,ch,okvs,S,ad,_,_,rfl,Rep.mono (kp.frz noD_sub nF) _ _ rch,fo2,fun s hs=>sub s (kids_signs (y1v hmem hs)),by omega,by omega,by omega,fun H2 kp2 fo3=>⟨kp.trans kp2,fo3.cong (fun s _ t=>?_) ?_⟩⟩
    ·rw [et,LkL_snoc,Bool.or_assoc]
    ·rw [et,z2f,szPs,szPs];omega
   ·obtain ⟨x2,rfl,kp,fo2⟩:=h
    rw [← ulen,List.take_length] at fo2
    have kp0:Kp S ad H H':=(Kp.of s1).trans kp
    have rx':=Rep.mono (kp0.frz noD_sub fo.noD) _ _ (rep_noD p x rx)
    have kl:=z4h (kids p)
    cases p with
    |none =>
     obtain ⟨tp,vs,rfl,ht,u,r,rfl,h2,h3⟩:=rx'
     cases (show r=[] from h3)
     cases (show u = .str "none" from h2)
     walk_at "rd"
     refine ⟨_,ht,_,atI0,rfl,?_⟩
     rw [if_neg (by decide)]
     refine ⟨_,ht,_,atI0,by omega,fun p hp=>⟨rfl,rfl,?_⟩⟩
     rw [if_neg (by decide)]
     exact q _ (kp0.trans (.of (Same.of_new hp))) ((fo2.same (Same.of_new hp)).cong (fun _ _ _=>by simp [LkP,LkL,kids]) (by simp only [kids,szPs,szP,List.length_nil];omega))
    |one s =>
     obtain ⟨tp,vs,rfl,ht,u,r,rfl,h2,u',r',rfl,h4,h3⟩:=rx'
     cases (show r' = [] from h3)
     cases (show u = .str "one" from h2)
     walk_at "rd"
     refine ⟨_,ht,_,atI0,rfl,?_⟩
     rw [if_neg (by decide)]
     refine ⟨_,ht,_,atI0,by omega,fun p hp=>⟨rfl,rfl,?_⟩⟩
     rw [if_neg (by decide)]
     exact q _ (kp0.trans (.of (Same.of_new hp))) ((fo2.same (Same.of_new hp)).cong (fun _ _ _=>by simp [LkP,LkL,kids]) (by simp only [kids,szPs,szP,List.length_nil];omega))
    |row ps =>
     obtain ⟨tp,vs,rfl,ht,u,r,rfl,h2,u',r',rfl,⟨l2,us2,rfl,hl2,rl2⟩,h3⟩:=rx'
     cases (show r' = [] from h3)
     cases (show u = .str "row" from h2)
     simp only [kids,szP,dpP] at *
     walk_at "rd"
     refine ⟨_,ht,_,atI0,rfl,?_⟩
     rw [if_pos rfl]
     refine ⟨_,ht,_,atI1,l2,a,ps,noD H',okvs,S,ad,_,_,rfl,⟨l2,us2,rfl,noD_l hl2,z7f _ _ rl2⟩,noD_sub,fo2.noD,fo2,fun s hs=>sub s (by simpa [z0h] using hs),by omega,by omega,by omega,fun H2 kp2 fo3=>?_⟩
     have ht2:=kp2 _ _ (fo2.tup ht) ht
     refine ⟨_,ht2,_,atI0,by omega,fun p hp=>⟨rfl,rfl,?_⟩⟩
     rw [if_neg (by decide)]
     exact q _ ((kp0.trans kp2).trans (.of (Same.of_new hp))) ((fo3.same (Same.of_new hp)).cong (fun _ _ _=>by simp [LkP,Bool.or_assoc]) (by omega))
    |any ps =>
     obtain ⟨tp,vs,rfl,ht,u,r,rfl,h2,u',r',rfl,⟨l2,us2,rfl,hl2,rl2⟩,h3⟩:=rx'
     cases (show r' = [] from h3)
     cases (show u = .str "any" from h2)
     simp only [kids,szP,dpP] at *
     walk_at "rd"
     refine ⟨_,ht,_,atI0,rfl,?_⟩
     rw [if_neg (by decide)]
     refine ⟨_,ht,_,atI0,by omega,fun p hp=>⟨rfl,rfl,?_⟩⟩
     rw [if_neg (by decide)]
     exact q _ (kp0.trans (.of (Same.of_new hp))) ((fo2.same (Same.of_new hp)).cong (fun _ _ _=>by simp [LkP]) (by omega))
    |wrap k p =>
     have fl:=z3g p
     have ll:=z3z p
     have sp:=szP_pos p
     simp only [kids,szP,dpP,szPs,List.length_cons,List.length_nil] at *
     cases k with
     |maybe =>
      obtain ⟨tp,vs,rfl,ht,u,r,rfl,h2,u',r',rfl,h4,h3⟩:=rx'
      cases (show r' = [] from h3)
      cases (show u = .str "maybe" from h2)
      walk_at "rd"
      refine ⟨_,ht,_,atI0,rfl,?_⟩
      rw [if_neg (by decide)]
      refine ⟨_,ht,_,atI0,by omega,fun p hp=>⟨rfl,rfl,?_⟩⟩
      rw [if_neg (by decide)]
      exact q _ (kp0.trans (.of (Same.of_new hp))) ((fo2.same (Same.of_new hp)).cong (fun _ _ _=>by simp [LkP,LkL]) (by omega))
     |many =>
      obtain ⟨tp,vs,rfl,ht,u,r,rfl,h2,u',r',rfl,h4,h3⟩:=rx'
      cases (show r' = [] from h3)
      cases (show u = .str "many" from h2)
      walk_at "rd"
      refine ⟨_,ht,_,atI0,rfl,?_⟩
      rw [if_neg (by decide)]
      refine ⟨_,ht,_,atI0,by omega,fun p0 hp=>⟨rfl,rfl,?_⟩⟩
      have sp0:Same H' (upd H' p0 (.tup [.str "many",.str "some"])):=Same.of_new hp
      rw [if_pos (by decide)]
      refine ⟨_,sp0 _ _ ht,_,atI1,?_⟩
      refine z2s (ds:=[patD p]) (Qd:=fun b d _=>d = .lst ((z1e p).map .str)) ⟨_,_,rfl,Rep.mono sp0 _ _ h4,rfl⟩ ⟨p,rfl,by omega,by omega,rfl⟩ fun b3 dd3 δ3 v3 H3 s3 ed3 rd3=>?_
      subst ed3
      obtain ⟨la,las,rfl,hla,rla⟩:=rd3
      rw [rla.strs] at hla
      refine ⟨_,s3 _ _ (sp0 _ _ ht),_,atI1,?_⟩
      refine z2s (ds:=[patD p]) (Qd:=fun b d _=>d = .lst ((z1b p).map .str)) ⟨_,_,rfl,Rep.mono (sp0.trans s3) _ _ h4,rfl⟩ ⟨p,rfl,by omega,by omega,rfl⟩ fun b4 dd4 δ4 v4 H4 s4 ed4 rd4=>?_
      subst ed4
      obtain ⟨fa,fas,rfl,hfa,rfa⟩:=rd4
      rw [rfa.strs] at hfa
      have s04:=(sp0.trans s3).trans s4
      exact ⟨la,fa,a,z1e p,z1b p,okvs,S,ad,_,_,rfl,s4 _ _ hla,hfa,fo2.same s04,fun s hs=>sub s (by simpa [z0h] using z1x p hs),by omega,by omega,by omega,fun H5 kp5 fo5=>q _ ((kp0.trans (.of s04)).trans kp5) (fo5.cong (fun _ _ _=>by simp [LkP,LkL,Bool.or_assoc]) (by omega))⟩
     |some =>
      obtain ⟨tp,vs,rfl,ht,u,r,rfl,h2,u',r',rfl,h4,h3⟩:=rx'
      cases (show r' = [] from h3)
      cases (show u = .str "some" from h2)
      walk_at "rd"
      refine ⟨_,ht,_,atI0,rfl,?_⟩
      rw [if_neg (by decide)]
      refine ⟨_,ht,_,atI0,by omega,fun p0 hp=>⟨rfl,rfl,?_⟩⟩
      have sp0:Same H' (upd H' p0 (.tup [.str "many",.str "some"])):=Same.of_new hp
      rw [if_pos (by decide)]
      refine ⟨_,sp0 _ _ ht,_,atI1,?_⟩
      refine z2s (ds:=[patD p]) (Qd:=fun b d _=>d = .lst ((z1e p).map .str)) ⟨_,_,rfl,Rep.mono sp0 _ _ h4,rfl⟩ ⟨p,rfl,by omega,by omega,rfl⟩ fun b3 dd3 δ3 v3 H3 s3 ed3 rd3=>?_
      subst ed3
      obtain ⟨la,las,rfl,hla,rla⟩:=rd3
      rw [rla.strs] at hla
      refine ⟨_,s3 _ _ (sp0 _ _ ht),_,atI1,?_⟩
      refine z2s (ds:=[patD p]) (Qd:=fun b d _=>d = .lst ((z1b p).map .str)) ⟨_,_,rfl,Rep.mono (sp0.trans s3) _ _ h4,rfl⟩ ⟨p,rfl,by omega,by omega,rfl⟩ fun b4 dd4 δ4 v4 H4 s4 ed4 rd4=>?_
      subst ed4
      obtain ⟨fa,fas,rfl,hfa,rfa⟩:=rd4
      rw [rfa.strs] at hfa
      have s04:=(sp0.trans s3).trans s4
      exact ⟨la,fa,a,z1e p,z1b p,okvs,S,ad,_,_,rfl,s4 _ _ hla,hfa,fo2.same s04,fun s hs=>sub s (by simpa [z0h] using z1x p hs),by omega,by omega,by omega,fun H5 kp5 fo5=>q _ ((kp0.trans (.of s04)).trans kp5) (fo5.cong (fun _ _ _=>by simp [LkP,LkL,Bool.or_assoc]) (by omega))⟩
end
open PySem L2 VL
section
variable {X:Cx}
theorem dss_heap3 {s1 s2 s3:Stmt}{rest:List Stmt}{t1 t2 t3:TS}{u:TSd}(V:TSd→TSd) (p1:PS X s1 t1) (p2:PS X s2 t2) (p3:PS X s3 t3) (h:DSs X rest u) (hs:∀ t,SimS t u→SimS (tSeq t1 (tSeq t2 (tSeq t3 t))) (V u)):DSs X (s1::s2::s3::rest) (V u):=by
 obtain ⟨t,p,s⟩:=h
 exact ⟨_,z1o p1 (z1o p2 (z1o p3 p)),hs t s⟩
end
theorem EI.junk {io:List (Option Addr)}{H0 F0 F H:Hp}{δ:List VL.Slot}{σ:St}{i:Nat}{o:Option V}(I:EI io H0 F0 F δ σ H) (h:δ[i]? = some .no):EI io H0 F0 F δ (σ.set i o) H:=by
 refine ⟨I.base,I.sub,I.ext,I.new,by simpa using I.len,fun j s e=>?_,fun j k b c b' c' a ne e1 e2 e3 e4=>?_⟩
 ·by_cases hj:j=i
  ·subst hj;rw [h] at e;cases e;trivial
  ·have:=I.get j s e
   have e2:(σ.set i o).getD j none=σ.getD j none:=by
    rw [List.getD_eq_getElem?_getD,List.getElem?_set_ne (fun z=>hj z.symm),← List.getD_eq_getElem?_getD]
   rw [e2];exact this
 ·have key:∀ {j:Nat}{b:Bool}{c:D},δ[j]? = some (.ob b c)→(σ.set i o).getD j none=σ.getD j none:=fun {j b c} e=>by
   have hj:i≠j:=fun z=>by rw [← z,h] at e;cases e
   rw [List.getD_eq_getElem?_getD,List.getElem?_set_ne hj,← List.getD_eq_getElem?_getD]
  rw [key e1] at e3
  rw [key e2] at e4
  exact I.apart j k b c b' c' a ne e1 e2 e3 e4
theorem putK_mem2 {κ:Type}[DecidableEq κ] {kvs:List (κ × V)}{k:κ}{v:V}{kv:κ × V}(h:kv∈putK kvs k v):(kv∈kvs∧kv.1≠k)∨kv=(k,v):=by
 unfold putK at h
 split at h
 ·obtain ⟨q,hq,e⟩:=List.mem_map.mp h
  split at e
  ·rename_i z;right;rw [← e,z]
  ·rename_i z;left;rw [← e];exact ⟨hq,z⟩
 ·rename_i z
  rcases List.mem_append.mp h with h|h
  ·refine .inl ⟨h,fun e=>z (List.any_eq_true.mpr ⟨kv,h,decide_eq_true e⟩)⟩
  ·exact .inr (by simpa using h)
theorem repK_ex {F:Hp}:∀ {kvs:List (Key × V)},(∀ kv∈kvs,∃ d,Rep F d kv.2)→∃ kds,RepK F kds kvs
 | [],_=>⟨[],rfl⟩
 |kv::kvs,h=>by
  obtain ⟨d,rd⟩:=h kv List.mem_cons_self
  obtain ⟨kds,rk⟩:=repK_ex fun q hq=>h q (List.mem_cons_of_mem _ hq)
  exact ⟨(kv.1,d)::kds,kv,kvs,rfl,⟨rfl,rd⟩,rk⟩
theorem repK_iso {F:Hp}{kds:List (Key × D)}{kvs:List (Key × V)}(r:RepK F kds kvs) (t:Str):(getS kds t).isSome=(valV kvs (.inr t)).isSome:=by
 cases e:getS kds t with
 |none=>rw [(r.val t).2 e];rfl
 |some d=>obtain ⟨v,ev,_⟩:=(r.val t).1 d e;rw [ev];rfl
def FolD (p:Pat) (kds:List (Key × D)):Prop:=∀ s∈z0h p,∃ ik,getS kds s=some (.dct ik)∧∀ t,(getS ik t).isSome=LkP p s t
theorem fol_data {H:Hp}{a:Addr}{okvs:List (Key × V)}{ad:Str→Addr}{c:Nat}{p:Pat}(fo:Fol H a okvs (z0h p) ad (fun s t=>LkP p s t) c) (ent:∀ kv∈okvs,∃ s∈z0h p,kv.2 = .ref (ad s)) :
  ∃ kds,FolD p kds∧Rep (fun b=>if b=a ∨ ∃ s∈z0h p,b=ad s then H b else none) (.dct kds) (.ref a):=by
 have hat:∀ s∈z0h p,(fun b=>if b=a ∨ ∃ s∈z0h p,b=ad s then H b else none) (ad s)=H (ad s):=fun s hs=>if_pos (.inr ⟨s,hs,rfl⟩)
 have inner:∀ s∈z0h p,∃ ik kvs,H (ad s)=some (.dK kvs)∧RepK (fun b=>if b=a ∨ ∃ s∈z0h p,b=ad s then H b else none) ik kvs∧∀ t,(valV kvs (.inr t)).isSome=LkP p s t:=fun s hs=>by
  obtain ⟨kvs,e,_,al,m⟩:=fo.inn s hs
  obtain ⟨ik,rk⟩:=repK_ex (F:=fun b=>if b=a ∨ ∃ s∈z0h p,b=ad s then H b else none) (kvs:=kvs) fun kv hkv=>⟨.bl true,(al kv hkv).1⟩
  exact ⟨ik,kvs,e,rk,m⟩
 obtain ⟨kds,rk⟩:=repK_ex (F:=fun b=>if b=a ∨ ∃ s∈z0h p,b=ad s then H b else none) (kvs:=okvs) fun kv hkv=>by
  obtain ⟨s,hs,e⟩:=ent kv hkv
  obtain ⟨ik,kvs,e1,rk,_⟩:=inner s hs
  exact ⟨.dct ik,by rw [e];exact ⟨ad s,kvs,rfl,(hat s hs).trans e1,rk⟩⟩
 refine ⟨kds,fun s hs=>?_,a,okvs,rfl,(if_pos (.inl rfl)).trans fo.at_,rk⟩
 obtain ⟨kvs,e,_,_,m⟩:=fo.inn s hs
 have ev:=fo.out s hs
 have es:(getS kds s).isSome=true:=by rw [repK_iso rk,ev];rfl
 obtain ⟨d,ed⟩:=Option.isSome_iff_exists.mp es
 obtain ⟨v,ev',rd⟩:=(rk.val s).1 d ed
 rw [ev] at ev';cases ev'
 cases d with
 |dct ik =>
  obtain ⟨a',kvs',e1,e2,r2⟩:=rd
  cases e1
  rw [hat s hs,e] at e2
  cases e2
  exact ⟨ik,ed,fun t=>by rw [repK_iso r2,m]⟩
 |lst ds=>obtain ⟨a',vs,e1,e2,_⟩:=rd;cases e1;rw [hat s hs,e] at e2;cases e2
 |tup ds=>obtain ⟨a',vs,e1,e2,_⟩:=rd;cases e1;rw [hat s hs,e] at e2;cases e2
 |non=>cases rd
 |bl b=>cases rd
 |int i=>cases rd
 |str x=>cases rd
 |ty x=>cases rd
theorem putS_len (kds:List (Key × D)) (k:Str) (v:D):(putS kds k v).length≤kds.length+1:=by
 unfold putS
 split <;> simp
theorem y0w (g:Str→D):∀ (l:List Str) (acc:List (Key × D)),(l.foldl (fun acc s=>putS acc s (g s)) acc).length≤acc.length+l.length
 | [],acc=>by simp
 |s::l,acc=>by
  have h1:=y0w g l (putS acc s (g s))
  have h2:=putS_len acc s (g s)
  simp only [List.foldl_cons,List.length_cons];omega
def dLink (n:Nat) (u:TSd):TSd:=fun E δ=>∃ (p:Pat) (b1:Bool),δ=[.fz (patD p),rsl b1 (.lst ((z0h p).map .str)),.no,.no,.no]∧szP p≤100∧dpP p < n∧∀ kds,FolD p kds→u E [.fz (patD p),.fz (.lst ((z0h p).map .str)),.fz (.dct kds),.no,.no]
section
variable {P:Program}{w:World}{K:PySem.W.Frag}{mg:Str→Option Value}{base:Heap}{f:Addr}{fd:FuncData}
def nextsD (p:Pat):List (Key × D):=(z0h p).foldl (fun acc s=>putS acc s (.lst (((z0h p).filter (LkP p s)).map .str))) []
def R_nexts (n:Nat):RD:=fun δ Q=>∃ p:Pat,δ=[.fz (patD p)]∧dpP p < n∧szP p≤100∧Q true (.dct (nextsD p)) [.no]
theorem lenSS{l:L2.St}{n:Nat}(h:l.length=n+1):∃ x t,l=x::t∧t.length=n:=by
 cases l with
 |nil=>cases h
 |cons x t=>exact ⟨x,t,rfl,Nat.succ.inj h⟩
theorem ok_nexts {f1 f2 f3 f4 f5 f6 f7 f8:Addr}{fd1 fd2 fd3 fd4 fd5 fd6 fd7 fd8:FuncData}(E_nexts:Ent K mg "nexts" s_nexts ["pattern"] f fd) (T:Zs K mg) (E_link:Ent K mg "link" s_link ["ends","begins","followers"] f1 fd1) (E_firsts:Ent K mg "firsts" s_firsts ["pattern"] f2 fd2) (E_lasts:Ent K mg "lasts" s_lasts ["pattern"] f3 fd3) (E_bare:Ent K mg "bare" s_bare ["pattern"] f4 fd4) (E_patterns_within:Ent K mg "patterns_within" s_patterns_within ["pattern"] f5 fd5) (E_link_row:Ent K mg "link_row" s_link_row ["patterns","followers"] f6 fd6) (E_link_all:Ent K mg "link_all" s_link_all ["pattern","followers"] f7 fd7) (E_signs:Ent K mg "signs" s_signs ["pattern"] f8 fd8) (n:Nat) :
  FnOk P w K mg base CX0 (n+6) f fd ["pattern"] (spD (R_nexts n)):=by
 have G_link_all:FnOk P w K mg base CX0 (n+5) f7 fd7 _ (z6y n):=ok_link_all E_link_all T E_link E_firsts E_lasts E_bare E_patterns_within E_link_row n
 have G_signs:FnOk P w K mg base CX0 (n+2) f8 fd8 _ (spD (R_signs n)):=ok_signs E_signs T E_patterns_within n
 refine VL.Fun.dok E_nexts.F sc_nexts (fun δ Qd h=>?_) (by decide) (fun cdv A outer s H E δ Qd hr h=>?_)
 ·obtain ⟨_,rfl,_⟩:=h;rfl
 ·obtain ⟨p,rfl,hdp,hsz,q⟩:=h
  have hu:=z4k hr
  refine ⟨_,(z0b (z0p (i:=1) sc_nexts.nd rfl (Or.inl rfl) (z0s G_signs (hr.mono (by omega)) rfl E_signs.g E_signs.F.kp E_signs.b z0y (z0a (dv 0) z0e)))
   (dss_heap3 (dLink n) (z5k (i:=2) sc_nexts.nd rfl (Or.inr rfl) pe_dnewK)
   (z7p PassesOwn.never rfl (z5n (pv 1)) (z4o (i:=3) sc_nexts.nd rfl (Or.inr rfl)) (z2m (ps_dput (hu1 hu) (pv 2) (pv 3) pe_dnewK rfl)))
   (z4e (z1t G_link_all (hr.mono (by omega)) rfl E_link_all.g E_link_all.F.kp E_link_all.b .nil z0y (z0k (pv 0) (z0k (pv 2) z1g))))
   (z0b (z0p (i:=4) sc_nexts.nd rfl (Or.inl rfl) z7v)
   (z0b (z2t PassesOwn.never rfl (z1l (dv 1)) (z1n (i:=3) sc_nexts.nd rfl (Or.inr rfl)) (z0f (y1k hu (pv 4) (dv 3) (z3v ["behind"] ["pattern","order","followers","sign","told"] rfl (show CScopeG (z0c s_nexts) ["pattern","order","followers","sign","told"] ["behind"] _ _ from ⟨rfl,by decide +kernel,by decide +kernel,by decide +kernel,by decide +kernel⟩) (z1l (dv 1)) (fun _ _ _ _ _=>(z1s (i:=0) (by decide) (show List.Nodup (["behind","pattern","order","followers","sign","told"]:List Str) from by decide +kernel) rfl (Or.inl rfl))) (fun _ _ _ _ _=>(y0y (dt_din hu (dv 0) (z9n hu (pv 3) (dv 4))))) (fun _ _ _ _ _=>(dv 0))))))
   (z0f (z0n (dm 4))))) ?five)),?_⟩
  case five =>
   intro t st io H0 F0 F δ σ H E Ed I q S
   obtain ⟨p',b1,rfl,z1,z2,q⟩:=q
   have sz:=z0x
   obtain ⟨F',J,sJ⟩:∃ F',EI io H0 F0 F' [.fz (patD p'),.fz (.lst ((z0h p').map .str)),.no,.no,.no] σ H∧Same F F':=by
    cases b1 with
    |false=>exact ⟨F,I,Same.refl _⟩
    |true =>
     obtain ⟨F',a,s,I',_⟩:=I.freeze (i:=1) rfl
     exact ⟨F',I',s⟩
   obtain ⟨s0,s1,s2,s3,s4,rfl⟩:∃ s0 s1 s2 s3 s4,σ=[s0,s1,s2,s3,s4]:=by
    have hl:=J.len.symm
    obtain ⟨s0,t0,d0,g0⟩:=lenSS hl
    obtain ⟨s1,t1,d1,g1⟩:=lenSS g0
    obtain ⟨s2,t2,d2,g2⟩:=lenSS g1
    obtain ⟨s3,t3,d3,g3⟩:=lenSS g2
    obtain ⟨s4,t4,d4,g4⟩:=lenSS g3
    exact ⟨s0,s1,s2,s3,s4,by rw [d0,d1,d2,d3,d4,List.eq_nil_of_length_eq_zero g4]⟩
   obtain ⟨v0,e0,r0⟩:=J.get 0 _ rfl
   obtain ⟨v1,e1,r1⟩:=J.get 1 _ rfl
   cases (show s0=some v0 from e0)
   cases (show s1=some v1 from e1)
   obtain ⟨a1,us,rfl,h1,r1'⟩:=r1
   have eus:=r1'.strs
   subst eus
   have hS:SqL K H a1 ((z0h p').map .str):=SqL.of (J.sub _ _ h1)
   walk_at "rs"
   intro a ha
   have sa:Same H (upd H a (.dK [])):=Same.of_new ha
   refine ⟨⟨_,SqL.of (sa _ _ (J.sub _ _ h1))⟩,loopL (xs:=(z0h p').map .str) (fun i σ H'=>∃ okvs ad x3,σ=[some v0,some (.ref a1),some (.ref a),x3,s4]∧Same H H'∧(∀ s∈(z0h p').take i,H (ad s)=none)∧okvs.length≤i∧(∀ kv∈okvs,∃ s∈(z0h p').take i,kv.1 = .inr s∧kv.2 = .ref (ad s))∧Fol H' a okvs ((z0h p').take i) ad (fun _ _=>false) 0) ?_ (fun i σ H' _ h=>?_) (fun i x σ H' hx h=>?_) fun σ H' h=>?_⟩
   ·refine ⟨[],fun _=>a,_,rfl,sa,fun s h=>(by simp at h),Nat.le_refl _,fun kv h=>(by cases h),⟨z0l,fun s h=>(by simp at h),fun s h=>(by simp at h),fun s h=>(by simp at h),fun s h=>(by simp at h)⟩⟩
   ·obtain ⟨_,_,_,_,sH,_⟩:=h
    exact SqL.of (sH _ _ (J.sub _ _ h1))
   ·obtain ⟨okvs,ad,x3,rfl,sH,nw,ol,ent,fo⟩:=h
    obtain ⟨c,hc,rfl⟩:∃ s,(z0h p')[i]? = some s∧x = .str s:=by
     rw [List.getElem?_map] at hx
     obtain ⟨s,h1,h2⟩:=Option.map_eq_some_iff.mp hx
     exact ⟨s,h1,h2.symm⟩
    walk_at "rd"
    intro qa hq
    have hi:=(List.getElem?_eq_some_iff.mp hc).1
    have sl:=z4m p'
    have et:(z0h p').take (i+1)=(z0h p').take i ++ [c]:=by rw [List.take_add_one,hc];rfl
    have naq:a≠qa:=z0u fo.at_ hq
    have hin:∀ s∈(z0h p').take (i+1),s≠c→s∈(z0h p').take i:=fun s hs hn=>by
     rw [et] at hs
     rcases List.mem_append.mp hs with h|h
     ·exact h
     ·exact absurd (by simpa using h) hn
    have old:∀ s∈(z0h p').take i,ad s≠qa:=fun s hs=>by
     obtain ⟨kvs,e,_⟩:=fo.inn s hs
     exact z0u e hq
    refine ⟨_,DPut.s (by rw [z0i naq];exact fo.at_) (by omega),fun b o e=>?_,_,fun s=>if s=c then qa else ad s,fun s hs=>?_,Nat.le_trans (putK_len _ _ _) (by omega),fun kv hkv=>?_,⟨z0l,fun s hs=>?_,fun s hs s' hs' e=>?_,fun s hs=>?_,fun s hs=>?_⟩⟩
    ·rw [z0i (fun z=>by rw [z,ha] at e;cases e),z0i (z0u (sH _ _ e) hq)]
     exact sH _ _ e
    ·show H (if s=c then qa else ad s)=none
     split
     ·exact sH.free hq
     ·rename_i hn
      exact nw s (hin s hs hn)
    ·rcases putK_mem2 hkv with ⟨hk,hne⟩|rfl
     ·obtain ⟨s,hs,k1,k2⟩:=ent kv hk
      refine ⟨s,by rw [et];exact List.mem_append_left _ hs,k1,?_⟩
      show kv.2 = .ref (if s=c then qa else ad s)
      rw [k2,if_neg (fun z=>hne (by rw [k1,z]))]
     ·exact ⟨c,by rw [et];simp,rfl,by show _=V.ref (if c=c then qa else ad c);rw [if_pos rfl]⟩
    ·show valV _ _=some (.ref (if s=c then qa else ad s))
     rw [valV_put]
     by_cases hn:s=c
     ·rw [if_pos (by rw [hn]),if_pos hn]
     ·rw [if_neg (fun z=>hn (Sum.inr.inj z)),if_neg hn]
      exact fo.out s (hin s hs hn)
    ·by_cases h1:s=c <;> by_cases h2:s' = c
     ·rw [h1,h2]
     ·exact absurd (by simpa [h1,h2] using e.symm) (old s' (hin s' hs' h2))
     ·exact absurd (by simpa [h1,h2] using e) (old s (hin s hs h1))
     ·exact fo.inj s (hin s hs h1) s' (hin s' hs' h2) (by simpa [h1,h2] using e)
    ·show (if s=c then qa else ad s)≠a
     split
     ·exact naq.symm
     ·rename_i hn
      exact fo.na s (hin s hs hn)
    ·by_cases hn:s=c
     ·refine ⟨[],?_,Nat.le_refl _,fun kv h=>(by cases h),fun t=>rfl⟩
      rw [if_pos hn,z0i naq.symm,z0l]
     ·obtain ⟨kvs,e,r⟩:=fo.inn s (hin s hs hn)
      refine ⟨kvs,?_,r⟩
      rw [if_neg hn,z0i (fo.na s (hin s hs hn)),z0i (old s (hin s hs hn))]
      exact e
   ·obtain ⟨okvs,ad,x3,rfl,sH,nw,ol,ent,fo⟩:=h
    rw [List.length_map,List.take_length] at nw ent fo
    walk_at "rd"
    refine ⟨v0,a,p',okvs,z0h p',ad,_,0,rfl,Rep.mono (J.sub.trans sH) _ _ r0,fo,fun s h=>h,z1,z2,by omega,fun H2 kp fo2=>?_⟩
    have fo3:Fol H2 a okvs (z0h p') ad (fun s t=>LkP p' s t) _:=fo2.cong (fun _ _ _=>by simp) (Nat.le_refl _)
    obtain ⟨kds,fd,rd⟩:=fol_data fo3 fun kv hkv=>by
     obtain ⟨s,hs,_,e⟩:=ent kv hkv
     exact ⟨s,hs,e⟩
    have sHH:Same H H2:=fun b o e=>kp b o (fun s hs z=>by rw [z,nw s hs] at e;cases e) (sH _ _ e)
    have out:∀ b o,H b=some o→¬ (b=a ∨ ∃ s∈z0h p',b=ad s):=fun b o e h=>by
     rcases h with rfl|⟨s,hs,rfl⟩
     ·rw [ha] at e;cases e
     ·rw [nw s hs] at e;cases e
    have sF:Same F' (fun b=>if b=a ∨ ∃ s∈z0h p',b=ad s then H2 b else F' b):=fun b o e=>(if_neg (out b o (J.sub _ _ e))).trans e
    have sub:Same (fun b=>if b=a ∨ ∃ s∈z0h p',b=ad s then H2 b else F' b) H2:=fun b o e=>by
     by_cases h:b=a ∨ ∃ s∈z0h p',b=ad s
     ·simp only [h,if_true] at e;exact e
     ·simp only [h,if_false] at e;exact sHH _ _ (J.sub _ _ e)
    have J2:=J.back0 sF sHH sub fun b o e n=>by
     by_cases h:b=a ∨ ∃ s∈z0h p',b=ad s
     ·rcases h with rfl|⟨s,hs,rfl⟩
      ·exact ha
      ·exact nw s hs
     ·simp only [h,if_false] at e;rw [n] at e;cases e
    have rd':=Rep.mono (F':=fun b=>if b=a ∨ ∃ s∈z0h p',b=ad s then H2 b else F' b) (fun b o e=>by
     by_cases h:b=a ∨ ∃ s∈z0h p',b=ad s
     ·simp only [h,if_true] at e ⊢;exact e
     ·simp only [h,if_false] at e;cases e) _ _ rd
    have J3:=EI.setv (i:=2) (b:=false) (J2.pushF rd') (by simp) (by simp)
    exact st io H0 F0 _ _ _ H2 E Ed (EI.junk (i:=3) (o:=x3) J3 rfl) (q kds fd) (S.mono (sJ.trans sF))
  have sz:=z0x
  walk_at "vd"
  refine ⟨p,rfl,by omega,by omega,?_⟩
  walk_at "vd"
  refine ⟨p,true,rfl,by omega,by omega,fun kds hk=>?_⟩
  walk_at "vd"
  have sl:=z4m p
  refine z4v [3] (fun r δ=>∃ pre suf,z0h p=pre ++ suf∧r=suf.map .str∧δ=[.fz (patD p),.fz (.lst ((z0h p).map .str)),.fz (.dct kds),.no,.ob false (.dct (pre.foldl (fun acc s=>putS acc s (.lst (((z0h p).filter (LkP p s)).map .str))) []))]) ⟨[],z0h p,rfl,rfl,rfl⟩ ?_ ?_
  ·rintro d r δ ⟨pre,suf,e1,e2,rfl⟩
   cases suf with
   |nil=>cases e2
   |cons c suf =>
    cases e2
    walk_at "vd"
    have hc:c∈z0h p:=by rw [e1];simp
    obtain ⟨ik,ek,em⟩:=hk c hc
    refine comp1f (fun d=>match d with | .str z=>LkP p c z|_=>false) id (by simp;omega) (fun d hd Pq hP=>?_) (fun d hd _ Pq hP=>?_) ?_
    ·obtain ⟨z,hz,rfl⟩:=List.mem_map.mp hd
     walk_at "vd"
     refine ⟨.dct ik,ek,?_⟩
     walk_at "vd"
     rw [em]
     exact hP
    ·obtain ⟨z,hz,rfl⟩:=List.mem_map.mp hd
     walk_at "vd"
     exact hP
    ·have ef:((z0h p).map D.str).filter (fun d=>match d with | .str z=>LkP p c z|_=>false)=((z0h p).filter (LkP p c)).map D.str:=by
      rw [List.filter_map];rfl
     rw [ef,List.map_id]
     walk_at "vd"
     refine ⟨?_,pre ++ [c],suf,by simp [e1],rfl,by simp⟩
     have:=y0w (fun s=>.lst (((z0h p).filter (LkP p s)).map .str)) pre []
     have:=congrArg List.length e1
     simp at this
     simp at *
     omega
  ·rintro δ ⟨pre,suf,e1,e2,rfl⟩
   cases suf with
   |cons c suf=>cases e2
   |nil =>
    walk_at "vd"
    rw [List.append_nil] at e1
    rw [← e1]
    exact q
end
open PySem L2 VL
theorem z9r (kds:List (Key × D)) (k j:Str) (d:D):getS (putS kds k d) j=if j=k then some d else getS kds j:=by
 unfold putS
 split
 ·rename_i h
  induction kds with
  |nil=>simp at h
  |cons a r ih =>
   by_cases ha:a.1 = .inr k
   ·by_cases hj:j=k
    ·subst hj;simp [getS,List.find?_cons,ha]
    ·have:¬ (Sum.inr k:Key) = .inr j:=fun z=>hj (Sum.inr.inj z).symm
     rw [if_neg hj]
     simp only [getS,List.map_cons,ha,if_true,List.find?_cons,this,decide_false]
     clear ih h
     induction r with
     |nil=>rfl
     |cons b r ih =>
      simp only [List.map_cons,List.find?_cons]
      by_cases hb:b.1 = .inr k
      ·simp only [hb,if_true,this,decide_false];exact ih
      ·simp only [hb,if_false]
       cases decide (b.1=Sum.inr j) with
       |true=>rfl
       |false=>exact ih
   ·have h':(r.any fun kv=>decide (kv.1 = .inr k))=true:=by simpa [ha] using h
    have:=ih h'
    simp only [getS,List.map_cons,ha,if_false,List.find?_cons] at this ⊢
    by_cases hj:j=k
    ·subst hj;simpa [ha] using this
    ·cases decide (a.1=Sum.inr j) with
     |true=>simp [hj]
     |false=>exact this
 ·rename_i h
  unfold getS
  rw [List.find?_append]
  by_cases hj:j=k
  ·subst hj
   have:kds.find? (fun kv=>decide (kv.1 = .inr j))=none:=by
    rw [List.find?_eq_none]
    intro x hx hd
    exact h (List.any_eq_true.mpr ⟨x,hx,hd⟩)
   simp [this]
  ·rw [if_neg hj]
   have:¬ (Sum.inr k:Key) = .inr j:=fun z=>hj (Sum.inr.inj z).symm
   simp [List.find?_cons,this]
theorem getS_fold (g:Str→D) (j:Str):∀ (l:List Str) (acc:List (Key × D)),getS (l.foldl (fun acc s=>putS acc s (g s)) acc) j=if j∈l then some (g j) else getS acc j
 | [],acc=>by simp
 |s::l,acc=>by
  rw [List.foldl_cons,getS_fold g j l,z9r]
  by_cases h1:j∈l
  ·simp [h1]
  ·by_cases h2:j=s
   ·subst h2;simp
   ·simp [h1,h2]
def nx (p:Pat) (s:Str):List Str:=(z0h p).filter (LkP p s)
theorem getS_nexts (p:Pat) {s:Str}(h:s∈z0h p):getS (nextsD p) s=some (.lst ((nx p s).map .str)):=by
 unfold nextsD
 rw [getS_fold (fun s=>.lst (((z0h p).filter (LkP p s)).map .str)),if_pos h]
 rfl
mutual
theorem z2q {s:Str}:∀ p:Pat,s∈z1b p→s∈z0h p
 |.none,h=>by simp [z1b] at h
 |.one _,h=>by simpa [z1b,z0h] using h
 |.row ps,h=>by simp only [z1b,z0h] at h ⊢;exact z4g ps h
 |.any ps,h=>by simp only [z1b,z0h] at h ⊢;exact z5c ps h
 |.wrap _ p,h=>by simp only [z1b,z0h] at h ⊢;exact z2q p h
theorem z4g {s:Str}:∀ ps:List Pat,s∈z1y ps→s∈z0r ps
 | [],h=>by simp [z1y] at h
 |p::ps,h=>by
  simp only [z1y,z0r,List.mem_append] at h ⊢
  rcases h with h|h
  ·exact .inl (z2q p h)
  ·split at h
   ·exact .inr (z4g ps h)
   ·cases h
theorem z5c {s:Str}:∀ ps:List Pat,s∈z2k ps→s∈z0r ps
 | [],h=>by simp [z2k] at h
 |p::ps,h=>by
  simp only [z2k,z0r,List.mem_append] at h ⊢
  rcases h with h|h
  ·exact .inl (z2q p h)
  ·exact .inr (z5c ps h)
end
def z9h (p:Pat):Str→List Str→Bool
 |_,[]=>true
 |x,y::r=>decide (y∈nx p x) && z9h p y r
def z3e (p:Pat):List Str→Bool
 | []=>z2v p
 |x::r=>(decide (x∈z1b p) && decide ((x::r).getLast (by simp)∈z1e p)) && z9h p x r
theorem atI_last {α:Type}{xs:List α}(h:xs≠[]):atI xs (-1)=some (xs.getLast h):=by
 have hl:0 < xs.length:=List.length_pos_iff.mpr h
 unfold atI ixN
 rw [List.getLast_eq_getElem,if_neg (by decide),if_pos (by omega)]
 have e:((-1:Int)+xs.length).toNat=xs.length - 1:=by omega
 rw [e]
 show xs[xs.length - 1]? = _
 rw [List.getElem?_eq_getElem (by omega)]
section
variable {P:Program}{w:World}{K:PySem.W.Frag}{mg:Str→Option Value}{base:Heap}{f:Addr}{fd:FuncData}
def tabD (p:Pat):D:=.tup [.bl (z2v p),.lst ((z1b p).map .str),.lst ((z1e p).map .str),.dct (nextsD p)]
def R_table (n:Nat):RD:=fun δ Q=>∃ p:Pat,δ=[.fz (patD p)]∧dpP p < n∧szP p≤100∧Q false (tabD p) [.no]
theorem ok_table {f1 f2 f3 f4 f5 f6 f7 f8 f9:Addr}{fd1 fd2 fd3 fd4 fd5 fd6 fd7 fd8 fd9:FuncData}(E_table:Ent K mg "table" s_table ["pattern"] f fd) (T:Zs K mg) (E_link:Ent K mg "link" s_link ["ends","begins","followers"] f1 fd1) (E_firsts:Ent K mg "firsts" s_firsts ["pattern"] f2 fd2) (E_lasts:Ent K mg "lasts" s_lasts ["pattern"] f3 fd3) (E_bare:Ent K mg "bare" s_bare ["pattern"] f4 fd4) (E_patterns_within:Ent K mg "patterns_within" s_patterns_within ["pattern"] f5 fd5) (E_link_row:Ent K mg "link_row" s_link_row ["patterns","followers"] f6 fd6) (E_link_all:Ent K mg "link_all" s_link_all ["pattern","followers"] f7 fd7) (E_signs:Ent K mg "signs" s_signs ["pattern"] f8 fd8) (E_nexts:Ent K mg "nexts" s_nexts ["pattern"] f9 fd9) (n:Nat) :
  FnOk P w K mg base CX0 (n+7) f fd ["pattern"] (spD (R_table n)):=by
 have G_firsts:FnOk P w K mg base CX0 (n+3) f2 fd2 _ (spD (z9z n)):=y0k E_firsts T E_patterns_within E_bare n
 have G_lasts:FnOk P w K mg base CX0 (n+3) f3 fd3 _ (spD (R_lasts n)):=ok_lasts E_lasts T E_patterns_within E_bare n
 have G_bare:FnOk P w K mg base CX0 (n+2) f4 fd4 _ (spD (R_bare n)):=ok_bare E_bare T n
 have G_nexts:FnOk P w K mg base CX0 (n+6) f9 fd9 _ (spD (R_nexts n)):=ok_nexts E_nexts T E_link E_firsts E_lasts E_bare E_patterns_within E_link_row E_link_all E_signs n
 refine VL.Fun.dok E_table.F sc_table (fun δ Qd h=>?_) (by decide) (fun cdv A outer s H E δ Qd hr h=>?_)
 ·obtain ⟨_,rfl,_⟩:=h;rfl
 ·obtain ⟨p,rfl,hdp,hsz,q⟩:=h
  have sz:=z0x
  refine ⟨_,(z0f (z0n (z2a (z0a (z0s G_bare (hr.mono (by omega)) rfl E_bare.g E_bare.F.kp E_bare.b z0y (z0a (dv 0) z0e)) (z0a (z0s G_firsts (hr.mono (by omega)) rfl E_firsts.g E_firsts.F.kp E_firsts.b z0y (z0a (dv 0) z0e)) (z0a (z0s G_lasts (hr.mono (by omega)) rfl E_lasts.g E_lasts.F.kp E_lasts.b z0y (z0a (dv 0) z0e)) (z0a (z0s G_nexts (hr.mono (by omega)) rfl E_nexts.g E_nexts.F.kp E_nexts.b z0y (z0a (dv 0) z0e)) z0e))))))),?_⟩
  walk_at "vd"
  refine ⟨p,rfl,by omega,by omega,?_⟩
  walk_at "vd"
  refine ⟨p,rfl,by omega,by omega,?_⟩
  walk_at "vd"
  refine ⟨p,rfl,by omega,by omega,?_⟩
  walk_at "vd"
  refine ⟨p,rfl,by omega,by omega,?_⟩
  walk_at "vd"
  exact ⟨by omega,q⟩
def R_agrees:RD:=fun δ Q=>∃ (p:Pat) (ws:List Str),δ=[.fz (tabD p),.fz (.lst (ws.map .str))]∧ws.length≤1000000∧Q false (.bl (z3e p ws)) [.no,.no]
theorem ok_agrees (E_agrees:Ent K mg "agrees" s_agrees ["told","word"] f fd) (T:Zs K mg):FnOk P w K mg base CX0 1 f fd ["told","word"] (spD R_agrees):=by
 refine VL.Fun.dok E_agrees.F sc_agrees (fun δ Qd h=>?_) (by decide) (fun cdv A outer s H E δ Qd hr h=>?_)
 ·obtain ⟨_,_,rfl,_⟩:=h;rfl
 ·obtain ⟨p,ws,rfl,hl,q⟩:=h
  have hu:=z4k hr
  have sz:=z0x
  refine ⟨_,(z0b (z1m (z4y (dt_truthV (pv 1))) (z0f (z0n (z0g z0j z0v (pv 0) z0d (fun _ _=>rfl)))) z0t)
   (z0b (z1m (dt_w (dw_or (z1c y1j z3k (z0g z2j z1z (pv 1) z0d (fun _ _=>rfl)) (z0g z0j z0v (pv 0) z0d (fun _ _=>rfl)) rfl) (dw_or1 (z1c y1j z3k (z0g z2j z1z (pv 1) (de_neg z0d) (fun _ _=>rfl)) (z0g z0j z0v (pv 0) z0d (fun _ _=>rfl)) rfl)))) (z0f (z0n de_bl)) z0t)
   (z0b (z2t PassesOwn.never rfl (di_zip rfl T.z_zip (z0a (dv 1) (z0a (z2w (pv 1) (z3h z0d) z4p) z0e))) (dg_tup (n:=2) rfl (z4a (z1n (i:=2) sc_agrees.nd rfl (Or.inl rfl)) (z4a (z1n (i:=3) sc_agrees.nd rfl (Or.inl rfl)) y1r))) (z0f (z1m (z1c y1j z3k (dv 3) (de_dget hu (z0g z0j z0v (pv 0) z0d (fun _ _=>rfl)) (dv 2)) rfl) (z0f (z0n de_bl)) z0t)))
   (z0f (z0n de_bl))))),?_⟩
  cases ws with
  |nil =>
   unfold tabD
   walk_at "vd"
   exact q
  |cons x r =>
   unfold tabD
   walk_at "vd"
   refine ⟨_,atI0,?_⟩
   walk_at "vd"
   by_cases h1:x∈z1b p
   ·rw [if_neg (by simpa using h1)]
    have el:(D.str x::List.map D.str r).getLast (by simp) = .str ((x::r).getLast (by simp)):=by
     have:=List.getLast_map (f:=D.str) (l:=x::r) (by simp)
     simpa using this
    refine ⟨_,atI_last (by simp),?_⟩
    rw [el]
    walk_at "vd"
    by_cases h2:(x::r).getLast (by simp)∈z1e p
    ·rw [if_neg (by simpa using h2)]
     have ec:cutD (D.str x::List.map D.str r) (some 1) none=r.map D.str:=by
      have:=z7q (D.str x::List.map D.str r) 1
      simpa using this
     rw [ec]
     have eq:z3e p (x::r)=z9h p x r:=by simp [z3e,h1,h2]
     rw [eq] at q
     refine z4v [2,3] (fun rr δ=>∃ y s,rr=zipD ((y::s).map .str) (s.map .str)∧y∈z0h p∧z9h p x r=z9h p y s∧δ=[.fz (.tup [.bl (z2v p),.lst ((z1b p).map .str),.lst ((z1e p).map .str),.dct (nextsD p)]),.fz (.lst (.str x::r.map .str)),.no,.no]) ⟨x,r,rfl,z2q p h1,rfl,rfl⟩ ?_ ?_
     ·rintro d rr δ ⟨y,s,e1,hy,e2,rfl⟩
      cases s with
      |nil=>simp [zipD] at e1
      |cons z s =>
       simp only [zipD,List.map_cons,List.zipWith_cons_cons,List.cons.injEq] at e1
       obtain ⟨rfl,e1⟩:=e1
       walk_at "vd"
       refine ⟨_,getS_nexts p hy,?_⟩
       walk_at "vd"
       by_cases hz:z∈nx p y
       ·rw [if_neg (by simpa using hz)]
        refine ⟨z,s,by rw [e1];rfl,(List.mem_filter.mp hz).1,?_⟩
        rw [e2];simp [z9h,hz]
       ·rw [if_pos (by simpa using hz)]
        have:z9h p x r=false:=by rw [e2];simp [z9h,hz]
        rw [this] at q
        exact q
     ·rintro δ ⟨y,s,e1,hy,e2,rfl⟩
      cases s with
      |cons z s=>simp [zipD] at e1
      |nil =>
       walk_at "vd"
       have:z9h p x r=true:=by rw [e2];rfl
       rw [this] at q
       exact q
    ·rw [if_pos (by simpa using h2)]
     have:z3e p (x::r)=false:=by simp [z3e,h2]
     rw [this] at q
     exact q
   ·rw [if_pos (by simpa using h1)]
    have:z3e p (x::r)=false:=by simp [z3e,h1]
    rw [this] at q
    exact q
end
open PySem L2 VL
inductive Star (A:List Str→Prop):List Str→Prop
 |nil:Star A []
 |app {u v:List Str}:A u→Star A v→Star A (u ++ v)
mutual
def Lang:Pat→List Str→Prop
 |.none=>fun w=>w=[]
 |.one s=>fun w=>w=[s]
 |.row ps=>fun w=>z9l ps w
 |.any ps=>fun w=>y0q ps w
 |.wrap .maybe p=>fun w=>w=[]∨Lang p w
 |.wrap .many p=>fun w=>Star (Lang p) w
 |.wrap .some p=>fun w=>∃ u v,w=u ++ v∧Lang p u∧Star (Lang p) v
def z9l:List Pat→List Str→Prop
 | []=>fun w=>w=[]
 |p::ps=>fun w=>∃ u v,w=u ++ v∧Lang p u∧z9l ps v
def y0q:List Pat→List Str→Prop
 | []=>fun _=>False
 |p::ps=>fun w=>Lang p w∨y0q ps w
end
structure Lc where
 b:Prop
 F:Str→Prop
 L:Str→Prop
 N:Str→Str→Prop
def chN (N:Str→Str→Prop):Str→List Str→Prop
 |_,[]=>True
 |x,y::r=>N x y∧chN N y r
def lst (x:Str):List Str→Str
 | []=>x
 |y::r=>lst y r
def Lc.has (A:Lc):List Str→Prop
 | []=>A.b
 |x::r=>A.F x∧A.L (lst x r)∧chN A.N x r
structure Lc.In (A:Lc) (S:Str→Prop):Prop where
 f:∀ x,A.F x→S x
 l:∀ x,A.L x→S x
 n:∀ x y,A.N x y→S x∧S y
theorem z4i {N N':Str→Str→Prop}(h:∀ a b,N a b→N' a b):∀ (r:List Str) (x:Str),chN N x r→chN N' x r
 | [],_,_=>trivial
 |y::r,x,hc=>⟨h _ _ hc.1,z4i h r y hc.2⟩
theorem lst_app:∀ (u:List Str) (x y:Str) (v:List Str),lst x (u ++ y::v)=lst y v
 | [],_,_,_=>rfl
 |a::u,_,y,v=>lst_app u a y v
theorem chN_app {N:Str→Str→Prop}:∀ (u:List Str) (x y:Str) (v:List Str),chN N x (u ++ y::v)↔chN N x u∧N (lst x u) y∧chN N y v
 | [],x,y,v=>by simp [chN,lst]
 |a::u,x,y,v=>by simp only [List.cons_append,chN,lst,chN_app u a y v,and_assoc]
def Lc.cat (A B:Lc):Lc:=⟨A.b∧B.b,fun x=>A.F x∨(A.b∧B.F x),fun x=>(B.b∧A.L x)∨B.L x,fun x y=>A.N x y∨B.N x y∨(A.L x∧B.F y)⟩
theorem cat_mk {A B:Lc}:∀ {u v:List Str},A.has u→B.has v→(A.cat B).has (u ++ v)
 | [],[],hu,hv=>⟨hu,hv⟩
 | [],y::v,hu,hv=>⟨.inr ⟨hu,hv.1⟩,.inr hv.2.1,z4i (fun _ _ h=>.inr (.inl h)) _ _ hv.2.2⟩
 |x::u,[],hu,hv=>by
  rw [List.append_nil]
  exact ⟨.inl hu.1,.inl ⟨hv,hu.2.1⟩,z4i (fun _ _ h=>.inl h) _ _ hu.2.2⟩
 |x::u,y::v,hu,hv=>by
  refine ⟨.inl hu.1,?_,?_⟩
  ·show (A.cat B).L (lst x (u ++ y::v))
   rw [lst_app];exact .inr hv.2.1
  ·show chN (A.cat B).N x (u ++ y::v)
   rw [chN_app]
   exact ⟨z4i (fun _ _ h=>.inl h) _ _ hu.2.2,.inr (.inr ⟨hu.2.1,hv.1⟩),z4i (fun _ _ h=>.inr (.inl h)) _ _ hv.2.2⟩
section
variable {A B:Lc}{S S':Str→Prop}
theorem cat_tail (ha:A.In S) (hb:B.In S') (dj:∀ x,S x→S' x→False):∀ (r:List Str) (x:Str),S' x→chN (A.cat B).N x r→chN B.N x r∧S' (lst x r)
 | [],x,hx,_=>⟨trivial,hx⟩
 |y::r,x,hx,hc=>by
  obtain ⟨h1,h2⟩:=hc
  have hn:B.N x y:=by
   rcases h1 with h|h|h
   ·exact (dj x (ha.n _ _ h).1 hx).elim
   ·exact h
   ·exact (dj x (ha.l _ h.1) hx).elim
  obtain ⟨c,l⟩:=cat_tail ha hb dj r y (hb.n _ _ hn).2 h2
  exact ⟨⟨hn,c⟩,l⟩
theorem cat_head (ha:A.In S) (hb:B.In S') (dj:∀ x,S x→S' x→False):∀ (r:List Str) (x:Str),S x→chN (A.cat B).N x r →
  (chN A.N x r∧S (lst x r)) ∨ ∃ u y v,r=u ++ y::v∧chN A.N x u∧A.L (lst x u)∧B.F y∧chN B.N y v∧S' (lst y v)
 | [],x,hx,_=>.inl ⟨trivial,hx⟩
 |y::r,x,hx,hc=>by
  obtain ⟨h1,h2⟩:=hc
  rcases h1 with h|h|h
  ·rcases cat_head ha hb dj r y (ha.n _ _ h).2 h2 with ⟨c,l⟩|⟨u,z,v,e,c1,c2,c3,c4,c5⟩
   ·exact .inl ⟨⟨h,c⟩,l⟩
   ·exact .inr ⟨y::u,z,v,by rw [e];rfl,⟨h,c1⟩,c2,c3,c4,c5⟩
  ·exact (dj x hx (hb.n _ _ h).1).elim
  ·obtain ⟨c,l⟩:=cat_tail ha hb dj r y (hb.f _ h.2) h2
   exact .inr ⟨[],y,r,rfl,trivial,h.1,h.2,c,l⟩
theorem cat_iff (ha:A.In S) (hb:B.In S') (dj:∀ x,S x→S' x→False) (w:List Str):(A.cat B).has w↔∃ u v,w=u ++ v∧A.has u∧B.has v:=by
 constructor
 ·intro h
  cases w with
  |nil=>exact ⟨[],[],rfl,h.1,h.2⟩
  |cons x r =>
   obtain ⟨hf,hl,hc⟩:=h
   rcases hf with hf|⟨hab,hf⟩
   ·rcases cat_head ha hb dj r x (ha.f _ hf) hc with ⟨c,l⟩|⟨u,y,v,e,c1,c2,c3,c4,c5⟩
    ·rcases hl with ⟨hbb,hl⟩|hl
     ·exact ⟨x::r,[],by simp,⟨hf,hl,c⟩,hbb⟩
     ·exact (dj _ l (hb.l _ hl)).elim
    ·refine ⟨x::u,y::v,by rw [e];rfl,⟨hf,c2,c1⟩,c3,?_,c4⟩
     rw [e,lst_app] at hl
     rcases hl with ⟨_,hl⟩|hl
     ·exact (dj _ (ha.l _ hl) c5).elim
     ·exact hl
   ·obtain ⟨c,l⟩:=cat_tail ha hb dj r x (hb.f _ hf) hc
    refine ⟨[],x::r,rfl,hab,hf,?_,c⟩
    rcases hl with ⟨_,hl⟩|hl
    ·exact (dj _ (ha.l _ hl) l).elim
    ·exact hl
 ·rintro ⟨u,v,rfl,h1,h2⟩
  exact cat_mk h1 h2
def Lc.alt (A B:Lc):Lc:=⟨A.b∨B.b,fun x=>A.F x∨B.F x,fun x=>A.L x∨B.L x,fun x y=>A.N x y∨B.N x y⟩
theorem alt_head (ha:A.In S) (hb:B.In S') (dj:∀ x,S x→S' x→False):∀ (r:List Str) (x:Str),S x→chN (A.alt B).N x r→chN A.N x r∧S (lst x r)
 | [],x,hx,_=>⟨trivial,hx⟩
 |y::r,x,hx,hc=>by
  obtain ⟨h1,h2⟩:=hc
  rcases h1 with h|h
  ·obtain ⟨c,l⟩:=alt_head ha hb dj r y (ha.n _ _ h).2 h2
   exact ⟨⟨h,c⟩,l⟩
  ·exact (dj x hx (hb.n _ _ h).1).elim
theorem alt_tail (ha:A.In S) (hb:B.In S') (dj:∀ x,S x→S' x→False):∀ (r:List Str) (x:Str),S' x→chN (A.alt B).N x r→chN B.N x r∧S' (lst x r)
 | [],x,hx,_=>⟨trivial,hx⟩
 |y::r,x,hx,hc=>by
  obtain ⟨h1,h2⟩:=hc
  rcases h1 with h|h
  ·exact (dj x (ha.n _ _ h).1 hx).elim
  ·obtain ⟨c,l⟩:=alt_tail ha hb dj r y (hb.n _ _ h).2 h2
   exact ⟨⟨h,c⟩,l⟩
theorem alt_iff (ha:A.In S) (hb:B.In S') (dj:∀ x,S x→S' x→False) (w:List Str):(A.alt B).has w↔A.has w∨B.has w:=by
 cases w with
 |nil=>exact Iff.rfl
 |cons x r =>
  constructor
  ·rintro ⟨hf,hl,hc⟩
   rcases hf with hf|hf
   ·obtain ⟨c,l⟩:=alt_head ha hb dj r x (ha.f _ hf) hc
    rcases hl with hl|hl
    ·exact .inl ⟨hf,hl,c⟩
    ·exact (dj _ l (hb.l _ hl)).elim
   ·obtain ⟨c,l⟩:=alt_tail ha hb dj r x (hb.f _ hf) hc
    rcases hl with hl|hl
    ·exact (dj _ (ha.l _ hl) l).elim
    ·exact .inr ⟨hf,hl,c⟩
  ·rintro (⟨h1,h2,h3⟩|⟨h1,h2,h3⟩)
   ·exact ⟨.inl h1,.inl h2,z4i (fun _ _ h=>.inl h) _ _ h3⟩
   ·exact ⟨.inr h1,.inr h2,z4i (fun _ _ h=>.inr h) _ _ h3⟩
def Lc.rep (A:Lc) (b:Prop):Lc:=⟨b,A.F,A.L,fun x y=>A.N x y∨(A.L x∧A.F y)⟩
theorem rep_cut {S0:Prop}:∀ (r:List Str) (x:Str),A.L (lst x r)→chN (A.rep S0).N x r→∃ u v,r=u ++ v∧chN A.N x u∧A.L (lst x u)∧(∀ y v',v=y::v'→A.F y∧A.L (lst y v')∧chN (A.rep S0).N y v')
 | [],x,hl,_=>⟨[],[],rfl,trivial,hl,fun y v' e=>by cases e⟩
 |y::r,x,hl,hc=>by
  obtain ⟨h1,h2⟩:=hc
  rcases h1 with h|h
  ·obtain ⟨u,v,e,c1,c2,c3⟩:=rep_cut r y hl h2
   exact ⟨y::u,v,by rw [e];rfl,⟨h,c1⟩,c2,c3⟩
  ·exact ⟨[],y::r,rfl,trivial,h.1,fun z v' e=>by cases e;exact ⟨h.2,hl,h2⟩⟩
theorem rep_star {S0:Prop}:∀ (n:Nat) (r:List Str) (x:Str),r.length≤n→A.F x→A.L (lst x r)→chN (A.rep S0).N x r→∃ u v,x::r=u ++ v∧A.has u∧Star A.has v
 |n,r,x,hn,hf,hl,hc=>by
  obtain ⟨u,v,e,c1,c2,c3⟩:=rep_cut r x hl hc
  refine ⟨x::u,v,by rw [e];rfl,⟨hf,c2,c1⟩,?_⟩
  cases v with
  |nil=>exact .nil
  |cons y v' =>
   obtain ⟨k1,k2,k3⟩:=c3 y v' rfl
   have hlen:=congrArg List.length e
   simp at hlen
   cases n with
   |zero=>omega
   |succ n =>
    obtain ⟨u',w',e',a',s'⟩:=rep_star n v' y (by omega) k1 k2 k3
    rw [e']
    exact .app a' s'
theorem star_rep {v:List Str}(h:Star A.has v):(A.rep True).has v:=by
 induction h with
 |nil=>trivial
 | @app u v hu _ ih =>
  cases u with
  |nil=>exact ih
  |cons x u =>
   cases v with
   |nil=>rw [List.append_nil];exact ⟨hu.1,hu.2.1,z4i (fun _ _ h=>.inl h) _ _ hu.2.2⟩
   |cons y v =>
    refine ⟨hu.1,?_,?_⟩
    ·show (A.rep True).L (lst x (u ++ y::v))
     rw [lst_app];exact ih.2.1
    ·show chN (A.rep True).N x (u ++ y::v)
     rw [chN_app];exact ⟨z4i (fun _ _ h=>.inl h) _ _ hu.2.2,.inr ⟨hu.2.1,ih.1⟩,ih.2.2⟩
theorem star_iff (w:List Str):(A.rep True).has w↔Star A.has w:=by
 constructor
 ·intro h
  cases w with
  |nil=>exact .nil
  |cons x r =>
   obtain ⟨u,v,e,hu,hv⟩:=rep_star (A:=A) (S0:=True) r.length r x (Nat.le_refl _) h.1 h.2.1 h.2.2
   rw [e]
   exact .app hu hv
 ·exact star_rep
theorem plus_iff (w:List Str):(A.rep A.b).has w↔∃ u v,w=u ++ v∧A.has u∧Star A.has v:=by
 constructor
 ·intro h
  cases w with
  |nil=>exact ⟨[],[],rfl,h,.nil⟩
  |cons x r=>exact rep_star (A:=A) (S0:=A.b) r.length r x (Nat.le_refl _) h.1 h.2.1 h.2.2
 ·rintro ⟨u,v,rfl,hu,hv⟩
  have:=star_rep (.app hu hv)
  cases e:u ++ v with
  |nil =>
   obtain ⟨rfl,rfl⟩:=List.append_eq_nil_iff.mp e
   exact hu
  |cons x r=>rw [e] at this;exact this
end
open PySem L2 VL
theorem z6b:∀ (ps:List Pat) (Es:List Str) (s t:Str),z4u Es ps s t=((decide (s∈Es) && decide (t∈z1y ps)) || z4u [] ps s t)
 | [],Es,s,t=>by simp [z4u,z1y]
 |c::cs,Es,s,t=>by
  simp only [z4u,z1y]
  rw [z6b cs (z1e c ++ if z2v c=true then Es else []),z6b cs (z1e c ++ if z2v c=true then [] else [])]
  by_cases hb:z2v c=true <;> by_cases h1:s∈Es <;> by_cases h2:t∈z1b c <;> by_cases h3:s∈z1e c <;> by_cases h4:t∈z1y cs <;> simp [hb,h1,h2,h3,h4]
def LcP (p:Pat):Lc:=⟨z2v p=true,fun x=>x∈z1b p,fun x=>x∈z1e p,fun a b=>LkP p a b=true⟩
def LcR (ps:List Pat):Lc:=⟨z1w ps=true,fun x=>x∈z1y ps,fun x=>x∈z3r ps,fun a b=>LkL ps a b=true∨z4u [] ps a b=true⟩
def LcA (ps:List Pat):Lc:=⟨z6r ps=true,fun x=>x∈z2k ps,fun x=>x∈z4s ps,fun a b=>LkL ps a b=true⟩
theorem LcR_cons (p:Pat) (ps:List Pat):LcR (p::ps)=(LcP p).cat (LcR ps):=by
 unfold LcR Lc.cat LcP
 simp only [Lc.mk.injEq]
 refine ⟨by simp [z1w],funext fun x=>propext ?_,funext fun x=>propext ?_,funext fun x=>funext fun y=>propext ?_⟩
 ·simp only [z1y,List.mem_append]
  by_cases hb:z2v p=true <;> simp [hb]
 ·simp only [z3r,List.mem_append]
  by_cases hb:z1w ps=true <;> simp [hb]
 ·simp only [LkL,z4u,Bool.or_eq_true]
  rw [z6b ps (z1e p ++ if z2v p=true then [] else [])]
  have e:(z1e p ++ if z2v p=true then ([]:List Str) else [])=z1e p:=by by_cases hb:z2v p=true <;> simp [hb]
  rw [e]
  simp only [Bool.or_eq_true,Bool.and_eq_true,decide_eq_true_eq,List.not_mem_nil,decide_false,Bool.false_and,Bool.false_eq_true,false_or]
  constructor
  ·rintro ((h|h)|(h|h))
   ·exact .inl h
   ·exact .inr (.inl (.inl h))
   ·exact .inr (.inr h)
   ·exact .inr (.inl (.inr h))
  ·rintro (h|(h|h)|h)
   ·exact .inl (.inl h)
   ·exact .inl (.inr h)
   ·exact .inr (.inr h)
   ·exact .inr (.inl h)
theorem LcA_cons (p:Pat) (ps:List Pat):LcA (p::ps)=(LcP p).alt (LcA ps):=by
 unfold LcA Lc.alt LcP
 simp only [Lc.mk.injEq]
 refine ⟨by simp [z6r],funext fun x=>propext ?_,funext fun x=>propext ?_,funext fun x=>funext fun y=>propext ?_⟩
 ·simp [z2k]
 ·simp [z4s]
 ·simp [LkL]
theorem z7b {s t:Str}:∀ (ps:List Pat),z4u [] ps s t=true→s∈z0r ps∧t∈z0r ps
 | [],h=>by simp [z4u] at h
 |c::cs,h=>by
  simp only [z4u] at h
  rw [z6b cs (z1e c ++ if z2v c=true then [] else [])] at h
  have e:(z1e c ++ if z2v c=true then ([]:List Str) else [])=z1e c:=by by_cases hb:z2v c=true <;> simp [hb]
  rw [e] at h
  simp only [Bool.or_eq_true,Bool.and_eq_true,decide_eq_true_eq,List.not_mem_nil,decide_false,Bool.false_and,Bool.false_eq_true,false_or] at h
  simp only [z0r,List.mem_append]
  rcases h with ⟨h1,h2⟩|h
  ·exact ⟨.inl (z1x c h1),.inr (z4g cs h2)⟩
  ·obtain ⟨h1,h2⟩:=z7b cs h
   exact ⟨.inr h1,.inr h2⟩
mutual
theorem z4x {s t:Str}:∀ p:Pat,LkP p s t=true→s∈z0h p∧t∈z0h p
 |.none,h=>by simp [LkP] at h
 |.one _,h=>by simp [LkP] at h
 |.row ps,h=>by
  simp only [LkP,Bool.or_eq_true] at h
  simp only [z0h]
  rcases h with h|h
  ·exact z5w ps h
  ·exact z7b ps h
 |.any ps,h=>by simp only [LkP] at h;simp only [z0h];exact z5w ps h
 |.wrap .maybe p,h=>by simp only [LkP] at h;simp only [z0h];exact z4x p h
 |.wrap .many p,h=>by
  simp only [LkP,Bool.or_eq_true,Bool.and_eq_true,decide_eq_true_eq] at h
  simp only [z0h]
  rcases h with h|⟨h1,h2⟩
  ·exact z4x p h
  ·exact ⟨z1x p h1,z2q p h2⟩
 |.wrap .some p,h=>by
  simp only [LkP,Bool.or_eq_true,Bool.and_eq_true,decide_eq_true_eq] at h
  simp only [z0h]
  rcases h with h|⟨h1,h2⟩
  ·exact z4x p h
  ·exact ⟨z1x p h1,z2q p h2⟩
theorem z5w {s t:Str}:∀ ps:List Pat,LkL ps s t=true→s∈z0r ps∧t∈z0r ps
 | [],h=>by simp [LkL] at h
 |p::ps,h=>by
  simp only [LkL,Bool.or_eq_true] at h
  simp only [z0r,List.mem_append]
  rcases h with h|h
  ·obtain ⟨h1,h2⟩:=z4x p h;exact ⟨.inl h1,.inl h2⟩
  ·obtain ⟨h1,h2⟩:=z5w ps h;exact ⟨.inr h1,.inr h2⟩
end
theorem inP (p:Pat):(LcP p).In (fun x=>x∈z0h p):=⟨fun x h=>z2q p h,fun x h=>z1x p h,fun x y h=>z4x p h⟩
theorem inR (ps:List Pat):(LcR ps).In (fun x=>x∈z0r ps):=⟨fun x h=>z4g ps h,fun x h=>z5r ps h,fun x y h=>by
 rcases h with h|h
 ·exact z5w ps h
 ·exact z7b ps h⟩
theorem inA (ps:List Pat):(LcA ps).In (fun x=>x∈z0r ps):=⟨fun x h=>z5c ps h,fun x h=>z5u ps h,fun x y h=>z5w ps h⟩
theorem LcP_many (p:Pat):LcP (.wrap .many p)=(LcP p).rep True:=by
 unfold LcP Lc.rep
 simp [z2v,z1b,z1e,LkP]
theorem LcP_some (p:Pat):LcP (.wrap .some p)=(LcP p).rep (LcP p).b:=by
 unfold LcP Lc.rep
 simp [z2v,z1b,z1e,LkP]
mutual
theorem z6e:∀ (p:Pat),(z0h p).Nodup→∀ w,Lang p w↔(LcP p).has w
 |.none,_,w=>by
  cases w with
  |nil=>simp [Lang,Lc.has,LcP,z2v]
  |cons x r=>simp [Lang,Lc.has,LcP,z1b]
 |.one s,_,w=>by
  cases w with
  |nil=>simp [Lang,Lc.has,LcP,z2v]
  |cons x r =>
   cases r with
   |nil=>simp [Lang,Lc.has,LcP,z1b,z1e,lst,chN]
   |cons y r=>simp [Lang,Lc.has,LcP,chN,LkP]
 |.row ps,nd,w=>by
  have e:LcP (.row ps)=LcR ps:=by
   unfold LcP LcR
   simp [z2v,z1b,z1e,LkP]
  rw [e]
  exact langR_iff ps (by simpa [z0h] using nd) w
 |.any ps,nd,w=>by
  have e:LcP (.any ps)=LcA ps:=by
   unfold LcP LcA
   simp [z2v,z1b,z1e,LkP]
  rw [e]
  exact langA_iff ps (by simpa [z0h] using nd) w
 |.wrap .maybe p,nd,w=>by
  have ih:=z6e p (by simpa [z0h] using nd) w
  simp only [Lang]
  rw [ih]
  cases w with
  |nil=>simp [Lc.has,LcP,z2v]
  |cons x r=>simp [Lc.has,LcP,z1b,z1e,LkP]
 |.wrap .many p,nd,w=>by
  have ih:Lang p=(LcP p).has:=funext fun w=>propext (z6e p (by simpa [z0h] using nd) w)
  simp only [Lang]
  rw [ih,LcP_many,star_iff]
 |.wrap .some p,nd,w=>by
  have ih:Lang p=(LcP p).has:=funext fun w=>propext (z6e p (by simpa [z0h] using nd) w)
  simp only [Lang]
  rw [ih,LcP_some,plus_iff]
theorem langR_iff:∀ (ps:List Pat),(z0r ps).Nodup→∀ w,z9l ps w↔(LcR ps).has w
 | [],_,w=>by
  cases w with
  |nil=>simp [z9l,Lc.has,LcR,z1w]
  |cons x r=>simp [z9l,Lc.has,LcR,z1y]
 |p::ps,nd,w=>by
  simp only [z0r] at nd
  obtain ⟨n1,n2,n3⟩:=List.nodup_append.mp nd
  rw [LcR_cons,cat_iff (inP p) (inR ps) (fun x h1 h2=>n3 x h1 x h2 rfl)]
  simp only [z9l]
  have i1:=z6e p n1
  have i2:=langR_iff ps n2
  simp only [i1,i2]
theorem langA_iff:∀ (ps:List Pat),(z0r ps).Nodup→∀ w,y0q ps w↔(LcA ps).has w
 | [],_,w=>by
  cases w with
  |nil=>simp [y0q,Lc.has,LcA,z6r]
  |cons x r=>simp [y0q,Lc.has,LcA,z2k]
 |p::ps,nd,w=>by
  simp only [z0r] at nd
  obtain ⟨n1,n2,n3⟩:=List.nodup_append.mp nd
  rw [LcA_cons,alt_iff (inP p) (inA ps) (fun x h1 h2=>n3 x h1 x h2 rfl)]
  simp only [y0q]
  have i1:=z6e p n1
  have i2:=langA_iff ps n2
  simp only [i1,i2]
end
theorem lst_last:∀ (r:List Str) (x:Str),(x::r).getLast (by simp)=lst x r
 | [],x=>rfl
 |y::r,x=>by rw [List.getLast_cons (by simp)];exact lst_last r y
theorem chain_iff (p:Pat):∀ (r:List Str) (x:Str),z9h p x r=true↔chN (fun a b=>LkP p a b=true) x r
 | [],x=>by simp [z9h,chN]
 |y::r,x=>by
  simp only [z9h,chN,Bool.and_eq_true,decide_eq_true_eq,chain_iff p r y]
  constructor
  ·rintro ⟨h1,h2⟩;exact ⟨(List.mem_filter.mp h1).2,h2⟩
  ·rintro ⟨h1,h2⟩;exact ⟨List.mem_filter.mpr ⟨(z4x p h1).2,h1⟩,h2⟩
theorem agrees_iff (p:Pat) (w:List Str):z3e p w=true↔(LcP p).has w:=by
 cases w with
 |nil=>simp [z3e,Lc.has,LcP]
 |cons x r =>
  simp only [z3e,Lc.has,LcP,Bool.and_eq_true,decide_eq_true_eq,chain_iff,lst_last,and_assoc]
theorem agrees_lang {p:Pat}(nd:(z0h p).Nodup) (w:List Str):z3e p w=true↔Lang p w:=by rw [agrees_iff,z6e p nd]
open PySem L2 VL Pap
def R_pop:RD:=fun δ Q=>∃ ns:List Int,δ=[.ob true (.lst (ns.map .int))]∧∀ (x:Int) (ms:List Int),Q false (.int x) [.ob true (.lst (ms.map .int))]
theorem e_pop {ns:List Int}{Q:Bool→D→List VL.Slot→Prop}{w:Beh Q}:hold R_pop Q w [.ob true (.lst (ns.map .int))] = ∀ (x:Int) (ms:List Int),Q false (.int x) [.ob true (.lst (ms.map .int))] :=
 propext ⟨fun ⟨_,_,h⟩=>h,fun h=>⟨ns,rfl,h⟩⟩
def R_text:RD:=fun δ Q=>∃ n:Int,δ=[.fz (.int n)]∧∀ z:Str,z.length≤60→Q false (.str z) [.no]
theorem e_text {n:Int}{Q:Bool→D→List VL.Slot→Prop}{w:Beh Q}:hold R_text Q w [.fz (.int n)] = ∀ z:Str,z.length≤60→Q false (.str z) [.no] :=
 propext ⟨fun ⟨_,e,h⟩=>h,fun h=>⟨n,rfl,h⟩⟩
local macro_rules|`(tactic| walk_at "vd")=>do
 let u←("reduceIte getK_0 getK_s setK_0 setK_s setW_no setW_fz setW_ob setW_s varS_fz varS_ob pkS_fz pkS_ob obK_ob scK_sc ioK_t ioK_no intK_e strK_e blK_e lstK_e dctK_e truK_lst isLK_e int1K_e dFor_eq dComp_eq v_seq v_next v_ret v_brk v_never v_drop v_if v_set v_c v_var v_mv v_op v_opV v_opW v_test v_not v_and v_or v_truV v_andV v_notV v_ifE v_neg v_nil v_cons v_tup v_lst v_CB v_CBV v_mt v_gN v_gTup2 v_gCons v_gNil v_setL v_iList v_iRng1 v_call v_aNil v_aV v_aO v_callIO v_oN v_oS v_slLV v_slS v_slC v_join v_dict0 v_dget v_din v_dput v_I v_Ic v_eq_ii v_eq_ss v_ne_ii v_ne_ss v_catS v_cat v_ixL v_ixT0 v_ixT1 v_ixT2 v_ixS v_ixQl v_ixQt v_eqL0 v_neL0 v_notInL v_inT2 v_inT3 v_lenL v_lenS v_lenQl v_lenQt v_listOf v_int1b v_append v_extend v_pop z9d z9g z7y z7z z6n z9f z9a z7m z8d z6k z9c z8w z7j z7n z6l z8y z8z z7e z7s z6m lst2K_e v_iRev v_iZip v_dgetE v_dinE v_ixC v_lenC v_ixT3 v_index v_scA v_callC v_lst1K v_iEnum v_lenSet v_slR v_max2 v_TEnd v_TV v_TO1 v_2Nil v_2V v_2O1 v_2O2 v_callC2".splitOn " ").mapM fun n=>`(Lean.Parser.Tactic.simpLemma| ↓ $(Lean.mkIdent n.toName):term)
 let v←("e_pop e_text rsl_t rsl_f outS keepIo_t keepIo_f keepIo_fz keepIo_no keepIo_sc List.map_cons List.map_nil List.length_cons List.length_nil Nat.reduceAdd List.replicate_succ List.replicate_zero List.cons_append List.nil_append List.append_nil List.drop_succ_cons List.drop_zero List.filter_cons List.filter_nil Option.isNone_none Option.isNone_some and_true true_and decide_eq_true_eq Bool.true_eq_false Bool.false_eq_true Bool.not_true Bool.not_false Bool.not_not Bool.not_eq_eq_eq_not decide_true decide_false if_true if_false eq_self Int.zero_add List.isEmpty_nil List.isEmpty_cons not_true_eq_false not_false_eq_true false_and and_false Option.isSome_none Option.isSome_some y0o fgt List.set_cons_zero List.set_cons_succ".splitOn " ").mapM fun n=>`(Lean.Parser.Tactic.simpLemma| $(Lean.mkIdent n.toName):term)
 `(tactic| simp only [$((u++v).toArray),*])
mutual
def pD:Part→D
 |.txt s=>.str s
 |.tup n ps=>.tup [.str n,.lst (pDs ps)]
def pDs:List Part→List D
 | []=>[]
 |p::ps=>pD p::pDs ps
end
theorem z5g:∀ ps:List Part,pDs ps=ps.map pD
 | []=>rfl
 |p::ps=>by rw [pDs,z5g ps];rfl
theorem z8q (ps:List Part):(pDs ps).length=ps.length:=by rw [z5g];simp
mutual
def dp1:Part→Nat
 |.txt _=>0
 |.tup _ ps=>dpL ps+1
def dpL:List Part→Nat
 | []=>0
 |p::ps=>max (dp1 p) (dpL ps)
end
theorem z6c (ps qs:List Part):dpL (ps ++ qs)=max (dpL ps) (dpL qs):=by
 induction ps with
 |nil=>simp [dpL]
 |cons p ps ih=>simp only [dpL,ih,List.cons_append];omega
theorem pDs_app (ps qs:List Part):pDs (ps ++ qs)=pDs ps ++ pDs qs:=by simp [z5g]
theorem pDs_get {ps:List Part}{k:Nat}(h:k < ps.length):atI (pDs ps) (k:Int)=some (pD ps[k]):=by
 refine z3x ?_
 rw [z5g,List.getElem?_map,List.getElem?_eq_getElem h];rfl
theorem dp_mem {ps:List Part}{p:Part}(h:p∈ps):dp1 p≤dpL ps:=by
 induction ps with
 |nil=>cases h
 |cons q ps ih =>
  simp only [dpL]
  rcases List.mem_cons.mp h with rfl|h
  ·omega
  ·have:=ih h;omega
theorem sz_mem {ps:List Part}{p:Part}(h:p∈ps):z2g p≤z0w ps:=by
 induction ps with
 |nil=>cases h
 |cons q ps ih =>
  simp only [z0w]
  rcases List.mem_cons.mp h with rfl|h
  ·omega
  ·have:=ih h;omega
mutual
def okA:D→Bool
 |.str _=>true
 |.int _=>true
 |.lst xs=>decide (xs.length≤1000000) && okAL xs
 |.tup xs=>decide (xs.length≤1000000) && okAL xs
 |_=>false
def okAL:List D→Bool
 | []=>true
 |d::r=>okA d && okAL r
end
theorem okA_mem {xs:List D}(h:okAL xs=true) {d:D}(hd:d∈xs):okA d=true:=by
 induction xs with
 |nil=>cases hd
 |cons a r ih =>
  simp only [okAL,Bool.and_eq_true] at h
  rcases List.mem_cons.mp hd with rfl|hd
  ·exact h.1
  ·exact ih h.2 hd
theorem dep_mem {xs:List D}{d:D}(hd:d∈xs):dep d≤depL xs:=by
 induction xs with
 |nil=>cases hd
 |cons a r ih =>
  simp only [depL]
  rcases List.mem_cons.mp hd with rfl|hd
  ·omega
  ·have:=ih hd;omega
section
variable {P:Program}{w:World}{K:PySem.W.Frag}{mg:Str→Option Value}{base:Heap}{f:Addr}{fd:FuncData}
theorem ok_pop (E:Ent K mg "_law_pop" s__law_pop ["_law_draws_here"] f fd) (T:Zs K mg):FnOk P w K mg base CX0 1 f fd ["_law_draws_here"] (spD R_pop):=by
 refine VL.Fun.dok E.F sc__law_pop (fun δ Qd h=>?_) (by decide) (fun cdv A outer s H E δ Qd hr h=>?_)
 ·obtain ⟨ns,rfl,_⟩:=h;rfl
 ·obtain ⟨ns,rfl,q⟩:=h
  have hu:=z4k hr
  refine ⟨_,(z0b (z1m (dt_cmpV (os_eqL hu) z5a (pv 0) (z1f z0e) (z1a _)) (z0f (z0n z0d)) z0t)
   (z0f (z0n (de_mt0 ms_pop PySem.F.slot_list_pop PySem.F.type_list_pop mt_pop (pv 0))))),?_⟩
  walk_at "vd"
  refine ⟨by decide,?_⟩
  cases ns with
  |nil=>exact iteT (q 0 [])
  |cons a r =>
   have hlt:(a::r).length - 1 < (a::r).length:=by simp
   refine iteF ⟨.int (a::r)[(a::r).length - 1],?_,?_⟩
   ·rw [List.getElem?_map,List.length_map,List.getElem?_eq_getElem hlt];rfl
   ·have:=q (a::r)[(a::r).length - 1] (a::r).dropLast
    rwa [List.map_dropLast] at this
theorem ok_text (E:Ent K mg "_law_text" s__law_text ["_law_number"] f fd) (T:Zs K mg):FnOk P w K mg base CX0 1 f fd ["_law_number"] (spD R_text):=by
 refine VL.Fun.dok E.F sc__law_text (fun δ Qd h=>?_) (by decide) (fun cdv A outer s H E δ Qd hr h=>?_)
 ·obtain ⟨ns,rfl,_⟩:=h;rfl
 ·obtain ⟨n,rfl,q⟩:=h
  refine ⟨_,(z0b (z0p (i:=1) sc__law_text.nd rfl (Or.inl rfl) (z1f (z0a z0z (z0a z0z (z0a z0z (z0a z0z (z0a z0z (z0a z0z (z0a z0z (z0a z0z (z0a z0z (z0a z0z (z0a z0z z0e)))))))))))))
   (z0f (z0n (z0g z2j z1z (pv 1) (z0m z1q z1p (dv 0) (z1u z3o z1i rfl T.z_len PySem.boot_len (pv 1))) (fun _ _=>rfl))))),?_⟩
  walk_at "vd"
  obtain ⟨d,hd,e⟩:=atI_ex (xs:=[D.str "",D.str "x",D.str "\"",D.str "\\",D.str "a b",D.str "\\q",D.str " ",D.str "~<*#",D.str "word(\"",D.str "q\\\\\"",D.str "- | ?"]) (z2y (a:=n) (b:=11) (by decide)) (z3c (by decide))
  refine ⟨by decide,by decide,d,e,?_⟩
  simp only [List.mem_cons,List.not_mem_nil,or_false] at hd
  rcases hd with rfl|rfl|rfl|rfl|rfl|rfl|rfl|rfl|rfl|rfl|rfl <;> exact q _ (by decide +kernel)
def R_sign:RD:=fun δ Q=>∃ p:Part,δ=[.fz (pD p)]∧Q false (.str (head1 p)) [.no]
theorem ok_sign (E:Ent K mg "sign_of" s_sign_of ["part"] f fd) (T:Zs K mg):FnOk P w K mg base CX0 1 f fd ["part"] (spD R_sign):=by
 refine VL.Fun.dok E.F sc_sign_of (fun δ Qd h=>?_) (by decide) (fun cdv A outer s H E δ Qd hr h=>?_)
 ·obtain ⟨ns,rfl,_⟩:=h;rfl
 ·obtain ⟨p,rfl,q⟩:=h
  refine ⟨_,(z0f (z0n (de_if (z3p (z1r (z3t T.kit) (z1d (K:=K) rfl) rfl T.z_isinstance PyProof.Rows.boot_isinstance (z0a (dv 0) (z0a (z5l rfl T.z_str PyProof.Rows.boot_str) z0e)))) (de_gS rfl T.g_TEXT_SIGN) (z0g z0j z0v (pv 0) z0d (fun _ _=>rfl))))),?_⟩
  cases p with
  |txt z =>
   simp only [pD]
   walk_at "vd"
   exact q
  |tup n ps =>
   simp only [pD]
   walk_at "vd"
   exact q
def R_copy (n:Nat):RD:=fun δ Q=>∃ ps:List Part,δ=[.fz (.lst (pDs ps))]∧dpL ps < n∧z0w ps≤1000000∧Q true (.lst (pDs ps)) [.no]
theorem ok_copy (E__law_copy_row:Ent K mg "_law_copy_row" s__law_copy_row ["_law_row"] f fd) (T:Zs K mg):∀ n,FnOk P w K mg base CX0 (n+1) f fd ["_law_row"] (spD (R_copy n)):=by
 intro n
 induction n with
 |zero=>exact z3y fun δ Q h=>by obtain ⟨_,_,h,_⟩:=h;exact Nat.not_lt_zero _ h
 |succ n G__law_copy_row =>
 refine VL.Fun.dok E__law_copy_row.F z9i (fun δ Qd h=>?_) (by decide) (fun cdv A outer s H E δ Qd hr h=>?_)
 ·obtain ⟨_,rfl,_⟩:=h;rfl
 ·obtain ⟨ps,rfl,hdp,hs,q⟩:=h
  refine ⟨_,(z0f (z0n (z3v ["_law_part"] ["_law_row"] rfl (show CScopeG (z0c s__law_copy_row) ["_law_row"] ["_law_part"] _ _ from ⟨rfl,by decide +kernel,by decide +kernel,by decide +kernel,by decide +kernel⟩) (z1l (dv 0)) (fun _ _ _ _ _=>(z1s (i:=0) (by decide) (show List.Nodup (["_law_part","_law_row"]:List Str) from by decide +kernel) rfl (Or.inl rfl))) (fun _ _ _ _ _=>z5v) (fun _ _ _ _ _=>(de_if (z3p (z1r (z3t T.kit) (z1d (K:=K) rfl) rfl T.z_isinstance PyProof.Rows.boot_isinstance (z0a (dv 0) (z0a (z5l rfl T.z_str PyProof.Rows.boot_str) z0e)))) (dv 0) (z2a (z0a (z0g z0j z0v (pv 0) z0d (fun _ _=>rfl)) (z0a (z0s G__law_copy_row (hr.mono (by omega)) rfl E__law_copy_row.g E__law_copy_row.F.kp E__law_copy_row.b z0y (z0a (z0g z0j z0v (pv 0) z0d (fun _ _=>rfl)) z0e)) z0e)))))))),?_⟩
  have sz:=z0x
  have hpl:=z8q ps
  have hle:=z4l ps
  walk_at "vd"
  refine comp1m id (by omega) (fun d hd P hP=>?_) (by rw [List.map_id];exact q)
  rw [z5g] at hd
  obtain ⟨p,hp,rfl⟩:=List.mem_map.mp hd
  have h1:=dp_mem hp
  have h2:=sz_mem hp
  cases p with
  |txt z =>
   simp only [pD] at hP ⊢
   walk_at "vd"
   exact hP
  |tup nm qs =>
   simp only [pD] at hP ⊢
   simp only [dp1] at h1
   simp only [z2g] at h2
   walk_at "vd"
   refine ⟨qs,rfl,by omega,by omega,?_⟩
   exact ⟨by omega,hP⟩
def R_parts (n:Nat):RD:=fun δ Q=>∃ ps:List Part,δ=[.fz (.lst (pDs ps))]∧dpL ps < n∧Q false (.int (z0w ps)) [.no]
theorem ok_parts (E__law_parts:Ent K mg "_law_parts" s__law_parts ["_law_row"] f fd) (T:Zs K mg):∀ n,FnOk P w K mg base CX0 (n+1) f fd ["_law_row"] (spD (R_parts n)):=by
 intro n
 induction n with
 |zero=>exact z3y fun δ Q h=>by obtain ⟨_,_,h,_⟩:=h;exact Nat.not_lt_zero _ h
 |succ n G__law_parts =>
 refine VL.Fun.dok E__law_parts.F sc__law_parts (fun δ Qd h=>?_) (by decide) (fun cdv A outer s H E δ Qd hr h=>?_)
 ·obtain ⟨_,rfl,_⟩:=h;rfl
 ·obtain ⟨ps,rfl,hdp,q⟩:=h
  refine ⟨_,(z0b (z0p (i:=1) sc__law_parts.nd rfl (Or.inl rfl) z0d)
   (z0b (z2t PassesOwn.never rfl (z1l (dv 0)) (z1n (i:=2) sc__law_parts.nd rfl (Or.inl rfl)) (z0b (z0p (i:=1) sc__law_parts.nd rfl (Or.inl rfl) (z0m z2h z2n (dv 1) z0d))
   (z0f (z1m (z4y (z3p (z1r (z3t T.kit) (z1d (K:=K) rfl) rfl T.z_isinstance PyProof.Rows.boot_isinstance (z0a (dv 2) (z0a (z5l rfl T.z_str PyProof.Rows.boot_str) z0e))))) (z0f (z0p (i:=1) sc__law_parts.nd rfl (Or.inl rfl) (z0m z2h z2n (dv 1) (z0s G__law_parts (hr.mono (by omega)) rfl E__law_parts.g E__law_parts.F.kp E__law_parts.b z0y (z0a (z0g z0j z0v (pv 2) z0d (fun _ _=>rfl)) z0e))))) z0t))))
   (z0f (z0n (dm 1))))),?_⟩
  walk_at "vd"
  refine z4v [2] (fun r δ=>∃ pre suf,ps=pre ++ suf∧r=pDs suf∧δ=[.fz (.lst (pDs ps)),.fz (.int (z0w pre)),.no]) ⟨[],ps,rfl,rfl,rfl⟩ ?_ ?_
  ·rintro d r δ ⟨pre,suf,e1,e2,rfl⟩
   cases suf with
   |nil=>cases e2
   |cons p suf =>
    cases e2
    have e5:=congrArg dpL e1
    rw [z6c] at e5
    simp only [dpL] at e5
    cases p with
    |txt z =>
     simp only [pD]
     walk_at "vd"
     refine ⟨pre ++ [.txt z],suf,by simp [e1],rfl,?_⟩
     simp [z2x,z0w,z2g]
    |tup nm qs =>
     simp only [pD]
     simp only [dp1] at e5
     walk_at "vd"
     refine ⟨qs,rfl,by omega,?_⟩
     walk_at "vd"
     refine ⟨pre ++ [.tup nm qs],suf,by simp [e1],rfl,?_⟩
     simp only [z2x,z0w,z2g]
     have:((z0w pre:Int)+1+(z0w qs:Int))=((z0w pre+(1+z0w qs+0):Nat):Int):=by omega
     rw [this]
  ·rintro δ ⟨pre,suf,e1,e2,rfl⟩
   cases suf with
   |cons p suf=>cases e2
   |nil =>
    walk_at "vd"
    rw [List.append_nil] at e1
    subst e1
    exact q
def R_alike (n:Nat):RD:=fun δ Q=>∃ d:D,δ=[.fz d,.fz d]∧dep d < n∧okA d=true∧Q false (.bl true) [.no,.no]
theorem ok_alike (E__law_alike:Ent K mg "_law_alike" s__law_alike ["_law_found","_law_due"] f fd) (T:Zs K mg):∀ n,FnOk P w K mg base CX0 (n+1) f fd ["_law_found","_law_due"] (spD (R_alike n)):=by
 intro n
 induction n with
 |zero=>exact z3y fun δ Q h=>by obtain ⟨_,_,h,_⟩:=h;exact Nat.not_lt_zero _ h
 |succ n G__law_alike =>
 refine VL.Fun.dok E__law_alike.F sc__law_alike (fun δ Qd h=>?_) (by decide) (fun cdv A outer s H E δ Qd hr h=>?_)
 ·obtain ⟨_,rfl,_⟩:=h;rfl
 ·obtain ⟨d,rfl,hdp,hok,q⟩:=h
  refine ⟨_,(z0b (z1m (z3p (z1r (z3t T.kit) (z1d (K:=K) rfl) rfl T.z_isinstance PyProof.Rows.boot_isinstance (z0a (dv 1) (z0a (z5l rfl T.z_str PyProof.Rows.boot_str) z0e)))) (z0f (z0n (de_and (z1r (z3t T.kit) (z1d (K:=K) rfl) rfl T.z_isinstance PyProof.Rows.boot_isinstance (z0a (dv 0) (z0a (z5l rfl T.z_str PyProof.Rows.boot_str) z0e))) (de_one (de_cmp z3d z3a (dv 0) (dv 1) (z1a _)))))) z0t)
   (z0b (z1m (z3p (z1r (z3t T.kit) (z1d (K:=K) rfl) rfl T.z_isinstance PyProof.Rows.boot_isinstance (z0a (dv 1) (z0a (z5l rfl T.z_int PyProof.Rows.boot_int) z0e)))) (z0f (z0n (de_and (z1r (z3t T.kit) (z1d (K:=K) rfl) rfl T.z_isinstance PyProof.Rows.boot_isinstance (z0a (dv 0) (z0a (z5l rfl T.z_int PyProof.Rows.boot_int) z0e))) (de_and (de_not (z1r (z3t T.kit) (z1d (K:=K) rfl) rfl T.z_isinstance PyProof.Rows.boot_isinstance (z0a (dv 0) (z0a (z5l rfl T.z_bool PyProof.Rows.boot_bool) z0e)))) (de_one (de_cmp z3d z3a (dv 0) (dv 1) (z1a _))))))) z0t)
   (z0b (z1m (z3p (z1r (z3t T.kit) (z1d (K:=K) rfl) rfl T.z_isinstance PyProof.Rows.boot_isinstance (z0a (dv 1) (z0a (z5l rfl T.z_list PyProof.Rows.boot_list) z0e)))) (z0f (z1m (z4y (z3p (z1r (z3t T.kit) (z1d (K:=K) rfl) rfl T.z_isinstance PyProof.Rows.boot_isinstance (z0a (dv 0) (z0a (z5l rfl T.z_list PyProof.Rows.boot_list) z0e))))) (z0f (z0n de_bl)) z0t)) (z0f (z1m (z4y (z3p (z1r (z3t T.kit) (z1d (K:=K) rfl) rfl T.z_isinstance PyProof.Rows.boot_isinstance (z0a (dv 0) (z0a (z5l rfl T.z_tuple PyProof.Rows.boot_tuple) z0e))))) (z0f (z0n de_bl)) z0t)))
   (z0b (z1m (z1c os_ne op_ne (z1u cs_lenQ z4d rfl T.z_len PySem.boot_len (pv 0)) (z1u cs_lenQ z4d rfl T.z_len PySem.boot_len (pv 1)) (z1a _)) (z0f (z0n de_bl)) z0t)
   (z0b (z2t PassesOwn.never rfl (z4c rfl T.z_range (z0a (z1u cs_lenQ z4d rfl T.z_len PySem.boot_len (pv 1)) z0e)) (z1n (i:=2) sc__law_alike.nd rfl (Or.inl rfl)) (z0f (z1m (z4y (z3p (z0s G__law_alike (hr.mono (by omega)) rfl E__law_alike.g E__law_alike.F.kp E__law_alike.b z0y (z0a (z0g os_ixQ ix_seq (pv 0) (dv 2) (fun _ _=>rfl)) (z0a (z0g os_ixQ ix_seq (pv 1) (dv 2) (fun _ _=>rfl)) z0e))))) (z0f (z0n de_bl)) z0t)))
   (z0f (z0n de_bl))))))),?_⟩
  cases d with
  |str z =>
   walk_at "vd"
   exact q
  |int z =>
   walk_at "vd"
   exact q
  |lst xs =>
   simp only [okA,Bool.and_eq_true,decide_eq_true_eq] at hok
   simp only [dep] at hdp
   walk_at "vd"
   refine ⟨by omega,by omega,loopN [2] (fun i δ=>δ=[.fz (.lst xs),.fz (.lst xs),.no]) rfl ?_ ?_⟩
   ·rintro i δ hi rfl
    have hi':i < xs.length:=by omega
    have e:atI xs (i:Int)=some xs[i]:=z3x (List.getElem?_eq_getElem hi')
    have hm:xs[i]∈xs:=List.getElem_mem hi'
    have hd:=dep_mem hm
    walk_at "vd"
    refine ⟨_,e,_,e,_,rfl,by omega,okA_mem hok.2 hm,?_⟩
    walk_at "vd"
   ·rintro δ rfl
    walk_at "vd"
    exact q
  |tup xs =>
   simp only [okA,Bool.and_eq_true,decide_eq_true_eq] at hok
   simp only [dep] at hdp
   walk_at "vd"
   refine ⟨by omega,by omega,loopN [2] (fun i δ=>δ=[.fz (.tup xs),.fz (.tup xs),.no]) rfl ?_ ?_⟩
   ·rintro i δ hi rfl
    have hi':i < xs.length:=by omega
    have e:atI xs (i:Int)=some xs[i]:=z3x (List.getElem?_eq_getElem hi')
    have hm:xs[i]∈xs:=List.getElem_mem hi'
    have hd:=dep_mem hm
    walk_at "vd"
    refine ⟨_,e,_,e,_,rfl,by omega,okA_mem hok.2 hm,?_⟩
    walk_at "vd"
   ·rintro δ rfl
    walk_at "vd"
    exact q
  |_=>cases hok
def R_draws (K:PySem.W.Frag):RD:=fun δ Q=>∃ (ns:List Int) (t m:Nat),δ=[.sc K ns,.fz (.int t),.fz (.int m)]∧t≤1000∧m≤1000∧∀ ms:List Int,ms.length=m→Q true (.lst (ms.map .int)) [.no,.no,.no]
theorem z4t {ns:List Int}{i:Int}(h0:0≤i) (h1:i < ns.length):∃ x,atI (ns.map D.int) i=some (.int x):=by
 obtain ⟨d,hd,e⟩:=atI_ex (xs:=ns.map D.int) h0 (by simpa using h1)
 obtain ⟨x,_,rfl⟩:=List.mem_map.mp hd
 exact ⟨x,e⟩
theorem ixN_of {n:Nat}{i:Int}(h0:0≤i) (h1:i < n):∃ j,ixN n i=some j∧j < n:=by
 unfold ixN
 rw [if_pos h0,if_pos h1]
 exact ⟨_,rfl,by omega⟩
theorem ok_draws (E__law_draws:Ent K mg "_law_draws" s__law_draws ["_law_script","_law_turn","_law_many_here"] f fd) (T:Zs K mg):FnOk P w K mg base CX0 1 f fd ["_law_script","_law_turn","_law_many_here"] (spD (R_draws K)):=by
 refine VL.Fun.dok E__law_draws.F sc__law_draws (fun δ Qd h=>?_) (by decide) (fun cdv A outer s H E δ Qd hr h=>?_)
 ·obtain ⟨_,_,_,rfl,_⟩:=h;rfl
 ·obtain ⟨ns,t,m,rfl,ht,hm,q⟩:=h
  refine ⟨_,(z0b (z0p (i:=3) sc__law_draws.nd rfl (Or.inl rfl) (z0m z3n z3i (de_sliceC (K:=K) rfl (pv 0) z4p (z3h z0d)) (z1f (z0a (dv 1) z0e))))
   (z0b (z0p (i:=4) sc__law_draws.nd rfl (Or.inl rfl) (z1f z0e))
   (z0b (z1m (z1c z3d z3a (z0m z1q z1p (z0m z3b z2d (z0g z2j z1z (pv 3) z0d (fun _ _=>rfl)) z0d) z0d) z0d (z1a _)) (z0b (y0d (j:=5) ["_law_cell"] ["_law_script","_law_turn","_law_many_here","_law_cells","_law_found","_law_left","_law_k","_law_at","_law_place","_law_number"] sc__law_draws.nd rfl rfl rfl (show CScopeG (z0c s__law_draws) ["_law_script","_law_turn","_law_many_here","_law_cells","_law_found","_law_left","_law_k","_law_at","_law_place","_law_number"] ["_law_cell"] _ _ from ⟨rfl,by decide +kernel,by decide +kernel,by decide +kernel,by decide +kernel⟩) (z1l (dv 3)) (fun _ _ _ _ _=>(z1s (i:=0) (by decide) (show List.Nodup (["_law_cell","_law_script","_law_turn","_law_many_here","_law_cells","_law_found","_law_left","_law_k","_law_at","_law_place","_law_number"]:List Str) from by decide +kernel) rfl (Or.inl rfl))) (fun _ _ _ _ _=>z5v) (fun _ _ _ _ _=>(z0m z3b z2d (dv 0) z0d)))
   (z0b (z2t PassesOwn.never rfl (z4c rfl T.z_range (z0a (z0m z2h z2n (dv 1) (dv 2)) z0e)) (z1n (i:=6) sc__law_draws.nd rfl (Or.inl rfl)) (z0b (z0p (i:=7) sc__law_draws.nd rfl (Or.inl rfl) (z0m z1q z1p (dv 6) (z1u z3o z1i rfl T.z_len PySem.boot_len (pv 5))))
   (z0b (z1m (z1c os_ge op_ge (dv 6) (dv 1) (z1a _)) (z0f (z2i (z5m z1v PySem.F.slot_list_append PySem.F.type_list_append z1j (pv 4) (z0a (z0m z1q z1p (z0g z2j z1z (pv 5) (dv 7) (fun _ _=>rfl)) z0d) z0e)))) z0t)
   (z0f (ds_setL (pv 5) (dv 7) (z0m z3b z2d (z0g z2j z1z (pv 5) (dv 7) (fun _ _=>rfl)) z0d))))))
   (z0f (z0n (dm 4))))) z0t)
   (z0b (z2t PassesOwn.never rfl (z4c rfl T.z_range (z0a (dv 2) z0e)) (z1n (i:=6) sc__law_draws.nd rfl (Or.inl rfl)) (z0b (z0p (i:=8) sc__law_draws.nd rfl (Or.inl rfl) (z0m z2h z2n (z0m z7w z7t (z0m z7w z7t (z0m z2h z2n (dv 6) (dv 1)) (z0m z2h z2n (dv 6) (dv 1))) z0d) z0d))
   (z0b (z0p (i:=9) sc__law_draws.nd rfl (Or.inl rfl) (z0m z1q z1p (z0m z7w z7t (z0m z2h z2n (z0m z1q z1p (z0g z2j z1z (pv 3) (z0m z1q z1p (dv 6) (z1u z3o z1i rfl T.z_len PySem.boot_len (pv 3))) (fun _ _=>rfl)) z0d) (dv 8)) z0d) z0d))
   (z0b (z0p (i:=9) sc__law_draws.nd rfl (Or.inl rfl) (z0m z1q z1p (z0m z2h z2n (z0m z7w z7t (dv 9) (dv 9)) (z0m z7w z7t z0d (dv 6))) z0d))
   (z0f (z2i (z5m z1v PySem.F.slot_list_append PySem.F.type_list_append z1j (pv 4) (z0a (z0m z1q z1p (z0m z7w z7t (dv 9) (dv 9)) z0d) z0e))))))))
   (z0f (z0n (dm 4))))))),?_⟩
  have sz:=z0x
  have ec:∃ cs:List Int,cutD (ns.map .int) none (some 63)=cs.map .int∧cs.length≤63:=by
   refine ⟨ns.take 63,?_,by rw [List.length_take];omega⟩
   rw [show (63:Int)=((63:Nat):Int) from rfl,z5o,List.map_take]
  obtain ⟨cs0,ec,hcl⟩:=ec
  walk_at "vd"
  rw [ec]
  have e2:List.map D.int cs0 ++ [D.int t]=(cs0 ++ [(t:Int)]).map .int:=by simp
  rw [e2]
  generalize hcs:cs0 ++ [(t:Int)]=cs
  have hcs1:0 < cs.length:=by rw [← hcs];simp
  have hcs2:cs.length≤64:=by rw [← hcs];simp;omega
  obtain ⟨c0,e0⟩:=z4t (ns:=cs) (i:=0) (by decide) (by omega)
  refine ⟨by omega,by simp;omega,by omega,_,e0,?_⟩
  walk_at "vd"
  refine ⟨⟨by decide,by decide⟩,by decide,ite2 (fun _=>?_) fun _=>?_⟩
  ·refine comp1 (fun _ y=>∃ x:Int,y = .int x) (by simp;omega) (fun d hd P hP=>?_) fun ys hys=>?_
   ·obtain ⟨x,_,rfl⟩:=List.mem_map.mp hd
    walk_at "vd"
    exact ⟨⟨by decide,by decide⟩,hP _ ⟨_,rfl⟩⟩
   ·obtain ⟨ls,rfl,hls⟩:∃ ls:List Int,ys=ls.map .int∧ls.length=cs.length:=by
     have:∀ {ds ys:List D},All2 (fun _ y=>∃ x:Int,y = .int x) ds ys→∃ ls:List Int,ys=ls.map .int∧ls.length=ds.length:=by
      intro ds ys h
      induction h with
      |nil=>exact ⟨[],rfl,rfl⟩
      |cons g _ ih =>
       obtain ⟨x,rfl⟩:=g
       obtain ⟨ls,rfl,hl⟩:=ih
       exact ⟨x::ls,rfl,by simp [hl]⟩
     obtain ⟨ls,h1,h2⟩:=this hys
     exact ⟨ls,h1,by simpa using h2⟩
    walk_at "vd"
    refine ⟨by omega,by omega,loopN [6,7] (fun i δ=>∃ (fs ls:List Int),fs.length=i - t∧ls.length=cs.length∧δ=[.sc K ns,.fz (.int t),.fz (.int m),.fz (.lst (cs.map .int)),.ob false (.lst (fs.map .int)),.ob false (.lst (ls.map .int)),.no,.no,.no,.no]) ⟨[],ls,by simp,hls,rfl⟩ ?_ ?_⟩
    ·rintro i δ hi ⟨fs,ls,hf,hl,rfl⟩
     walk_at "vd"
     have hL:((List.map D.int ls).length:Int)=cs.length:=by simp [hl]
     rw [hL]
     have h0:0 < (cs.length:Int):=by omega
     have a1:=z2y (a:=(i:Int)) h0
     have a2:=z3c (a:=(i:Int)) h0
     generalize (i:Int) % (cs.length:Int)=k at a1 a2 ⊢
     obtain ⟨x,ex⟩:=z4t (ns:=ls) a1 (by omega)
     obtain ⟨j,ej,hj⟩:=ixN_of (n:=(List.map D.int ls).length) a1 (by omega)
     have es:∀ v:Int,(List.map D.int ls).set j (.int v)=(ls.set j v).map .int:=fun v=>by simp
     refine ⟨h0,ite2 (fun hge=>⟨_,ex,?_⟩) fun hlt=>⟨_,ex,?_⟩⟩
     ·walk_at "vd"
      refine ⟨by decide,by simp;omega,_,ex,?_⟩
      walk_at "vd"
      refine ⟨⟨by decide,by decide⟩,j,ej,fs ++ [x % 2147483587],ls.set j (x / 2147483587),by simp;omega,by simp [hl],?_⟩
      rw [es];simp
     ·walk_at "vd"
      refine ⟨⟨by decide,by decide⟩,j,ej,fs,ls.set j (x / 2147483587),by omega,by simp [hl],?_⟩
      rw [es]
    ·rintro δ ⟨fs,ls,hf,hl,rfl⟩
     walk_at "vd"
     exact q fs (by omega)
  ·refine ⟨by omega,by omega,loopN [6,8,9] (fun i δ=>∃ fs:List Int,fs.length=i∧δ=[.sc K ns,.fz (.int t),.fz (.int m),.ob false (.lst (cs.map .int)),.ob false (.lst (fs.map .int)),.no,.no,.no,.no,.no]) ⟨[],rfl,rfl⟩ ?_ ?_⟩
   ·rintro i δ hi ⟨fs,hf,rfl⟩
    walk_at "vd"
    have hL:((List.map D.int cs).length:Int)=cs.length:=by simp
    rw [hL]
    have h0:0 < (cs.length:Int):=by omega
    obtain ⟨x,ex⟩:=z4t (ns:=cs) (z2y (a:=(i:Int)) h0) (z3c h0)
    refine ⟨.inl ⟨by omega,by omega⟩,.inr ⟨by decide,by decide⟩,h0,_,ex,?_⟩
    walk_at "vd"
    have b1:=z2y (a:=(x % 2147483647+(((i:Int)+t) * (i+t) * 7919+104729)) * 48271) (b:=2147483647) (by decide)
    have b2:=z3c (a:=(x % 2147483647+(((i:Int)+t) * (i+t) * 7919+104729)) * 48271) (b:=2147483647) (by decide)
    generalize (x % 2147483647+(((i:Int)+t) * (i+t) * 7919+104729)) * 48271 % 2147483647=y at b1 b2 ⊢
    have b3:=z2y (a:=y * y+69621 * (i:Int)) (b:=2147483629) (by decide)
    have b4:=z3c (a:=y * y+69621 * (i:Int)) (b:=2147483629) (by decide)
    generalize (y * y+69621 * (i:Int)) % 2147483629=z at b3 b4 ⊢
    refine ⟨by decide,.inr ⟨by decide,by decide⟩,by decide,.inl ⟨by omega,by omega⟩,.inl ⟨by decide,by decide⟩,by decide,.inl ⟨by omega,by omega⟩,by decide,by simp;omega,fs ++ [z * z % 2147483587],by simp;omega,by simp⟩
   ·rintro δ ⟨fs,hf,rfl⟩
    walk_at "vd"
    exact q fs (by omega)
def R_cell (K:PySem.W.Frag):RD:=fun δ Q=>∃ (ns:List Int) (k:Nat),δ=[.sc K ns,.fz (.int k)]∧Q false (.int (ns.getD k 0)) [.no,.no]
theorem ok_cell (E__law_cell_at:Ent K mg "_law_cell_at" s__law_cell_at ["_law_script","_law_k"] f fd) (T:Zs K mg):FnOk P w K mg base CX0 1 f fd ["_law_script","_law_k"] (spD (R_cell K)):=by
 refine VL.Fun.dok E__law_cell_at.F y0c (fun δ Qd h=>?_) (by decide) (fun cdv A outer s H E δ Qd hr h=>?_)
 ·obtain ⟨_,_,rfl,_⟩:=h;rfl
 ·obtain ⟨ns,k,rfl,q⟩:=h
  refine ⟨_,(z0b (z1m (z1c os_lt op_lt (dv 1) (de_lenC (K:=K) rfl rfl T.z_len (pv 0)) (z1a _)) (z0f (z0n (de_ixC (K:=K) rfl (pv 0) (dv 1)))) z0t)
   (z0f (z0n z0d))),?_⟩
  walk_at "vd"
  by_cases hk:(k:Int) < ns.length
  ·rw [if_pos hk]
   have hk':k < ns.length:=by omega
   refine ⟨ns[k],z3x (by rw [List.getElem?_eq_getElem hk']),?_⟩
   rw [List.getD_eq_getElem?_getD,List.getElem?_eq_getElem hk'] at q
   exact q
  ·rw [if_neg hk]
   rw [List.getD_eq_getElem?_getD,List.getElem?_eq_none (by omega)] at q
   exact q
def R_word8:RD:=fun δ Q=>∃ ps:List Part,δ=[.fz (.lst (pDs ps))]∧ps.length≤1000000∧Q true (.lst ((z2p ps).map .str)) [.no]
theorem ok_wordP {f1:Addr}{fd1:FuncData}(E_word:Ent K mg "word" s_word ["row"] f fd) (T:Zs K mg) (E_sign_of:Ent K mg "sign_of" s_sign_of ["part"] f1 fd1):FnOk P w K mg base CX0 2 f fd ["row"] (spD R_word8):=by
 have G_sign_of:FnOk P w K mg base CX0 1 f1 fd1 _ (spD R_sign):=ok_sign E_sign_of T
 refine VL.Fun.dok E_word.F sc_word (fun δ Qd h=>?_) (by decide) (fun cdv A outer s H E δ Qd hr h=>?_)
 ·obtain ⟨_,rfl,_⟩:=h;rfl
 ·obtain ⟨ps,rfl,hl,q⟩:=h
  refine ⟨_,(z0f (z0n (z3v ["part"] ["row"] rfl (show CScopeG (z0c s_word) ["row"] ["part"] _ _ from ⟨rfl,by decide +kernel,by decide +kernel,by decide +kernel,by decide +kernel⟩) (z1l (dv 0)) (fun _ _ _ _ _=>(z1s (i:=0) (by decide) (show List.Nodup (["part","row"]:List Str) from by decide +kernel) rfl (Or.inl rfl))) (fun _ _ _ _ _=>z5v) (fun _ _ _ _ _=>(z0s G_sign_of (hr.mono (by decide)) rfl E_sign_of.g E_sign_of.F.kp E_sign_of.b z0y (z0a (dv 0) z0e)))))),?_⟩
  have sz:=z0x
  walk_at "vd"
  rw [z5g]
  refine compL pD (fun p=>.str (head1 p)) ps (by omega) (fun p hp P hP=>?_) (by rw [← show (z2p ps).map D.str=ps.map (fun p=>.str (head1 p)) by simp [z2p]];rw [← z5g];exact q)
  walk_at "vd"
  exact ⟨p,rfl,hP⟩
def R_many:RD:=fun δ Q=>∃ c:Int,δ=[.fz (.int c)]∧∀ m:Nat,1≤m→m≤8→Q false (.int m) [.no]
theorem ok_many (E__law_many:Ent K mg "_law_many" s__law_many ["_law_cell"] f fd) (T:Zs K mg):FnOk P w K mg base CX0 1 f fd ["_law_cell"] (spD R_many):=by
 refine VL.Fun.dok E__law_many.F sc__law_many (fun δ Qd h=>?_) (by decide) (fun cdv A outer s H E δ Qd hr h=>?_)
 ·obtain ⟨_,rfl,_⟩:=h;rfl
 ·obtain ⟨c,rfl,q⟩:=h
  refine ⟨_,(z0b (z1m (z1c z3d z3a (z0m z1q z1p (z0m z3b z2d (dv 0) z0d) z0d) z0d (z1a _)) (z0f (z0n (z0m z2h z2n z0d (z0m z1q z1p (z0m z3b z2d (dv 0) z0d) z0d)))) z0t)
   (z0f (z0n (z0m z2h z2n z0d (z0m z1q z1p (z0m z3b z2d (dv 0) z0d) z0d))))),?_⟩
  have key:∀ b:Int,0 < b→b≤8→Qd false (.int (1+c / 16 % b)) [.no]:=fun b h1 h2=>by
   have a1:=z2y (a:=c / 16) h1
   have a2:=z3c (a:=c / 16) h1
   have e:(1+c / 16 % b)=(((1+c / 16 % b).toNat:Nat):Int):=by omega
   rw [e]
   exact q _ (by omega) (by omega)
  walk_at "vd"
  exact ⟨⟨by decide,by decide⟩,by decide,ite2 (fun _=>⟨⟨by decide,by decide⟩,by decide,key 8 (by decide) (by decide)⟩) fun _=>⟨⟨by decide,by decide⟩,by decide,key 4 (by decide) (by decide)⟩⟩
end
open PySem L2 VL Pap
def abc:List Nat:=("abcdefghijklmnopqrstuvwxyz":Str).cps.toList
theorem abcOk:∀ c∈abc,97≤c∧c≤122:=by decide +kernel
theorem y1m:abc.length=26:=by decide +kernel
theorem abc_inj:∀ i,i < 26→∀ j,j < 26→abc[i]? = abc[j]?→i=j:=by decide +kernel
def letF (i:Int):Nat:=abc.getD (i % 26).toNat 0
theorem letF_at (i:Int):atI abc (i % 26)=some (letF i):=by
 have h1:=z2y (a:=i) (b:=26) (by decide)
 have h2:=z3c (a:=i) (b:=26) (by decide)
 have e:(i % 26)=(((i % 26).toNat:Nat):Int):=by omega
 have hl:(i % 26).toNat < abc.length:=by rw [y1m];omega
 rw [e,z3x (List.getElem?_eq_getElem hl)]
 unfold letF
 rw [List.getD_eq_getElem?_getD,List.getElem?_eq_getElem hl]
 rfl
theorem letF_ok (i:Int):97≤letF i∧letF i≤122:=by
 have h1:=z2y (a:=i) (b:=26) (by decide)
 have h2:=z3c (a:=i) (b:=26) (by decide)
 have hl:(i % 26).toNat < abc.length:=by rw [y1m];omega
 unfold letF
 rw [List.getD_eq_getElem?_getD,List.getElem?_eq_getElem hl]
 exact abcOk _ (List.getElem_mem hl)
theorem letF_inj {i j:Int}(h:letF i=letF j):i % 26=j % 26:=by
 have a1:=z2y (a:=i) (b:=26) (by decide)
 have a2:=z3c (a:=i) (b:=26) (by decide)
 have b1:=z2y (a:=j) (b:=26) (by decide)
 have b2:=z3c (a:=j) (b:=26) (by decide)
 have hl:(i % 26).toNat < abc.length:=by rw [y1m];omega
 have hm:(j % 26).toNat < abc.length:=by rw [y1m];omega
 have:=abc_inj (i % 26).toNat (by omega) (j % 26).toNat (by omega) (by
  unfold letF at h
  rw [List.getD_eq_getElem?_getD,List.getD_eq_getElem?_getD,List.getElem?_eq_getElem hl,List.getElem?_eq_getElem hm] at h
  rw [List.getElem?_eq_getElem hl,List.getElem?_eq_getElem hm]
  exact congrArg some h)
 omega
def z6g (n:Int):Str:=Txt.join "" ((List.range (n % 11).toNat).map fun (k:Nat)=>(⟨#[letF (n / 150+(k:Int) * k)]⟩:Str))
def atF (n:Int):Int:=n / 11 % ((z6g n).length+1)
def z9j (k n:Int):Str:=Txt.slice (z6g n) none (some (atF n)) ++ ⟨#[letF (k+n)]⟩ ++ Txt.slice (z6g n) (some (atF n)) none
theorem nameF_cps (k n:Int):(z9j k n).cps.toList=(Txt.slice (z6g n) none (some (atF n))).cps.toList ++ letF (k+n)::(Txt.slice (z6g n) (some (atF n)) none).cps.toList:=by
 show (((Txt.slice (z6g n) none (some (atF n))).cps ++ #[letF (k+n)]) ++ (Txt.slice (z6g n) (some (atF n)) none).cps).toList=_
 simp
theorem nameF_inj {i j n:Int}(h:z9j i n=z9j j n):(i+n) % 26=(j+n) % 26:=by
 have e:=congrArg (fun z:Str=>z.cps.toList) h
 simp only [nameF_cps] at e
 have e2:=List.append_cancel_left e
 exact letF_inj (List.cons.inj e2).1
theorem nameF_ne (k n:Int):z9j k n ≠ "#":=fun h=>by
 have e:=congrArg (fun z:Str=>z.cps.toList) h
 simp only [nameF_cps] at e
 have m:letF (k+n)∈("#":Str).cps.toList:=by rw [← e];simp
 have:=letF_ok (k+n)
 have e3:("#":Str).cps.toList=[35]:=by decide +kernel
 rw [e3] at m
 simp at m
 omega
theorem rngD_map (n:Nat):rngD 0 n=(List.range n).map fun (k:Nat)=>D.int (k:Int):=by simp [rngD]
theorem ones_len (g:Nat→Nat) (l:List Nat):((l.map fun (k:Nat)=>(⟨#[g k]⟩:Str)).map (·.length)).sum=l.length:=by
 induction l with
 |nil=>rfl
 |cons a r ih=>simp only [List.map_cons,List.sum_cons,ih,List.length_cons];show 1+_=_;omega
section
variable {P:Program}{w:World}{K:PySem.W.Frag}{mg:Str→Option Value}{base:Heap}{f:Addr}{fd:FuncData}
def R_name8:RD:=fun δ Q=>∃ k n:Int,δ=[.fz (.int k),.fz (.int n)]∧Q false (.str (z9j k n)) [.no,.no]
theorem Str.len_app (a b:Str):(a ++ b).length=a.length+b.length:=by
 show (a.cps ++ b.cps).size=_
 rw [Array.size_append];rfl
theorem ok_name (E:Ent K mg "_law_name" s__law_name ["_law_k","_law_draw"] f fd) (T:Zs K mg):FnOk P w K mg base CX0 1 f fd ["_law_k","_law_draw"] (spD R_name8):=by
 refine VL.Fun.dok E.F sc__law_name (fun δ Qd h=>?_) (by decide) (fun cdv A outer s H E δ Qd hr h=>?_)
 ·obtain ⟨_,_,rfl,_⟩:=h;rfl
 ·obtain ⟨kk,n,rfl,q⟩:=h
  refine ⟨_,(z0b (z0p (i:=2) sc__law_name.nd rfl (Or.inr rfl) z0z)
   (z0b (z0p (i:=3) sc__law_name.nd rfl (Or.inl rfl) (de_join z0z (z3v ["_law_j"] ["_law_k","_law_draw","_law_letters","_law_base","_law_at"] rfl (show CScopeG (z0c s__law_name) ["_law_k","_law_draw","_law_letters","_law_base","_law_at"] ["_law_j"] _ _ from ⟨rfl,by decide +kernel,by decide +kernel,by decide +kernel,by decide +kernel⟩) (z4c rfl T.z_range (z0a (z0m z1q z1p (dv 1) z0d) z0e)) (fun _ _ _ _ _=>(z1s (i:=0) (by decide) (show List.Nodup (["_law_j","_law_k","_law_draw","_law_letters","_law_base","_law_at"]:List Str) from by decide +kernel) rfl (Or.inl rfl))) (fun _ _ _ _ _=>z5v) (fun _ _ _ _ _=>(z0g os_ixS ix_str (pv 3) (z0m z1q z1p (z0m z2h z2n (z0m z3b z2d (dv 2) z0d) (z0m z7w z7t (dv 0) (dv 0))) z0d) (fun _ _=>rfl))))))
   (z0b (z0p (i:=4) sc__law_name.nd rfl (Or.inl rfl) (z0m z1q z1p (z0m z3b z2d (dv 1) z0d) (z0m z2h z2n (z1u cs_lenS call_len_str rfl T.z_len PySem.boot_len (pv 3)) z0d)))
   (z0f (z0n (z0m os_catS y2n (z0m os_catS y2n (de_sliceS (dv 3) z4p (z3h (dv 4))) (z0g os_ixS ix_str (pv 2) (z0m z1q z1p (z0m z2h z2n (dv 0) (dv 1)) z0d) (fun _ _=>rfl))) (de_sliceS (dv 3) (z3h (dv 4)) z4p))))))),?_⟩
  have hLL:("abcdefghijklmnopqrstuvwxyz":Str).cps.toList=abc:=rfl
  have hll:("abcdefghijklmnopqrstuvwxyz":Str).length=26:=y1m
  generalize ("abcdefghijklmnopqrstuvwxyz":Str)=letters at hLL hll ⊢
  have sz:=z0x
  have m1:=z2y (a:=n) (b:=11) (by decide)
  have m2:=z3c (a:=n) (b:=11) (by decide)
  walk_at "vd"
  rw [rngD_map]
  refine ⟨by decide,by omega,by omega,compL (fun k:Nat=>D.int (k:Int)) (fun k:Nat=>.str (⟨#[letF (n / 150+(k:Int) * k)]⟩:Str)) (List.range (n % 11).toNat) (by simp;omega) (fun k hk P hP=>?_) ?_⟩
  ·have hk':=List.mem_range.mp hk
   walk_at "vd"
   refine ⟨⟨by decide,by decide⟩,.inl ⟨by omega,by omega⟩,by decide,by omega,_,by rw [hLL];exact letF_at _,hP⟩
  ·refine ⟨(List.range (n % 11).toNat).map fun (k:Nat)=>(⟨#[letF (n / 150+(k:Int) * k)]⟩:Str),by simp,PyProof.Rows.joinOk_of_weight ?_ (by decide),?_⟩
   ·have:=ones_len (fun k=>letF (n / 150+(k:Int) * k)) (List.range (n % 11).toNat)
    rw [this]
    simp
    omega
   ·have hb:(z6g n).length≤10:=by
     have:=PySem.W.KT.join_ones ((List.range (n % 11).toNat).map fun (k:Nat)=>(⟨#[letF (n / 150+(k:Int) * k)]⟩:Str)) (fun t ht=>by obtain ⟨k,_,rfl⟩:=List.mem_map.mp ht;rfl)
     have e:(z6g n).length=_:=this
     simp at e
     omega
    show _
    rw [show Txt.join (Str.ofString "") ((List.range (n % 11).toNat).map fun (k:Nat)=>(⟨#[letF (n / 150+(k:Int) * k)]⟩:Str))=z6g n from rfl]
    walk_at "vd"
    have g1:=Txt.slice_le (z6g n) none (some (atF n))
    have g2:=Txt.slice_le (z6g n) (some (atF n)) none
    have l1:(⟨#[letF (kk+n)]⟩:Str).length=1:=rfl
    have l2:=Str.len_app (Txt.slice (z6g n) none (some (atF n))) ⟨#[letF (kk+n)]⟩
    have l3:=Str.len_app (Txt.slice (z6g n) none (some (atF n)) ++ ⟨#[letF (kk+n)]⟩) (Txt.slice (z6g n) (some (atF n)) none)
    rw [show n / 11 % (((z6g n).length:Int)+1)=atF n from rfl]
    exact ⟨⟨by decide,by decide⟩,by omega,by omega,by omega,by decide,by omega,_,by rw [hLL];exact letF_at _,by omega,by omega,by omega,q⟩
end
open PySem L2 VL Pap
mutual
def lenB:Pat→Nat
 |.none=>0
 |.one _=>1
 |.row ps=>z2z ps
 |.any ps=>z2z ps
 |.wrap _ p=>3 * lenB p
def z2z:List Pat→Nat
 | []=>0
 |p::ps=>lenB p+z2z ps
end
theorem z4n:∀ ps qs:List Pat,z2z (ps ++ qs)=z2z ps+z2z qs
 | [],qs=>by simp [z2z]
 |p::ps,qs=>by simp only [List.cons_append,z2z,z4n ps qs];omega
theorem z8e:∀ ps qs:List Pat,dpPs (ps ++ qs)=max (dpPs ps) (dpPs qs)
 | [],qs=>by simp [dpPs]
 |p::ps,qs=>by simp only [List.cons_append,dpPs,z8e ps qs];omega
theorem cut_mid (xs:List D) {a b:Nat}(h:a+b≤xs.length):cutD xs (some (a:Int)) (some ((a:Int)+b))=(xs.drop a).take b:=by
 have e:(a:Int)+(b:Int)=((a+b:Nat):Int):=by omega
 rw [e]
 unfold cutD
 rw [HT.sIx_nat,HT.sIx_nat,Nat.min_eq_left h,Nat.min_eq_left (by omega)]
 congr 1
 omega
mutual
def okP:Pat→Bool
 |.none=>true
 |.one _=>true
 |.row ps=>okPs ps
 |.any ps=>!ps.isEmpty && okPs ps
 |.wrap _ p=>okP p
def okPs:List Pat→Bool
 | []=>true
 |p::ps=>okP p && okPs ps
end
theorem z7g:∀ ps qs:List Pat,okPs (ps ++ qs)=(okPs ps && okPs qs)
 | [],qs=>by simp [okPs]
 |p::ps,qs=>by simp only [List.cons_append,okPs,z7g ps qs,Bool.and_assoc]
theorem okPs_mem {c:Pat}:∀ {ps:List Pat},c∈ps→okPs ps=true→okP c=true
 |q::ps,h,ho=>by
  simp only [okPs,Bool.and_eq_true] at ho
  rcases List.mem_cons.mp h with rfl|h
  ·exact ho.1
  ·exact okPs_mem h ho.2
structure WrapOk (p q:Pat):Prop where
 sg:z0h q=z0h p
 sz:szP q≤szP p+2
 dp:dpP q≤dpP p+1
 ln:lenB q≤3 * lenB p
 ok:okP p=true→okP q=true
section
variable {P:Program}{w:World}{K:PySem.W.Frag}{mg:Str→Option Value}{base:Heap}{f:Addr}{fd:FuncData}
def y1t:RD:=fun δ Q=>∃ (p:Pat) (n:Int),δ=[.fz (patD p),.fz (.int n)]∧∀ q:Pat,WrapOk p q→Q false (patD q) [.no,.no]
theorem ok_wrapped (E__law_wrapped:Ent K mg "_law_wrapped" s__law_wrapped ["_law_pattern_here","_law_number"] f fd) (T:Zs K mg):FnOk P w K mg base CX0 1 f fd ["_law_pattern_here","_law_number"] (spD y1t):=by
 refine VL.Fun.dok E__law_wrapped.F y1d (fun δ Qd h=>?_) (by decide) (fun cdv A outer s H E δ Qd hr h=>?_)
 ·obtain ⟨_,_,rfl,_⟩:=h;rfl
 ·obtain ⟨p,n,rfl,q⟩:=h
  refine ⟨_,(z0b (z1m (z1c z3d z3a (z0m z1q z1p (dv 1) z0d) z0d (z1a _)) (z0f (z0n (z2a (z0a z0z (z0a (z1f (z0a (dv 0) (z0a (z2a (z0a z0z z0e)) z0e))) z0e))))) z0t)
   (z0b (z1m (z1c z3d z3a (z0m z1q z1p (dv 1) z0d) z0d (z1a _)) (z0f (z0n (z2a (z0a z0z (z0a (z1f (z0a (z2a (z0a z0z z0e)) (z0a (dv 0) z0e))) z0e))))) z0t)
   (z0b (z1m (z1c os_lt op_lt (z0m z1q z1p (dv 1) z0d) z0d (z1a _)) (z0f (z0n (z2a (z0a (de_ix z2j z1z (z1f (z0a z0z (z0a z0z (z0a z0z z0e)))) (z0m os_sub op_sub (z0m z1q z1p (dv 1) z0d) z0d) (fun _ _=>rfl)) (z0a (dv 0) z0e))))) z0t)
   (z0f (z0n (dm 0)))))),?_⟩
  have sz:=z0x
  have m1:=z2y (a:=n) (b:=9) (by decide)
  have m2:=z3c (a:=n) (b:=9) (by decide)
  walk_at "vd"
  refine ⟨by decide,ite2 (fun h0=>?_) fun h0=>?_⟩
  ·exact ⟨by omega,by omega,by omega,q (.any [p,.none]) ⟨by simp [z0h,z0r],by simp [szP,szPs];omega,by simp [dpP,dpPs],by simp [lenB,z2z];omega,fun h=>by simp [okP,okPs,h]⟩⟩
  ·refine ⟨by decide,ite2 (fun h1=>?_) fun h1=>?_⟩
   ·exact ⟨by omega,by omega,by omega,q (.row [.none,p]) ⟨by simp [z0h,z0r],by simp [szP,szPs];omega,by simp [dpP,dpPs],by simp [lenB,z2z];omega,fun h=>by simp [okP,okPs,h]⟩⟩
   ·refine ⟨by decide,ite2 (fun h2=>?_) fun h2=>?_⟩
    ·have e:n % 9=2∨n % 9=3∨n % 9=4:=by omega
     have ok:∀ k,WrapOk p (.wrap k p):=fun k=>⟨rfl,by simp only [szP];omega,by simp only [dpP];omega,by simp only [lenB];omega,fun h=>h⟩
     rcases e with e|e|e <;> rw [e]
     ·exact ⟨by omega,by decide,_,atI0,by omega,q _ (ok .maybe)⟩
     ·exact ⟨by omega,by decide,_,atI1,by omega,q _ (ok .many)⟩
     ·exact ⟨by omega,by decide,_,atI2,by omega,q _ (ok .some)⟩
    ·exact q p ⟨rfl,by omega,by omega,by omega,fun h=>h⟩
def R_pattern:RD:=fun δ Q=>∃ (sg:List Str) (ns:List Int),δ=[.fz (.lst (sg.map .str)),.ob true (.lst (ns.map .int))]∧sg.length≤9 ∧
 ∀ (p:Pat) (ms:List Int),z0h p=sg→szP p≤50→dpP p≤20→lenB p≤200000→okP p=true→Q false (patD p) [.no,.ob true (.lst (ms.map .int))]
structure RowOk (sg:List Str) (row:List Pat):Prop where
 si:z0r row=sg
 sz:szPs row+3 * row.length≤4 * sg.length
 dp:dpPs row+2 * row.length≤2 * sg.length
 ln:z2z row * 3 ^ row.length≤sg.length * 3 ^ sg.length
 ok:okPs row=true
theorem ones_okP:∀ sg:List Str,okPs (sg.map .one)=true
 | []=>rfl
 |s::r=>by simp [okPs,okP,ones_okP r]
theorem ones_ok:∀ sg:List Str,z0r (sg.map .one)=sg∧szPs (sg.map .one)=sg.length∧dpPs (sg.map .one)=0∧z2z (sg.map .one)=sg.length
 | []=>⟨rfl,rfl,rfl,rfl⟩
 |s::r=>by
  obtain ⟨h1,h2,h3,h4⟩:=ones_ok r
  simp only [List.map_cons,z0r,z0h,szPs,szP,dpPs,dpP,z2z,lenB,h1,h2,h3,h4,List.length_cons]
  exact ⟨rfl,by omega,by omega,by omega⟩
theorem RowOk.start (sg:List Str):RowOk sg (sg.map .one):=by
 obtain ⟨h1,h2,h3,h4⟩:=ones_ok sg
 refine ⟨h1,?_,?_,?_,ones_okP sg⟩
 ·rw [h2,List.length_map];omega
 ·rw [h3,List.length_map];omega
 ·rw [h4,List.length_map];exact Nat.le_refl _
theorem RowOk.step {sg:List Str}{row:List Pat}(h:RowOk sg row) {a m:Nat}(hm:2≤m) (hl:a+m≤row.length) {k:List Pat→Pat}(hk:k = .row∨k = .any) {q:Pat}(hq:WrapOk (k ((row.drop a).take m)) q) :
  RowOk sg (row.take a ++ [q] ++ row.drop (a+m)):=by
 have e:row=row.take a ++ ((row.drop a).take m ++ row.drop (a+m)):=by
  rw [← List.drop_drop,List.take_append_drop,List.take_append_drop]
 have e1:z0r row=z0r (row.take a) ++ (z0r ((row.drop a).take m) ++ z0r (row.drop (a+m))):=by rw [← z3w,← z3w,← e]
 have e2:szPs row=szPs (row.take a)+(szPs ((row.drop a).take m)+szPs (row.drop (a+m))):=by rw [← z2f,← z2f,← e]
 have e3:dpPs row=max (dpPs (row.take a)) (max (dpPs ((row.drop a).take m)) (dpPs (row.drop (a+m)))):=by rw [← z8e,← z8e,← e]
 have e4:z2z row=z2z (row.take a)+(z2z ((row.drop a).take m)+z2z (row.drop (a+m))):=by rw [← z4n,← z4n,← e]
 have k1:z0h (k ((row.drop a).take m))=z0r ((row.drop a).take m):=by rcases hk with rfl|rfl <;> rfl
 have k2:szP (k ((row.drop a).take m))=1+szPs ((row.drop a).take m):=by rcases hk with rfl|rfl <;> rfl
 have k3:dpP (k ((row.drop a).take m))=dpPs ((row.drop a).take m)+1:=by rcases hk with rfl|rfl <;> rfl
 have k4:lenB (k ((row.drop a).take m))=z2z ((row.drop a).take m):=by rcases hk with rfl|rfl <;> rfl
 have len:(row.take a ++ [q] ++ row.drop (a+m)).length=row.length - m+1:=by simp;omega
 obtain ⟨s1,s2,s3,s4,s5⟩:=hq
 refine ⟨?_,?_,?_,?_,?_⟩
 ·rw [z3w,z3w]
  simp only [z0r,List.append_nil]
  rw [s1,k1,← h.si,e1,List.append_assoc]
 ·rw [len,z2f,z2f]
  simp only [szPs]
  have:=h.sz
  omega
 ·rw [len,z8e,z8e]
  simp only [dpPs]
  have:=h.dp
  omega
 ·rw [len,z4n,z4n]
  simp only [z2z]
  have h1:z2z (row.take a)+(lenB q+0)+z2z (row.drop (a+m))≤3 * z2z row:=by omega
  have h2:3 ^ (row.length - m+1)≤3 ^ (row.length - 1):=Nat.pow_le_pow_right (by decide) (by omega)
  have h3:3 * 3 ^ (row.length - 1)=3 ^ row.length:=by
   rw [Nat.mul_comm,← Nat.pow_succ]
   congr 1
   omega
  calc _≤(3 * z2z row) * 3 ^ (row.length - 1):=Nat.mul_le_mul h1 h2
   _=z2z row * (3 * 3 ^ (row.length - 1)):=by rw [Nat.mul_comm 3,Nat.mul_assoc]
   _=z2z row * 3 ^ row.length:=by rw [h3]
   _≤_:=h.ln
 ·have h0:=h.ok
  rw [e,z7g,z7g,Bool.and_eq_true,Bool.and_eq_true] at h0
  have h1:okP (k ((row.drop a).take m))=true:=by
   rcases hk with rfl|rfl
   ·exact h0.2.1
   ·have:((row.drop a).take m).isEmpty=false:=by
     rw [List.isEmpty_eq_false_iff]
     intro z
     have:=congrArg List.length z
     rw [List.length_take,List.length_drop] at this
     simp at this
     omega
    simp [okP,this,h0.2.1]
  rw [z7g,z7g]
  simp [okPs,h0.1,h0.2.2,s5 h1]
theorem pw9:∀ n:Nat,n≤9→n * 3 ^ n≤177147:=by decide
theorem ok_pattern {f1 f2:Addr}{fd1 fd2:FuncData}(E__law_pattern:Ent K mg "_law_pattern" s__law_pattern ["_law_some","_law_draws_here"] f fd) (T:Zs K mg) (E__law_pop:Ent K mg "_law_pop" s__law_pop ["_law_draws_here"] f1 fd1) (E__law_wrapped:Ent K mg "_law_wrapped" s__law_wrapped ["_law_pattern_here","_law_number"] f2 fd2):FnOk P w K mg base CX0 2 f fd ["_law_some","_law_draws_here"] (spD R_pattern):=by
 have G__law_pop:FnOk P w K mg base CX0 1 f1 fd1 _ (spD R_pop):=ok_pop E__law_pop T
 have G__law_wrapped:FnOk P w K mg base CX0 1 f2 fd2 _ (spD y1t):=ok_wrapped E__law_wrapped T
 refine VL.Fun.dok E__law_pattern.F sc__law_pattern (fun δ Qd h=>?_) (by decide) (fun cdv A outer s H E δ Qd hr h=>?_)
 ·obtain ⟨_,_,rfl,_⟩:=h;rfl
 ·obtain ⟨sg,ns,rfl,hl,q⟩:=h
  have hu:=z4k hr
  refine ⟨_,(z0b (y0d (j:=2) ["_law_sign"] ["_law_some","_law_draws_here","_law_row","_law_number","_law_many_here","_law_at","_law_made"] sc__law_pattern.nd rfl rfl rfl (show CScopeG (z0c s__law_pattern) ["_law_some","_law_draws_here","_law_row","_law_number","_law_many_here","_law_at","_law_made"] ["_law_sign"] _ _ from ⟨rfl,by decide +kernel,by decide +kernel,by decide +kernel,by decide +kernel⟩) (z1l (dv 0)) (fun _ _ _ _ _=>(z1s (i:=0) (by decide) (show List.Nodup (["_law_sign","_law_some","_law_draws_here","_law_row","_law_number","_law_many_here","_law_at","_law_made"]:List Str) from by decide +kernel) rfl (Or.inl rfl))) (fun _ _ _ _ _=>z5v) (fun _ _ _ _ _=>(z2a (z0a z0z (z0a (dv 0) z0e)))))
   (z0b (ds_while PassesOwn.never (z1c os_gt op_gt (z1u z3o z1i rfl T.z_len PySem.boot_len (pv 2)) z0d (z1a _)) (z0b (z0p (i:=3) sc__law_pattern.nd rfl (Or.inl rfl) (z2e (i:=1) G__law_pop (hr.mono (by decide)) rfl E__law_pop.g E__law_pop.F.kp E__law_pop.b z0y (da_o (pv 1) z4q)))
   (z0b (z0p (i:=4) sc__law_pattern.nd rfl (Or.inl rfl) (z0m z2h z2n z0d (z0m z7w z7t (z0m z1q z1p (dv 3) z0d) (z4w cs_int call_int1 rfl T.z_int PyProof.Rows.boot_int (z0a (de_cmp os_gt op_gt (z1u z3o z1i rfl T.z_len PySem.boot_len (pv 2)) z0d (z1a _)) z0e)))))
   (z0b (z0p (i:=5) sc__law_pattern.nd rfl (Or.inl rfl) (z0m z1q z1p (z0m z3b z2d (dv 3) z0d) (z0m z2h z2n (z0m os_sub op_sub (z1u z3o z1i rfl T.z_len PySem.boot_len (pv 2)) (dv 4)) z0d)))
   (z0b (z0p (i:=6) sc__law_pattern.nd rfl (Or.inl rfl) (z2a (z0a (de_ix z2j z1z (z1f (z0a z0z (z0a z0z z0e))) (z0m z1q z1p (z0m z3b z2d (dv 3) z0d) z0d) (fun _ _=>rfl)) (z0a (z2w (pv 2) (z3h (dv 5)) (z3h (z0m z2h z2n (dv 5) (dv 4)))) z0e))))
   (z0f (z0p (i:=2) sc__law_pattern.nd rfl (Or.inl rfl) (z0m z3n z3i (z0m z3n z3i (z2w (pv 2) z4p (z3h (dv 5))) (z1f (z0a (z0s G__law_wrapped (hr.mono (by decide)) rfl E__law_wrapped.g E__law_wrapped.F.kp E__law_wrapped.b z0y (z0a (dv 6) (z0a (z0m z3b z2d (dv 3) z0d) z0e))) z0e))) (z2w (pv 2) (z3h (z0m z2h z2n (dv 5) (dv 4))) z4p)))))))))
   (z0b (z1m (dt_cmpV (os_eqL hu) z5a (pv 2) (z1f z0e) (z1a _)) (z0f (z2i (z5m z1v PySem.F.slot_list_append PySem.F.type_list_append z1j (pv 2) (z0a (z2a (z0a z0z z0e)) z0e)))) z0t)
   (z0f (z0n (z0s G__law_wrapped (hr.mono (by decide)) rfl E__law_wrapped.g E__law_wrapped.F.kp E__law_wrapped.b z0y (z0a (z0g z2j z1z (pv 2) z0d (fun _ _=>rfl)) (z0a (z2e (i:=1) G__law_pop (hr.mono (by decide)) rfl E__law_pop.g E__law_pop.F.kp E__law_pop.b z0y (da_o (pv 1) z4q)) z0e)))))))),?_⟩
  have sz:=z0x
  walk_at "vd"
  refine compL D.str (fun s=>patD (.one s)) sg (by omega) (fun s hs P hP=>?_) ?_
  ·walk_at "vd"
   exact ⟨by omega,hP⟩
  ·walk_at "vd"
   refine ⟨[3,4,5,6],fun δ=>∃ (row:List Pat) (ms:List Int),RowOk sg row∧δ=[.fz (.lst (sg.map .str)),.ob true (.lst (ms.map .int)),.ob false (.lst (z1k row)),.no,.no,.no,.no],fun δ=>match δ with | [_,_,.ob _ (.lst xs),_,_,_,_]=>xs.length|_=>0,⟨sg.map .one,ns,.start sg,by rw [z2u,List.map_map];rfl⟩,?_⟩
   rintro δ ⟨row,ms,ok,rfl⟩
   have hrl:=z4z row
   have hrs:=z4h row
   have ksz:=ok.sz
   have kdp:=ok.dp
   have kln:=ok.ln
   walk_at "vd"
   refine ite2 (fun h1 x ms=>?_) fun h1=>?_
   ·have x1:=z2y (a:=x) (b:=2) (by decide)
    have x2:=z3c (a:=x) (b:=2) (by decide)
    obtain ⟨m,em,hm2,hml⟩:∃ m:Nat,(2+x % 2 * if 2 < ((z1k row).length:Int) then 1 else 0)=(m:Int)∧2≤m∧m≤row.length:=by
     split
     ·exact ⟨(2+x % 2 * 1).toNat,by omega,by omega,by omega⟩
     ·exact ⟨2,by omega,by omega,by omega⟩
    have cm:CMul (x % 2) (if 2 < ((z1k row).length:Int) then 1 else 0):=.inl ⟨by omega,by omega⟩
    rw [em]
    have hp:(0:Int) < ((z1k row).length:Int) - m+1:=by omega
    have y1:=z2y (a:=x / 2) hp
    have y2:=z3c (a:=x / 2) hp
    obtain ⟨a,ea,hal⟩:∃ a:Nat,x / 2 % (((z1k row).length:Int) - m+1)=(a:Int)∧a+m≤row.length:=⟨(x / 2 % (((z1k row).length:Int) - m+1)).toNat,by omega,by omega⟩
    rw [ea,cut_mid _ (by omega),z5o]
    have z1:=z2y (a:=x / 32) (b:=2) (by decide)
    have z2:=z3c (a:=x / 32) (b:=2) (by decide)
    have fin:∀ (nm:Str) (k:List Pat→Pat),(k = .row∨k = .any)→patD (k ((row.drop a).take m)) = .tup [.str nm,.lst (z1k ((row.drop a).take m))]→hold y1t
      (fun b d_1 x_1=>1≤sizeLine∧fCat (D.lst ((z1k row).take a)) (D.lst [d_1]) fun b d_2=>dSlLV 2 (doS (dOp (fI fun i j=>D.int (i+j)) (dVar 5) (dVar 4))) doN
       [Slot.fz (D.lst (List.map D.str sg)),Slot.ob true (D.lst (List.map D.int ms)),Slot.ob false (D.lst (z1k row)),Slot.fz (D.int x),Slot.fz (D.int m),Slot.fz (D.int a),Slot.fz (D.tup [.str nm,D.lst (((z1k row).drop a).take m)])]
       fun x y δ2=>fCat d_2 y fun b d=>setW 2 (rsl b d) δ2 fun δ2 =>
        (∃ row ms,RowOk sg row∧(((δ2.set 3 Slot.no).set 4 Slot.no).set 5 Slot.no).set 6 Slot.no=[Slot.fz (D.lst (List.map D.str sg)),Slot.ob true (D.lst (List.map D.int ms)),Slot.ob false (D.lst (z1k row)),Slot.no,Slot.no,Slot.no,Slot.no]) ∧
         (match (((δ2.set 3 Slot.no).set 4 Slot.no).set 5 Slot.no).set 6 Slot.no with
          | [_,_,Slot.ob _ (D.lst xs),_,_,_,_]=>xs.length
          |_=>0) < (z1k row).length) Beh.mk [Slot.fz (D.tup [.str nm,D.lst (((z1k row).drop a).take m)]),Slot.fz (D.int (x / 64))]:=by
     intro nm k hk ek
     have ed:((z1k row).drop a).take m=z1k ((row.drop a).take m):=by rw [z2u,z2u,List.map_take,List.map_drop]
     rw [ed,← ek]
     refine ⟨_,x / 64,rfl,fun q hq=>?_⟩
     walk_at "vd"
     rw [show ((a:Int)+m)=((a+m:Nat):Int) by omega,z7q]
     have tl:(List.take a (z1k row)).length=a:=by rw [List.length_take];omega
     have tl2:(List.take a (z1k row) ++ [patD q] ++ List.drop (a+m) (z1k row)).length=a+1+(row.length - (a+m)):=by rw [List.length_append,List.length_append,tl,List.length_drop,hrl];rfl
     refine ⟨by omega,by omega,by rw [← List.length_append,tl2];omega,⟨row.take a ++ [q] ++ row.drop (a+m),ms,ok.step hm2 hal hk hq,?_⟩,by rw [tl2];omega⟩
     rw [z7i,z7i]
     simp [z2u,List.map_take,List.map_drop]
    rcases (show x / 32 % 2=0∨x / 32 % 2=1 by omega) with e|e <;> rw [e]
    ·exact ⟨by decide,cm,⟨by decide,by decide⟩,hp,by omega,⟨by decide,by decide⟩,by decide,_,atI0,by omega,⟨by decide,by decide⟩,fin _ .row (.inl rfl) rfl⟩
    ·exact ⟨by decide,cm,⟨by decide,by decide⟩,hp,by omega,⟨by decide,by decide⟩,by decide,_,atI1,by omega,⟨by decide,by decide⟩,fin _ .any (.inr rfl) rfl⟩
   ·refine ⟨by omega,?_⟩
    cases row with
    |nil =>
     refine iteT ⟨by omega,by simp [z1k];omega,_,atI0,fun x ms=>⟨.none,x,rfl,fun q' hq=>?_⟩⟩
     obtain ⟨s1,s2,s3,s4,s5⟩:=hq
     exact q q' ms (by rw [s1];exact ok.si) (by simp only [szP] at s2;omega) (by simp only [dpP] at s3;omega) (by simp only [lenB] at s4;omega) (s5 rfl)
    |cons p r =>
     have er:r=[]:=by
      have:(p::r).length≤1:=by omega
      simpa using this
     subst er
     refine iteF ⟨_,atI0,fun x ms=>⟨p,x,rfl,fun q' hq=>?_⟩⟩
     obtain ⟨s1,s2,s3,s4,s5⟩:=hq
     have e1:=ok.si
     have b9:=pw9 sg.length hl
     simp only [z0r,List.append_nil] at e1
     simp only [szPs,List.length_cons,List.length_nil] at ksz
     simp only [dpPs,List.length_cons,List.length_nil] at kdp
     simp only [z2z,List.length_cons,List.length_nil] at kln
     exact q q' ms (by rw [s1];exact e1) (by omega) (by omega) (by omega) (s5 (by simpa [okPs] using ok.ok))
end
open PySem L2 VL Pap
section
variable {P:Program}{w:World}{K:PySem.W.Frag}{mg:Str→Option Value}{base:Heap}{f:Addr}{fd:FuncData}
def R_signs8:RD:=fun δ Q=>∃ (zs:List Str) (n:Int),δ=[.fz (.lst (zs.map .str)),.fz (.int n)]∧zs.length≤8∧zs.Nodup∧("#":Str)∉zs ∧
 ∀ us:List Str,us.Nodup→us.length≤9→(∀ u∈us,u = "#" ∨ u∈zs)→∀ b,Q b (.lst (us.map .str)) [.no,.no]
theorem ok_signs8 (E__law_signs:Ent K mg "_law_signs" s__law_signs ["_law_names","_law_number"] f fd) (T:Zs K mg):FnOk P w K mg base CX0 1 f fd ["_law_names","_law_number"] (spD R_signs8):=by
 refine VL.Fun.dok E__law_signs.F sc__law_signs (fun δ Qd h=>?_) (by decide) (fun cdv A outer s H E δ Qd hr h=>?_)
 ·obtain ⟨_,_,rfl,_⟩:=h;rfl
 ·obtain ⟨zs,n,rfl,hl,nd,nh,q⟩:=h
  refine ⟨_,(z0b (y0d (j:=2) ["_law_j","_law_name_here"] ["_law_names","_law_number","_law_some","_law_at"] sc__law_signs.nd rfl rfl rfl (show CScopeG (z0c s__law_signs) ["_law_names","_law_number","_law_some","_law_at"] ["_law_j","_law_name_here"] _ _ from ⟨rfl,by decide +kernel,by decide +kernel,by decide +kernel,by decide +kernel⟩) (di_enum rfl T.z_enumerate (z0a (dv 0) z0e)) (fun _ _ _ _ _=>(dgn_tup (m:=2) rfl (z4b (z1s (i:=0) (by decide) (show List.Nodup (["_law_j","_law_name_here","_law_names","_law_number","_law_some","_law_at"]:List Str) from by decide +kernel) rfl (Or.inl rfl)) (z4b (z1s (i:=1) (by decide) (show List.Nodup (["_law_j","_law_name_here","_law_names","_law_number","_law_some","_law_at"]:List Str) from by decide +kernel) rfl (Or.inl rfl)) z9u)))) (fun _ _ _ _ _=>(y0y (z1c os_lt op_lt (z0m z1q z1p (z0m z3b z2d (dv 3) (z0m z2h z2n (dv 0) z0d)) z0d) z0d (z1a _)))) (fun _ _ _ _ _=>(dv 1)))
   (z0b (z1m (z1c z3d z3a (z0m z1q z1p (z0m z3b z2d (dv 1) z0d) z0d) z0d (z1a _)) (z0f (z2i (z5m z1v PySem.F.slot_list_append PySem.F.type_list_append z1j (pv 2) (z0a z0z z0e)))) z0t)
   (z0b (z0p (i:=3) sc__law_signs.nd rfl (Or.inl rfl) (z0m z1q z1p (z0m z3b z2d (dv 1) z0d) (z0m z2h z2n (z1u z3o z1i rfl T.z_len PySem.boot_len (pv 2)) z0d)))
   (z0b (z0p (i:=2) sc__law_signs.nd rfl (Or.inl rfl) (z0m z3n z3i (z2w (pv 2) (z3h (dv 3)) z4p) (z2w (pv 2) z4p (z3h (dv 3)))))
   (z0b (z1m (z1c z3d z3a (z0m z1q z1p (z0m z3b z2d (dv 1) z0d) z0d) z0d (z1a _)) (z0f (z0n (de_sliceR (dv 2)))) z0t)
   (z0f (z0n (dm 2)))))))),?_⟩
  have sz:=z0x
  walk_at "vd"
  refine ⟨fun r acc δ1=>δ1=[.fz (.lst (zs.map .str)),.fz (.int n),.no,.no]∧∃ pre suf us,zs=pre ++ suf∧r=z9k pre.length (suf.map .str)∧acc=us.map D.str∧us.Sublist pre,⟨rfl,[],zs,[],rfl,rfl,rfl,.refl _⟩,?_,?_⟩
  ·rintro d r acc δ1 ⟨rfl,pre,suf,us,e1,e2,rfl,e3⟩
   cases suf with
   |nil=>cases e2
   |cons z suf =>
    cases e2
    walk_at "vd"
    have hpl:pre.length < 8:=by rw [e1] at hl;simp at hl;omega
    have hus:us.length≤pre.length:=e3.length_le
    refine ⟨⟨by omega,Nat.lt_of_le_of_lt (Nat.log2_le_self _) (by omega)⟩,by decide,ite2 (fun _=>⟨by simp;omega,pre ++ [z],suf,us ++ [z],by simp [e1],by simp,by simp,e3.append (.refl _)⟩) fun _=>⟨pre ++ [z],suf,us,by simp [e1],by simp,rfl,e3.trans (List.sublist_append_left _ _)⟩⟩
  ·rintro acc δ1 ⟨rfl,pre,suf,us,e1,e2,rfl,e3⟩
   cases suf with
   |cons z suf=>cases e2
   |nil =>
    rw [List.append_nil] at e1
    subst e1
    have fin:∀ vs:List Str,vs.Nodup→vs.length≤9→(∀ u∈vs,u = "#" ∨ u∈zs)→((0:Int) < 14∧(Int.natAbs 14).log2 < 9000) ∧
     0 < ((vs.map D.str).length:Int)+1 ∧
      (cutD (vs.map D.str) (some (n / 14 % (((vs.map D.str).length:Int)+1))) none).length+(cutD (vs.map D.str) none (some (n / 14 % (((vs.map D.str).length:Int)+1)))).length≤sizeLine ∧
       ((0:Int) < 1009∧(Int.natAbs 1009).log2 < 9000)∧(0:Int) < 2 ∧
         if n / 1009 % 2=0 then Qd true (D.lst (cutD (vs.map D.str) (some (n / 14 % (((vs.map D.str).length:Int)+1))) none ++ cutD (vs.map D.str) none (some (n / 14 % (((vs.map D.str).length:Int)+1)))).reverse) [Slot.no,Slot.no]
         else Qd true (D.lst (cutD (vs.map D.str) (some (n / 14 % (((vs.map D.str).length:Int)+1))) none ++ cutD (vs.map D.str) none (some (n / 14 % (((vs.map D.str).length:Int)+1))))) [Slot.no,Slot.no]:=by
     intro vs h1 h2 h3
     have hp:(0:Int) < ((vs.map D.str).length:Int)+1:=by omega
     have y1:=z2y (a:=n / 14) hp
     have y2:=z3c (a:=n / 14) hp
     obtain ⟨a,ea⟩:∃ a:Nat,n / 14 % (((vs.map D.str).length:Int)+1)=(a:Int):=⟨_,(Int.toNat_of_nonneg y1).symm⟩
     rw [ea,z7q,z5o,← List.map_drop,← List.map_take,← List.map_append,← List.map_reverse]
     have hn:(vs.drop a ++ vs.take a).Nodup:=by rw [List.perm_append_comm.nodup_iff,List.take_append_drop];exact h1
     have hlen:(vs.drop a ++ vs.take a).length≤9:=by simp;omega
     have hm:∀ u∈vs.drop a ++ vs.take a,u = "#" ∨ u∈zs:=fun u hu=>h3 u (by
      rcases List.mem_append.mp hu with z|z
      ·exact List.mem_of_mem_drop z
      ·exact List.mem_of_mem_take z)
     refine ⟨⟨by decide,by decide⟩,hp,by simp;omega,⟨by decide,by decide⟩,by decide,ite2 (fun _=>?_) fun _=>?_⟩
     ·exact q _ ((List.reverse_perm _).nodup_iff.mpr hn) (by rw [List.length_reverse];exact hlen) (fun u hu=>hm u (List.mem_reverse.mp hu)) _
     ·exact q _ hn hlen hm _
    walk_at "vd"
    have hus:=e3.length_le
    have und:=e3.nodup nd
    have usub:=e3.subset
    refine ⟨⟨by decide,by decide⟩,by decide,ite2 (fun _=>⟨by simp;omega,?_⟩) fun _=>?_⟩
    ·have:=fin (us ++ [("#":Str)]) (by
      rw [List.nodup_append]
      exact ⟨und,by simp,fun a ha b hb=>by simp at hb;subst hb;intro z;subst z;exact nh (usub ha)⟩) (by simp;omega) (fun u hu=>by
      rcases List.mem_append.mp hu with z|z
      ·exact .inr (usub z)
      ·exact .inl (by simpa using z))
     rw [List.map_append] at this
     exact this
    ·exact fin us und (by omega) fun u hu=>.inr (usub hu)
def z3f (root:Str) (rules:List (Str × Pat)):D:=.tup [.str root,.lst (rules.map fun r=>.tup [.str r.1,patD r.2])]
structure PatOk (zs:List Str) (p:Pat):Prop where
 nd:(z0h p).Nodup
 sg:∀ s∈z0h p,s = "#" ∨ s∈zs
 sz:szP p≤50
 dp:dpP p≤20
 ln:lenB p≤200000
 ok:okP p=true
structure FormOk (root:Str) (rules:List (Str × Pat)):Prop where
 len:rules.length≤8
 nd:(rules.map (·.1)).Nodup
 root:root∈rules.map (·.1)
 pat:∀ r∈rules,PatOk (rules.map (·.1)) r.2
def R_form (K:PySem.W.Frag):RD:=fun δ Q=>∃ (ns:List Int) (t m:Nat),δ=[.sc K ns,.fz (.int t),.fz (.int m)]∧t≤500∧1≤m∧m≤8∧∀ root rules,FormOk root rules→Q false (z3f root rules) [.no,.no,.no]
theorem ok_form {f1 f2 f3 f4 f5 f6:Addr}{fd1 fd2 fd3 fd4 fd5 fd6:FuncData}(E__law_form:Ent K mg "_law_form" s__law_form ["_law_script","_law_turn","_law_many_here"] f fd) (T:Zs K mg) (E__law_pop:Ent K mg "_law_pop" s__law_pop ["_law_draws_here"] f1 fd1) (E__law_wrapped:Ent K mg "_law_wrapped" s__law_wrapped ["_law_pattern_here","_law_number"] f2 fd2) (E__law_pattern:Ent K mg "_law_pattern" s__law_pattern ["_law_some","_law_draws_here"] f3 fd3) (E__law_draws:Ent K mg "_law_draws" s__law_draws ["_law_script","_law_turn","_law_many_here"] f4 fd4) (E__law_name:Ent K mg "_law_name" s__law_name ["_law_k","_law_draw"] f5 fd5) (E__law_signs:Ent K mg "_law_signs" s__law_signs ["_law_names","_law_number"] f6 fd6) :
  FnOk P w K mg base CX0 3 f fd ["_law_script","_law_turn","_law_many_here"] (spD (R_form K)):=by
 have G__law_pop:FnOk P w K mg base CX0 1 f1 fd1 _ (spD R_pop):=ok_pop E__law_pop T
 have G__law_pattern:FnOk P w K mg base CX0 2 f3 fd3 _ (spD R_pattern):=ok_pattern E__law_pattern T E__law_pop E__law_wrapped
 have G__law_draws:FnOk P w K mg base CX0 1 f4 fd4 _ (spD (R_draws K)):=ok_draws E__law_draws T
 have G__law_name:FnOk P w K mg base CX0 1 f5 fd5 _ (spD R_name8):=ok_name E__law_name T
 have G__law_signs:FnOk P w K mg base CX0 1 f6 fd6 _ (spD R_signs8):=ok_signs8 E__law_signs T
 refine VL.Fun.dok E__law_form.F sc__law_form (fun δ Qd h=>?_) (by decide) (fun cdv A outer s H E δ Qd hr h=>?_)
 ·obtain ⟨_,_,_,rfl,_⟩:=h;rfl
 ·obtain ⟨ns,t,m,rfl,ht,hm1,hm2,q⟩:=h
  refine ⟨_,(z0b (z0p (i:=3) sc__law_form.nd rfl (Or.inl rfl) (z8c G__law_draws (hr.mono (by decide)) rfl E__law_draws.g E__law_draws.F.kp E__law_draws.b z0y (pv 0) (z0a (dv 1) (z0a (z0m z2h z2n (z0m z7w z7t z0d (dv 2)) z0d) z0e))))
   (z0b (z0p (i:=4) sc__law_form.nd rfl (Or.inr rfl) (z2e (i:=3) G__law_pop (hr.mono (by decide)) rfl E__law_pop.g E__law_pop.F.kp E__law_pop.b z0y (da_o (pv 3) z4q)))
   (z0b (y0d (j:=5) ["_law_k"] ["_law_script","_law_turn","_law_many_here","_law_draws_here","_law_first","_law_names","_law_rules","_law_name_here","_law_at"] sc__law_form.nd rfl rfl rfl (show CScopeG (z0c s__law_form) ["_law_script","_law_turn","_law_many_here","_law_draws_here","_law_first","_law_names","_law_rules","_law_name_here","_law_at"] ["_law_k"] _ _ from ⟨rfl,by decide +kernel,by decide +kernel,by decide +kernel,by decide +kernel⟩) (z4c rfl T.z_range (z0a (dv 2) z0e)) (fun _ _ _ _ _=>(z1s (i:=0) (by decide) (show List.Nodup (["_law_k","_law_script","_law_turn","_law_many_here","_law_draws_here","_law_first","_law_names","_law_rules","_law_name_here","_law_at"]:List Str) from by decide +kernel) rfl (Or.inl rfl))) (fun _ _ _ _ _=>z5v) (fun _ _ _ _ _=>(z0s G__law_name (hr.mono (by decide)) rfl E__law_name.g E__law_name.F.kp E__law_name.b z0y (z0a (dv 0) (z0a (dv 5) z0e)))))
   (z0b (z0p (i:=6) sc__law_form.nd rfl (Or.inl rfl) (z1f z0e))
   (z0b (z2t PassesOwn.never rfl (z1l (dv 5)) (z1n (i:=7) sc__law_form.nd rfl (Or.inl rfl)) (z0f (z2i (z5m z1v PySem.F.slot_list_append PySem.F.type_list_append z1j (pv 6) (z0a (z2a (z0a (dv 7) (z0a (z2e (i:=3) G__law_pattern (hr.mono (by decide)) rfl E__law_pattern.g E__law_pattern.F.kp E__law_pattern.b z0y (da_v (z0s G__law_signs (hr.mono (by decide)) rfl E__law_signs.g E__law_signs.F.kp E__law_signs.b z0y (z0a (dv 5) (z0a (z2e (i:=3) G__law_pop (hr.mono (by decide)) rfl E__law_pop.g E__law_pop.F.kp E__law_pop.b z0y (da_o (pv 3) z4q)) z0e))) (da_o (pv 3) z4q))) z0e))) z0e)))))
   (z0b (z0p (i:=8) sc__law_form.nd rfl (Or.inl rfl) (z0m z1q z1p (z0m z3b z2d (dv 4) z0d) (dv 2)))
   (z0f (z0n (z2a (z0a (z0g z2j z1z (pv 5) (z0m z1q z1p (z2e (i:=3) G__law_pop (hr.mono (by decide)) rfl E__law_pop.g E__law_pop.F.kp E__law_pop.b z0y (da_o (pv 3) z4q)) (dv 2)) (fun _ _=>rfl)) (z0a (z0m z3n z3i (z2w (pv 6) (z3h (dv 8)) z4p) (z2w (pv 6) z4p (z3h (dv 8)))) z0e))))))))))),?_⟩
  have sz:=z0x
  walk_at "vd"
  refine ⟨.inl ⟨by decide,by decide⟩,ns,t,14 * m+2,by congr 3,by omega,by omega,fun ms hms=>?_⟩
  walk_at "vd"
  intro x ms1
  refine ⟨by omega,by omega,?_⟩
  rw [Int.toNat_natCast,rngD_map]
  refine compL (fun k:Nat=>D.int (k:Int)) (fun k:Nat=>.str (z9j k x)) (List.range m) (by simp;omega) (fun k hk P hP=>?_) ?_
  ·walk_at "vd"
   exact ⟨_,_,rfl,hP⟩
  ·have ez:(List.range m).map (fun k:Nat=>D.str (z9j k x))=((List.range m).map fun k:Nat=>z9j k x).map D.str:=by rw [List.map_map];rfl
   rw [ez]
   have hz1:((List.range m).map fun k:Nat=>z9j k x).length=m:=by simp
   have hz2:((List.range m).map fun k:Nat=>z9j k x).Nodup:=by
    unfold List.Nodup
    rw [List.pairwise_map]
    refine List.Pairwise.imp_of_mem (fun {a b} ha hb hne e=>hne ?_) List.nodup_range
    have h1:=nameF_inj e
    have h2:=List.mem_range.mp ha
    have h3:=List.mem_range.mp hb
    omega
   have hz3:("#":Str)∉(List.range m).map fun k:Nat=>z9j k x:=fun h=>by
    obtain ⟨k,_,e⟩:=List.mem_map.mp h
    exact nameF_ne _ _ e
   generalize (List.range m).map (fun k:Nat=>z9j k x)=zs at hz1 hz2 hz3 ⊢
   walk_at "vd"
   refine ⟨by omega,z4v [7] (fun r δ=>∃ (pre suf:List Str) (rules:List (Str × Pat)) (ms:List Int),zs=pre ++ suf∧r=suf.map .str∧rules.map (·.1)=pre∧(∀ r∈rules,PatOk zs r.2) ∧
    δ=[.sc K ns,.fz (.int t),.fz (.int m),.ob false (.lst (ms.map .int)),.fz (.int x),.fz (.lst (zs.map .str)),.ob false (.lst (rules.map fun r=>.tup [.str r.1,patD r.2])),.no,.no]) ⟨[],zs,[],ms1,rfl,rfl,rfl,(fun r hr=>by cases hr),rfl⟩ ?_ ?_⟩
   ·rintro d r δ ⟨pre,suf,rules,ms2,e1,e2,e3,ok,rfl⟩
    cases suf with
    |nil=>cases e2
    |cons z suf =>
     cases e2
     walk_at "vd"
     intro x1 ms3
     refine ⟨zs,x1,rfl,by omega,hz2,hz3,fun us u1 u2 u3 b=>?_⟩
     walk_at "vd"
     refine ⟨us,ms3,rfl,u2,fun p ms4 p1 p2 p3 p4 p5=>?_⟩
     walk_at "vd"
     have hlr:rules.length≤8:=by
      have:=congrArg List.length e3
      rw [List.length_map] at this
      rw [e1,List.length_append] at hz1
      omega
     refine ⟨by omega,by simp;omega,pre ++ [z],suf,rules ++ [(z,p)],ms4,by simp [e1],rfl,by simp [e3],fun r hr=>?_,by simp⟩
     rcases List.mem_append.mp hr with h|h
     ·exact ok r h
     ·simp at h;subst h;exact ⟨by rw [p1];exact u1,fun s hs=>u3 s (by rw [← p1];exact hs),p2,p3,p4,p5⟩
   ·rintro δ ⟨pre,suf,rules,ms2,e1,e2,e3,ok,rfl⟩
    cases suf with
    |cons z suf=>cases e2
    |nil =>
     rw [List.append_nil] at e1
     subst e1
     walk_at "vd"
     have hm0:(0:Int) < (m:Int):=by omega
     refine ⟨⟨by decide,by decide⟩,hm0,fun x1 ms3=>⟨hm0,?_⟩⟩
     have y1:=z2y (a:=x / 7) hm0
     have y2:=z3c (a:=x / 7) hm0
     obtain ⟨a,ea⟩:∃ a:Nat,x / 7 % (m:Int)=(a:Int):=⟨_,(Int.toNat_of_nonneg y1).symm⟩
     rw [ea,z7q,z5o,← List.map_drop,← List.map_take,← List.map_append]
     have hlr:rules.length=zs.length:=by rw [← e3,List.length_map]
     obtain ⟨d,hd,ed⟩:=atI_ex (xs:=zs.map D.str) (z2y (a:=x1) hm0) (by rw [List.length_map,hz1];exact z3c hm0)
     obtain ⟨root,hr,rfl⟩:=List.mem_map.mp hd
     have pm:(rules.drop a ++ rules.take a).Perm rules:=by
      have:=List.perm_append_comm (l₁:=rules.drop a) (l₂:=rules.take a)
      rwa [List.take_append_drop] at this
     refine ⟨_,ed,by simp;omega,by omega,q root _ ⟨by rw [pm.length_eq];omega,?_,?_,fun r hr=>?_⟩⟩
     ·rw [(pm.map _).nodup_iff,e3];exact hz2
     ·rw [(pm.map _).mem_iff,e3];exact hr
     ·have o:=ok r (pm.mem_iff.mp hr)
      refine ⟨o.nd,fun s hs=>?_,o.sz,o.dp,o.ln,o.ok⟩
      rw [(pm.map _).mem_iff,e3]
      exact o.sg s hs
end
open PySem L2 VL Pap
theorem y0m {p:Pat}:∀ {ps:List Pat},p∈ps→lenB p≤z2z ps
 |q::ps,h=>by
  rcases List.mem_cons.mp h with rfl|h
  ·simp only [z2z];omega
  ·have:=y0m h;simp only [z2z];omega
theorem fst1:∀ m,m < 1→([("maybe":Str),"many","some"]:List Str)[m]? ≠ some ("many":Str):=fun m h=>by
 have:m=0:=by omega
 subst this;decide
theorem fst2:∀ m,m < 2→([("maybe":Str),"many","some"]:List Str)[m]? ≠ some ("some":Str):=fun m h=>by
 have:m=0∨m=1:=by omega
 rcases this with rfl|rfl <;> decide
section
variable {P:Program}{w:World}{K:PySem.W.Frag}{mg:Str→Option Value}{base:Heap}{f:Addr}{fd:FuncData}
def R_lword (n:Nat):RD:=fun δ Q=>∃ (p:Pat) (ns:List Int),δ=[.fz (patD p),.ob true (.lst (ns.map .int))]∧dpP p < n∧okP p=true∧lenB p≤1000000 ∧
 ∀ (ws:List Str) (ms:List Int),ws.length≤lenB p→Q true (.lst (ws.map .str)) [.no,.ob true (.lst (ms.map .int))]
theorem word_row {n:Nat}{E:EndsD}{ps:List Pat}{ns:List Int}{x:Int}{dP:D}(hd:dpPs ps < n) (ho:okPs ps=true) (hs:z2z ps≤1000000)
  (h:∀ (ws:List Str) (ms:List Int),ws.length≤z2z ps→E.nx [.fz dP,.ob true (.lst (ms.map .int)),.fz (.int x),.ob false (.lst (ws.map .str)),.no,.no,.no]) :
  LoopD (z1k ps) (dgN 4) (dSet 3 (dOp fCat (dVar 3) (z6v (R_lword n) 1 (daV (dVar 4) (daO daNil))))) E [.fz dP,.ob true (.lst (ns.map .int)),.fz (.int x),.ob false (.lst []),.no,.no,.no]:=by
 have sz:=z0x
 refine z4v [4] (fun r δ=>∃ pre suf ws ms,ps=pre ++ suf∧r=z1k suf∧ws.length≤z2z pre∧δ=[.fz dP,.ob true (.lst (ms.map .int)),.fz (.int x),.ob false (.lst (ws.map .str)),.no,.no,.no]) ⟨[],ps,[],ns,rfl,rfl,by simp,rfl⟩ ?_ ?_
 ·rintro d r δ ⟨pre,suf,ws,ms,e1,e2,h2,rfl⟩
  cases suf with
  |nil=>cases e2
  |cons c suf =>
   cases e2
   walk_at "vd"
   have hc:c∈ps:=by rw [e1];simp
   have d1:=z3q hc
   have z1:=y0m hc
   have z2:=congrArg z2z e1
   rw [z4n,z2z] at z2
   refine ⟨c,ms,rfl,by omega,okPs_mem hc ho,by omega,fun vs ms2 k2=>?_⟩
   walk_at "vd"
   refine ⟨by simp;omega,pre ++ [c],suf,ws ++ vs,ms2,by simp [e1],rfl,?_,by simp⟩
   rw [List.length_append,z4n]
   simp only [z2z]
   omega
 ·rintro δ ⟨pre,suf,ws,ms,e1,e2,h2,rfl⟩
  cases suf with
  |cons c suf=>cases e2
  |nil =>
   rw [List.append_nil] at e1
   subst e1
   exact h ws ms h2
theorem y0l {n m:Nat}{E:EndsD}{k:D}{p:Pat}{ns:List Int}{x:Int}(hd:dpP p < n) (ho:okP p=true) (hs:lenB p≤1000000) (hm:m≤3) (y:D)
  (h:∀ (ws:List Str) (ms:List Int),ws.length≤3 * lenB p→E.nx [.fz (.tup [k,patD p]),.ob true (.lst (ms.map .int)),.fz (.int x),.ob false (.lst (ws.map .str)),.no,.fz y,.no]) :
  LoopD (rngD 0 m) (dgN 6) (dSet 3 (dOp fCat (dVar 3) (z6v (R_lword n) 1 (daV (dOpV fIxT 0 (dC (.int 1))) (daO daNil))))) E [.fz (.tup [k,patD p]),.ob true (.lst (ns.map .int)),.fz (.int x),.ob false (.lst []),.no,.fz y,.no]:=by
 have sz:=z0x
 refine loopN [6] (fun i δ=>∃ ws ms,ws.length≤i * lenB p∧δ=[.fz (.tup [k,patD p]),.ob true (.lst (ms.map .int)),.fz (.int x),.ob false (.lst (ws.map .str)),.no,.fz y,.no]) ⟨[],ns,by simp,rfl⟩ ?_ ?_
 ·rintro i δ hi ⟨ws,ms,h2,rfl⟩
  walk_at "vd"
  refine ⟨p,ms,rfl,by omega,ho,by omega,fun vs ms2 k2=>?_⟩
  walk_at "vd"
  have b1:ws.length≤3 * lenB p:=Nat.le_trans h2 (Nat.mul_le_mul (by omega) (Nat.le_refl _))
  refine ⟨by simp;omega,ws ++ vs,ms2,?_,by simp⟩
  rw [List.length_append,Nat.succ_mul]
  omega
 ·rintro δ ⟨ws,ms,h2,rfl⟩
  exact h ws ms (Nat.le_trans h2 (Nat.mul_le_mul hm (Nat.le_refl _)))
theorem ok_lword {f1:Addr}{fd1:FuncData}(E__law_word:Ent K mg "_law_word" s__law_word ["_law_pattern_here","_law_draws_here"] f fd) (T:Zs K mg) (E__law_pop:Ent K mg "_law_pop" s__law_pop ["_law_draws_here"] f1 fd1):∀ n,FnOk P w K mg base CX0 (n+1) f fd ["_law_pattern_here","_law_draws_here"] (spD (R_lword n)):=by
 intro n
 induction n with
 |zero=>exact z3y fun δ Q h=>by obtain ⟨_,_,_,h,_⟩:=h;exact Nat.not_lt_zero _ h
 |succ n G__law_word =>
 have G__law_pop:FnOk P w K mg base CX0 1 f1 fd1 _ (spD R_pop):=ok_pop E__law_pop T
 refine VL.Fun.dok E__law_word.F sc__law_word (fun δ Qd h=>?_) (by decide) (fun cdv A outer s H E δ Qd hr h=>?_)
 ·obtain ⟨_,_,rfl,_⟩:=h;rfl
 ·obtain ⟨p,ns,rfl,hdp,hok,hln,q⟩:=h
  have hu:=z4k hr
  refine ⟨_,(z0b (z0p (i:=2) sc__law_word.nd rfl (Or.inl rfl) (z2e (i:=1) G__law_pop (hr.mono (by omega)) rfl E__law_pop.g E__law_pop.F.kp E__law_pop.b z0y (da_o (pv 1) z4q)))
   (z0b (z1m (z1c z3d z3a (z0g z0j z0v (pv 0) z0d (fun _ _=>rfl)) z0z (z1a _)) (z0f (z0n (z1f z0e))) z0t)
   (z0b (z1m (z1c z3d z3a (z0g z0j z0v (pv 0) z0d (fun _ _=>rfl)) z0z (z1a _)) (z0f (z0n (z1f (z0a (z0g z0j z0v (pv 0) z0d (fun _ _=>rfl)) z0e)))) z0t)
   (z0b (z1m (z1c z3d z3a (z0g z0j z0v (pv 0) z0d (fun _ _=>rfl)) z0z (z1a _)) (z0f (z0n (z2e (i:=1) G__law_word (hr.mono (by omega)) rfl E__law_word.g E__law_word.F.kp E__law_word.b z0y (da_v (de_ix z2j z1z (z0g z0j z0v (pv 0) z0d (fun _ _=>rfl)) (z0m z1q z1p (dv 2) (z1r z3o z1i rfl T.z_len PySem.boot_len (z0a (z0g z0j z0v (pv 0) z0d (fun _ _=>rfl)) z0e))) (fun _ _=>rfl)) (da_o (pv 1) z4q))))) z0t)
   (z0b (z1m (z1c z3d z3a (z0g z0j z0v (pv 0) z0d (fun _ _=>rfl)) z0z (z1a _)) (z0b (z0p (i:=3) sc__law_word.nd rfl (Or.inl rfl) (z1f z0e))
   (z0b (z2t PassesOwn.never rfl (z1l (z0g z0j z0v (pv 0) z0d (fun _ _=>rfl))) (z1n (i:=4) sc__law_word.nd rfl (Or.inl rfl)) (z0f (z0p (i:=3) sc__law_word.nd rfl (Or.inl rfl) (z0m z3n z3i (dv 3) (z2e (i:=1) G__law_word (hr.mono (by omega)) rfl E__law_word.g E__law_word.F.kp E__law_word.b z0y (da_v (dv 4) (da_o (pv 1) z4q)))))))
   (z0f (z0n (dm 3))))) z0t)
   (z0b (z0p (i:=3) sc__law_word.nd rfl (Or.inl rfl) (z1f z0e))
   (z0b (z0p (i:=5) sc__law_word.nd rfl (Or.inl rfl) (de_ix z2j z1z (z1f (z0a (z0m z1q z1p (dv 2) z0d) (z0a (z0m z1q z1p (dv 2) z0d) (z0a (z0m z2h z2n z0d (z0m z1q z1p (dv 2) z0d)) z0e)))) (de_index (z1f (z0a z0z (z0a z0z (z0a z0z z0e)))) (z0g z0j z0v (pv 0) z0d (fun _ _=>rfl))) (fun _ _=>rfl)))
   (z0b (z2t PassesOwn.never rfl (z4c rfl T.z_range (z0a (dv 5) z0e)) (z1n (i:=6) sc__law_word.nd rfl (Or.inl rfl)) (z0f (z0p (i:=3) sc__law_word.nd rfl (Or.inl rfl) (z0m z3n z3i (dv 3) (z2e (i:=1) G__law_word (hr.mono (by omega)) rfl E__law_word.g E__law_word.F.kp E__law_word.b z0y (da_v (z0g z0j z0v (pv 0) z0d (fun _ _=>rfl)) (da_o (pv 1) z4q)))))))
   (z0f (z0n (dm 3))))))))))),?_⟩
  have sz:=z0x
  cases p with
  |none =>
   simp only [patD]
   walk_at "vd"
   intro x ms
   exact ⟨by omega,q [] ms (by simp)⟩
  |one s =>
   simp only [patD]
   walk_at "vd"
   intro x ms
   rw [if_neg (by decide)]
   exact ⟨by omega,q [s] ms (by simp [lenB])⟩
  |row ps =>
   simp only [patD]
   simp only [dpP,okP,lenB] at hdp hok hln q
   walk_at "vd"
   intro x ms
   rw [if_neg (by decide),if_neg (by decide),if_neg (by decide)]
   refine ⟨by omega,word_row (by omega) hok (by omega) fun ws ms2 h2=>?_⟩
   walk_at "vd"
   exact q ws ms2 h2
  |any ps =>
   simp only [patD]
   simp only [dpP,okP,lenB,Bool.and_eq_true] at hdp hok hln q
   walk_at "vd"
   intro x ms
   rw [if_neg (by decide),if_neg (by decide)]
   have hpl:0 < ps.length:=List.length_pos_iff.mpr (by simpa using hok.1)
   have hp0:(0:Int) < ((z1k ps).length:Int):=by rw [z4z];omega
   obtain ⟨c,hc,ea⟩:∃ c∈ps,atI (z1k ps) (x % ((z1k ps).length:Int))=some (patD c):=by
    obtain ⟨d,hd,e⟩:=atI_ex (xs:=z1k ps) (i:=x % ((z1k ps).length:Int)) (z2y hp0) (z3c hp0)
    rw [z2u] at hd
    obtain ⟨c,hc,rfl⟩:=List.mem_map.mp hd
    exact ⟨c,hc,e⟩
   have d1:=z3q hc
   have z1:=y0m hc
   refine ⟨hp0,_,ea,c,ms,rfl,by omega,okPs_mem hc hok.2,by omega,fun ws ms2 h2=>?_⟩
   walk_at "vd"
   exact q ws ms2 (by omega)
  |wrap k p =>
   simp only [patD]
   simp only [dpP,okP,lenB] at hdp hok hln q
   cases k
   all_goals
    simp only [Wk.str]
    walk_at "vd"
    intro x ms
    have x1:=z2y (a:=x) (b:=2) (by decide)
    have x2:=z3c (a:=x) (b:=2) (by decide)
    have x3:=z2y (a:=x) (b:=3) (by decide)
    have x4:=z3c (a:=x) (b:=3) (by decide)
    rw [if_neg (by decide),if_neg (by decide),if_neg (by decide),if_neg (by decide)]
   ·refine ⟨by omega,by decide,by decide,by decide,by omega,by omega,["maybe","many","some"],rfl,"maybe",0,rfl,rfl,(fun m h=>absurd h (by omega)),_,z3x rfl,?_⟩
    walk_at "vd"
    refine ⟨by omega,by omega,y0l (by omega) hok (by omega) (by omega) _ fun ws ms2 h2=>?_⟩
    walk_at "vd"
    exact q ws ms2 h2
   ·refine ⟨by omega,by decide,by decide,by decide,by omega,by omega,["maybe","many","some"],rfl,"many",1,rfl,rfl,fst1,_,z3x rfl,?_⟩
    walk_at "vd"
    refine ⟨by omega,by omega,y0l (by omega) hok (by omega) (by omega) _ fun ws ms2 h2=>?_⟩
    walk_at "vd"
    exact q ws ms2 h2
   ·refine ⟨by omega,by decide,by decide,by decide,by omega,by omega,["maybe","many","some"],rfl,"some",2,rfl,rfl,fst2,_,z3x rfl,?_⟩
    walk_at "vd"
    refine ⟨by omega,by omega,y0l (by omega) hok (by omega) (by omega) _ fun ws ms2 h2=>?_⟩
    walk_at "vd"
    exact q ws ms2 h2
def TabOk (tab:List (Key × D)):Prop:=∀ s d,getS tab s=some d→∃ p,d=patD p∧dpP p≤20∧okP p=true∧lenB p≤200000
def R_lgrown (n:Nat):RD:=fun δ Q=>∃ (tab:List (Key × D)) (nm:Str) (ns:List Int) (left:Int) (dp:Nat),δ=[.fz (.dct tab),.fz (.str nm),.ob true (.lst (ns.map .int)),.ob true (.lst [.int left]),.fz (.int dp)]∧TabOk tab∧dp < n∧left≤1000 ∧
 ∀ (ps:List Part) (ms:List Int),z0w ps≤left.toNat+200000→dpL ps≤dp+1→Q false (pD (.tup nm ps)) [.no,.no,.ob true (.lst (ms.map .int)),.ob true (.lst [.int (left - z0w ps)]),.no]
theorem grow_loop {n dp:Nat}{E:EndsD}{tab:List (Key × D)}{nm:Str}{ws:List Str}{ns:List Int}{left:Int}(tk:TabOk tab) (hdp:dp < n+1) (hl:left≤1000) (hw:ws.length≤200000)
  (h:∀ (ps:List Part) (ms:List Int),z0w ps≤left.toNat+200000→dpL ps≤dp+1→E.nx [.fz (.dct tab),.fz (.str nm),.ob true (.lst (ms.map .int)),.ob true (.lst [.int (left - z0w ps)]),.fz (.int dp),.fz (.lst (ws.map .str)),.ob false (.lst (pDs ps)),.no]) :
  LoopD (ws.map .str) (dgN 7) (dIfS (z6x (dOp fEq (dVar 7) (dC (D.str (Str.ofString "#")))))
    (dDrop (dMt z8h 6 (z7c (dCall R_text (z7c (z6v R_pop 2 (daO daNil)) dNil)) dNil)))
    (dIfS (dAnd (z6x (dOp (fI fun i j=>D.bl (decide (j < i))) (dOpV fIxL 3 (dC (D.int 0))) (dC (D.int 0)))) (z6x (dOp (fI fun i j=>D.bl (decide (j < i))) (dVar 4) (dC (D.int 0)))))
     (dDrop (dMt z8h 6 (z7c (dCallIO2 (R_lgrown n) 2 3 (d2V (dVar 0) (d2V (dVar 7) (d2O1 (d2O2 (d2V (dOp (fI fun i j=>D.int (i - j)) (dVar 4) (dC (D.int 1))) d2Nil)))))) dNil)))
     (dDrop (dMt z8h 6 (z7c (dTup (z7c (dVar 7) (z7c (dLst dNil) dNil))) dNil)))))
   E [.fz (.dct tab),.fz (.str nm),.ob true (.lst (ns.map .int)),.ob true (.lst [.int (left - ws.length)]),.fz (.int dp),.fz (.lst (ws.map .str)),.ob false (.lst []),.no]:=by
 have sz:=z0x
 refine z4v [7] (fun r δ=>∃ (pre suf:List Str) (ps:List Part) (ms:List Int),ws=pre ++ suf∧r=suf.map .str∧ps.length=pre.length∧ws.length+z0w ps≤left.toNat+200000+ps.length∧dpL ps≤dp+1 ∧
  δ=[.fz (.dct tab),.fz (.str nm),.ob true (.lst (ms.map .int)),.ob true (.lst [.int (left - ws.length+ps.length - z0w ps)]),.fz (.int dp),.fz (.lst (ws.map .str)),.ob false (.lst (pDs ps)),.no])
  ⟨[],ws,[],ns,rfl,rfl,rfl,by simp [z0w];omega,by simp [dpL],by simp [z0w,pDs,fgt]⟩ ?_ ?_
 ·rintro d r δ ⟨pre,suf,ps,ms,e1,e2,hlen,htot,hdl,rfl⟩
  cases suf with
  |nil=>cases e2
  |cons z suf =>
   cases e2
   have hpl:pre.length < ws.length:=by rw [e1];simp
   have hle:=z4l ps
   have hpd:=z8q ps
   have put:∀ (p:Part) (ms':List Int) (l':Int),dp1 p≤dp+1→ws.length+z0w ps+z2g p≤left.toNat+200000+ps.length+1→l' = left - ws.length+ps.length - z0w ps - (z2g p - 1:Int) →
     (∃ (pre' suf':List Str) (ps':List Part) (ms'':List Int),ws=pre' ++ suf'∧suf.map D.str=suf'.map D.str∧ps'.length=pre'.length∧ws.length+z0w ps' ≤ left.toNat+200000+ps'.length∧dpL ps' ≤ dp+1 ∧
      [Slot.fz (.dct tab),.fz (.str nm),.ob true (.lst (ms'.map .int)),.ob true (.lst [.int l']),.fz (.int dp),.fz (.lst (ws.map .str)),.ob false (.lst (pDs ps ++ [pD p])),.no]=[.fz (.dct tab),.fz (.str nm),.ob true (.lst (ms''.map .int)),.ob true (.lst [.int (left - ws.length+ps'.length - z0w ps')]),.fz (.int dp),.fz (.lst (ws.map .str)),.ob false (.lst (pDs ps')),.no]):=by
    intro p ms' l' k1 k2 k3
    have es:z0w (ps ++ [p])=z0w ps+z2g p:=by rw [z2x];simp [z0w]
    refine ⟨pre ++ [z],suf,ps ++ [p],ms',by simp [e1],rfl,by simp [hlen],by rw [es,List.length_append];simp;omega,by rw [z6c];simp [dpL];omega,?_⟩
    have e3:pDs ps ++ [pD p]=pDs (ps ++ [p]):=by rw [pDs_app];rfl
    have e4:l' = left - ws.length+(ps ++ [p]).length - z0w (ps ++ [p]):=by rw [es,List.length_append];simp;omega
    rw [e3,← e4]
   walk_at "vd"
   refine ite2 (fun hz=>fun x ms2 y hy=>⟨by omega,?_⟩) fun hz=>⟨_,atI0,?_⟩
   ·exact put (.txt y) ms2 _ (by simp [dp1]) (by simp [z2g];omega) (by simp [z2g])
   ·walk_at "vd"
    have leaf:0≤sizeLine∧2≤sizeLine∧(pDs ps).length < sizeLine∧(∃ (pre' suf':List Str) (ps':List Part) (ms'':List Int),ws=pre' ++ suf'∧suf.map D.str=suf'.map D.str∧ps'.length=pre'.length∧ws.length+z0w ps' ≤ left.toNat+200000+ps'.length∧dpL ps' ≤ dp+1 ∧
      [Slot.fz (.dct tab),.fz (.str nm),.ob true (.lst (ms.map .int)),.ob true (.lst [.int (left - ws.length+ps.length - z0w ps)]),.fz (.int dp),.fz (.lst (ws.map .str)),.ob false (.lst (pDs ps ++ [D.tup [D.str z,D.lst []]])),.no]=[.fz (.dct tab),.fz (.str nm),.ob true (.lst (ms''.map .int)),.ob true (.lst [.int (left - ws.length+ps'.length - z0w ps')]),.fz (.int dp),.fz (.lst (ws.map .str)),.ob false (.lst (pDs ps')),.no]) :=
     ⟨by omega,by omega,by omega,put (.tup z []) ms _ (by simp [dp1,dpL]) (by simp [z2g,z0w];omega) (by simp [z2g,z0w])⟩
    refine ite2 (fun h1=>ite2 (fun h2=>⟨rfl,rfl,?_⟩) fun h2=>leaf) fun h1=>leaf
    walk_at "vd"
    refine ⟨_,_,_,_,rfl,rfl,by decide,rfl,rfl,?_⟩
    refine ⟨tab,z,ms,left - ws.length+ps.length - z0w ps,dp - 1,?_,tk,by omega,by omega,fun ps2 ms2 k1 k2=>?_⟩
    ·simp only [List.map_cons,List.map_nil,y2l]
     rw [show ((dp - 1:Nat):Int)=(dp:Int) - 1 by omega]
    ·refine ⟨_,_,rfl,rfl,?_⟩
     walk_at "vd"
     refine ⟨by omega,put (.tup z ps2) ms2 _ (by simp only [dp1];omega) (by simp only [z2g];omega) (by simp only [z2g];omega)⟩
 ·rintro δ ⟨pre,suf,ps,ms,e1,e2,hlen,htot,hdl,rfl⟩
  cases suf with
  |cons z suf=>cases e2
  |nil =>
   rw [List.append_nil] at e1
   subst e1
   have:=h ps ms (by omega) hdl
   rw [show left - (ws.length:Int)+ps.length - z0w ps=left - z0w ps by omega]
   exact this
theorem ok_lgrown {f1 f2 f3:Addr}{fd1 fd2 fd3:FuncData}(E__law_grown:Ent K mg "_law_grown" s__law_grown ["_law_table","_law_name_here","_law_draws_here","_law_left","_law_deep"] f fd) (T:Zs K mg) (E__law_pop:Ent K mg "_law_pop" s__law_pop ["_law_draws_here"] f1 fd1) (E__law_word:Ent K mg "_law_word" s__law_word ["_law_pattern_here","_law_draws_here"] f2 fd2) (E__law_text:Ent K mg "_law_text" s__law_text ["_law_number"] f3 fd3):∀ n,FnOk P w K mg base CX0 (n+23) f fd ["_law_table","_law_name_here","_law_draws_here","_law_left","_law_deep"] (spD (R_lgrown n)):=by
 intro n
 induction n with
 |zero=>exact z3y fun δ Q h=>by obtain ⟨_,_,_,_,_,_,_,h,_⟩:=h;exact Nat.not_lt_zero _ h
 |succ n G__law_grown =>
 have G__law_pop:FnOk P w K mg base CX0 1 f1 fd1 _ (spD R_pop):=ok_pop E__law_pop T
 have G__law_word:FnOk P w K mg base CX0 22 f2 fd2 _ (spD (R_lword 21)):=ok_lword E__law_word T E__law_pop 21
 have G__law_text:FnOk P w K mg base CX0 1 f3 fd3 _ (spD R_text):=ok_text E__law_text T
 refine VL.Fun.dok E__law_grown.F sc__law_grown (fun δ Qd h=>?_) (by decide) (fun cdv A outer s H E δ Qd hr h=>?_)
 ·obtain ⟨_,_,_,_,_,rfl,_⟩:=h;rfl
 ·obtain ⟨tab,nm,ns,left,dp,rfl,tk,hdp,hl,q⟩:=h
  have hu:=z4k hr
  refine ⟨_,(z0b (z0p (i:=5) sc__law_grown.nd rfl (Or.inl rfl) (z1f z0e))
   (z0b (z1m (dt_dinV hu (dv 1) (pv 0)) (z0f (z0p (i:=5) sc__law_grown.nd rfl (Or.inl rfl) (z2e (i:=2) G__law_word (hr.mono (by omega)) rfl E__law_word.g E__law_word.F.kp E__law_word.b z0y (da_v (z9n hu (pv 0) (dv 1)) (da_o (pv 2) z4q))))) z0t)
   (z0b (ds_setL (pv 3) z0d (z0m os_sub op_sub (z0g z2j z1z (pv 3) z0d (fun _ _=>rfl)) (z1u z3o z1i rfl T.z_len PySem.boot_len (pv 5))))
   (z0b (z0p (i:=6) sc__law_grown.nd rfl (Or.inl rfl) (z1f z0e))
   (z0b (z2t PassesOwn.never rfl (z1l (dv 5)) (z1n (i:=7) sc__law_grown.nd rfl (Or.inl rfl)) (z0f (z1m (z1c z3d z3a (dv 7) z0z (z1a _)) (z0f (z2i (z5m z1v PySem.F.slot_list_append PySem.F.type_list_append z1j (pv 6) (z0a (z0s G__law_text (hr.mono (by omega)) rfl E__law_text.g E__law_text.F.kp E__law_text.b z0y (z0a (z2e (i:=2) G__law_pop (hr.mono (by omega)) rfl E__law_pop.g E__law_pop.F.kp E__law_pop.b z0y (da_o (pv 2) z4q)) z0e)) z0e)))) (z0f (z1m (dt_w (z9b (z1c os_gt op_gt (z0g z2j z1z (pv 3) z0d (fun _ _=>rfl)) z0d (z1a _)) (z5t (z1c os_gt op_gt (dv 4) z0d (z1a _))))) (z0f (z2i (z5m z1v PySem.F.slot_list_append PySem.F.type_list_append z1j (pv 6) (z0a (de_callIO2 (i:=2) (j:=3) G__law_grown (hr.mono (by omega)) rfl E__law_grown.g E__law_grown.F.kp E__law_grown.b z0y (d2_v (dv 0) (d2_v (dv 7) (d2_o1 (pv 2) (d2_o2 (pv 3) (d2_v (z0m os_sub op_sub (dv 4) z0d) d2_nil)))))) z0e)))) (z0f (z2i (z5m z1v PySem.F.slot_list_append PySem.F.type_list_append z1j (pv 6) (z0a (z2a (z0a (dv 7) (z0a (z1f z0e) z0e))) z0e)))))))))
   (z0f (z0n (z2a (z0a (dv 1) (z0a (dv 6) z0e)))))))))),?_⟩
  have sz:=z0x
  walk_at "vd"
  refine ⟨by omega,ite2 (fun hs=>?_) fun hs=>⟨_,atI0,?_⟩⟩
  ·obtain ⟨d,hd⟩:=Option.isSome_iff_exists.mp hs
   obtain ⟨p,rfl,p1,p2,p3⟩:=tk _ _ hd
   refine ⟨_,hd,p,ns,rfl,by omega,p2,by omega,fun ws ms h1=>?_⟩
   walk_at "vd"
   refine ⟨_,atI0,?_⟩
   walk_at "vd"
   refine ⟨0,rfl,by omega,?_⟩
   rw [List.length_map]
   refine grow_loop tk hdp hl (by omega) fun ps ms2 k1 k2=>?_
   walk_at "vd"
   exact ⟨by omega,q ps ms2 k1 k2⟩
  ·walk_at "vd"
   refine ⟨0,rfl,by omega,?_⟩
   refine grow_loop (ws:=[]) tk hdp hl (by simp) fun ps ms2 k1 k2=>?_
   walk_at "vd"
   exact ⟨by omega,q ps ms2 k1 k2⟩
end
open PySem L2 VL Pap
def tabF (rules:List (Str × Pat)):List (Key × D):=rules.foldl (fun acc r=>putS acc r.1 (patD r.2)) []
def z3u:List (Str × Pat)→Str→Option Pat
 | [],_=>none
 |r::rs,s=>if r.1=s then some r.2 else z3u rs s
theorem ruleOf_cons (r:Str × Pat) (rs:List (Str × Pat)) (s:Str):z3u (r::rs) s=if r.1=s then some r.2 else z3u rs s:=rfl
theorem z8g {s:Str}{p:Pat}:∀ {rules:List (Str × Pat)},z3u rules s=some p→(s,p)∈rules
 |r::rs,h=>by
  unfold z3u at h
  split at h
  ·rename_i e
   cases h
   subst e
   exact List.mem_cons_self
  ·exact List.mem_cons_of_mem _ (z8g h)
theorem y1l {s:Str}:∀ {rules:List (Str × Pat)},s∉rules.map (·.1)→z3u rules s=none
 | [],_=>rfl
 |r::rs,h=>by
  simp at h
  unfold z3u
  rw [if_neg (fun e=>h.1 e.symm)]
  exact y1l (by simpa using h.2)
theorem y0x {s:Str}:∀ {rules:List (Str × Pat)},s∈rules.map (·.1)→∃ p,z3u rules s=some p
 |r::rs,h=>by
  unfold z3u
  by_cases e:r.1=s
  ·exact ⟨_,if_pos e⟩
  ·rw [if_neg e]
   exact y0x (by
    rcases List.mem_cons.mp (show s∈r.1::rs.map (·.1) from h) with z|z
    ·exact absurd z.symm e
    ·exact z)
theorem y0s (s:Str) (g:Pat→D):∀ (rules:List (Str × Pat)) (acc:List (Key × D)),(rules.map (·.1)).Nodup→getS (rules.foldl (fun acc r=>putS acc r.1 (g r.2)) acc) s=match z3u rules s with|some p=>some (g p)|none=>getS acc s
 | [],acc,_=>rfl
 |r::rs,acc,nd=>by
  rw [List.map_cons,List.nodup_cons] at nd
  rw [List.foldl_cons,y0s s g rs _ nd.2,ruleOf_cons]
  by_cases e:r.1=s
  ·subst e
   rw [if_pos rfl,y1l nd.1,z9r,if_pos rfl]
  ·rw [if_neg e]
   cases z3u rs s with
   |some p=>rfl
   |none=>simp only;rw [z9r,if_neg (fun z=>e z.symm)]
theorem getS_tab {rules:List (Str × Pat)}(nd:(rules.map (·.1)).Nodup) (s:Str):getS (tabF rules) s=(z3u rules s).map patD:=by
 unfold tabF
 rw [y0s s patD rules [] nd]
 cases z3u rules s <;> rfl
theorem tabA_len (g:Pat→D):∀ (rules:List (Str × Pat)) (acc:List (Key × D)),(rules.foldl (fun acc r=>putS acc r.1 (g r.2)) acc).length≤acc.length+rules.length
 | [],acc=>Nat.le_refl _
 |r::rs,acc=>by
  rw [List.foldl_cons]
  have h1:=tabA_len g rs (putS acc r.1 (g r.2))
  have h2:=putS_len acc r.1 (g r.2)
  rw [List.length_cons]
  omega
theorem tab_len (rules:List (Str × Pat)):(tabF rules).length≤rules.length:=by
 have:=tabA_len patD rules []
 simpa [tabF] using this
theorem FormOk.tab {root:Str}{rules:List (Str × Pat)}(h:FormOk root rules):TabOk (tabF rules):=fun s d e=>by
 rw [getS_tab h.nd] at e
 obtain ⟨p,ep,rfl⟩:=Option.map_eq_some_iff.mp e
 have o:=h.pat _ (z8g ep)
 exact ⟨p,rfl,o.dp,o.ok,o.ln⟩
section
variable {P:Program}{w:World}{K:PySem.W.Frag}{mg:Str→Option Value}{base:Heap}{f:Addr}{fd:FuncData}
def R_paper (K:PySem.W.Frag):RD:=fun δ Q=>∃ (root:Str) (rules:List (Str × Pat)) (ns:List Int) (t:Nat),δ=[.fz (z3f root rules),.sc K ns,.fz (.int t),.fz (.int 30)]∧FormOk root rules∧t≤500 ∧
 ∀ ps:List Part,z0w ps≤200030→dpL ps≤9→Q false (pD (.tup root ps)) [.no,.no,.no,.no]
theorem ok_paper {f1 f2 f3 f4 f5:Addr}{fd1 fd2 fd3 fd4 fd5:FuncData}(E__law_paper:Ent K mg "_law_paper" s__law_paper ["_law_form_here","_law_script","_law_turn","_law_many_here"] f fd) (T:Zs K mg) (E__law_pop:Ent K mg "_law_pop" s__law_pop ["_law_draws_here"] f1 fd1) (E__law_word:Ent K mg "_law_word" s__law_word ["_law_pattern_here","_law_draws_here"] f2 fd2) (E__law_text:Ent K mg "_law_text" s__law_text ["_law_number"] f3 fd3) (E__law_grown:Ent K mg "_law_grown" s__law_grown ["_law_table","_law_name_here","_law_draws_here","_law_left","_law_deep"] f4 fd4) (E__law_draws:Ent K mg "_law_draws" s__law_draws ["_law_script","_law_turn","_law_many_here"] f5 fd5) :
  FnOk P w K mg base CX0 33 f fd ["_law_form_here","_law_script","_law_turn","_law_many_here"] (spD (R_paper K)):=by
 have G__law_grown:FnOk P w K mg base CX0 32 f4 fd4 _ (spD (R_lgrown 9)):=ok_lgrown E__law_grown T E__law_pop E__law_word E__law_text 9
 have G__law_draws:FnOk P w K mg base CX0 1 f5 fd5 _ (spD (R_draws K)):=ok_draws E__law_draws T
 refine VL.Fun.dok E__law_paper.F sc__law_paper (fun δ Qd h=>?_) (by decide) (fun cdv A outer s H E δ Qd hr h=>?_)
 ·obtain ⟨_,_,_,_,rfl,_⟩:=h;rfl
 ·obtain ⟨root,rules,ns,t,rfl,ok,ht,q⟩:=h
  have hu:=z4k hr
  refine ⟨_,(z0b (z0p (i:=4) sc__law_paper.nd rfl (Or.inl rfl) (z8c G__law_draws (hr.mono (by decide)) rfl E__law_draws.g E__law_draws.F.kp E__law_draws.b z0y (pv 1) (z0a (dv 2) (z0a z0d z0e))))
   (z0b (z0p (i:=5) sc__law_paper.nd rfl (Or.inl rfl) z7v)
   (z0b (z2t PassesOwn.never rfl (z1l (z0g z0j z0v (pv 0) z0d (fun _ _=>rfl))) (dg_tup (n:=2) rfl (z4a (z1n (i:=6) sc__law_paper.nd rfl (Or.inl rfl)) (z4a (z1n (i:=7) sc__law_paper.nd rfl (Or.inl rfl)) y1r))) (z0f (y1k hu (pv 5) (dv 6) (dv 7))))
   (z0f (z0n (de_callT (i:=4) G__law_grown (hr.mono (by decide)) rfl E__law_grown.g E__law_grown.F.kp E__law_grown.b z0y (dT_v (dv 5) (dT_v (z0g z0j z0v (pv 0) z0d (fun _ _=>rfl)) (dT_o1 (pv 4) (dT_end (z1f (z0a (dv 3) z0e)))))))))))),?_⟩
  have sz:=z0x
  have hlen:=ok.len
  simp only [z3f]
  walk_at "vd"
  refine ⟨ns,t,90,rfl,by omega,by omega,fun ms _=>?_⟩
  walk_at "vd"
  refine z4v [6,7] (fun r δ=>∃ (pre suf:List (Str × Pat)),rules=pre ++ suf∧r=suf.map (fun r=>.tup [.str r.1,patD r.2])∧δ=[.fz (z3f root rules),.sc K ns,.fz (.int t),.fz (.int 30),.ob false (.lst (ms.map .int)),.ob false (.dct (tabF pre)),.no,.no]) ⟨[],rules,rfl,rfl,rfl⟩ ?_ ?_
  ·rintro d r δ ⟨pre,suf,e1,e2,rfl⟩
   cases suf with
   |nil=>cases e2
   |cons z suf =>
    cases e2
    walk_at "vd"
    have:=tab_len pre
    have e1':=congrArg List.length e1
    simp at e1'
    refine ⟨by omega,pre ++ [z],suf,by simp [e1],rfl,?_⟩
    simp [tabF]
  ·rintro δ ⟨pre,suf,e1,e2,rfl⟩
   cases suf with
   |cons z suf=>cases e2
   |nil =>
    rw [List.append_nil] at e1
    subst e1
    simp only [z3f]
    walk_at "vd"
    refine ⟨rfl,?_⟩
    walk_at "vd"
    refine ⟨by omega,_,_,rfl,rfl,rfl,?_⟩
    refine ⟨tabF rules,root,ms,30,8,rfl,ok.tab,by omega,by omega,fun ps ms2 k1 k2=>?_⟩
    exact ⟨_,_,rfl,rfl,q ps (by simpa using k1) (by omega)⟩
def R_bent (n:Nat):RD:=fun δ Q=>∃ (ps:List Part) (a t:Int) (nm:Str),δ=[.fz (.lst (pDs ps)),.ob true (.lst [.int a]),.fz (.int t),.fz (.str nm)]∧dpL ps < n∧z0w ps≤1000000 ∧
 ∀ (qs:List Part) (a':Int),z0w qs≤2 * z0w ps→dpL qs≤dpL ps+1→Q true (.lst (pDs qs)) [.no,.ob true (.lst [.int a']),.no,.no]
theorem pDs_rev (ps:List Part):(pDs ps).reverse=pDs ps.reverse:=by rw [z5g,z5g,List.map_reverse]
theorem sizeL_perm {ps qs:List Part}(h:ps.Perm qs):z0w ps=z0w qs∧dpL ps=dpL qs:=by
 induction h with
 |nil=>exact ⟨rfl,rfl⟩
 |cons x _ ih=>simp only [z0w,dpL,ih.1,ih.2];exact ⟨trivial,trivial⟩
 |swap x y l=>simp only [z0w,dpL];exact ⟨by omega,by omega⟩
 |trans _ _ i1 i2=>exact ⟨i1.1.trans i2.1,i1.2.trans i2.2⟩
theorem ok_bent (E__law_bent_row:Ent K mg "_law_bent_row" s__law_bent_row ["_law_row","_law_at","_law_turn","_law_name_here"] f fd) (T:Zs K mg):∀ n,FnOk P w K mg base CX0 (n+1) f fd ["_law_row","_law_at","_law_turn","_law_name_here"] (spD (R_bent n)):=by
 intro n
 induction n with
 |zero=>exact z3y fun δ Q h=>by obtain ⟨_,_,_,_,_,h,_⟩:=h;exact Nat.not_lt_zero _ h
 |succ n G__law_bent_row =>
 refine VL.Fun.dok E__law_bent_row.F sc__law_bent_row (fun δ Qd h=>?_) (by decide) (fun cdv A outer s H E δ Qd hr h=>?_)
 ·obtain ⟨_,_,_,_,rfl,_⟩:=h;rfl
 ·obtain ⟨ps,a,t,nm,rfl,hdp,hsz,q⟩:=h
  have hu:=z4k hr
  refine ⟨_,(z0b (z0p (i:=4) sc__law_bent_row.nd rfl (Or.inl rfl) (z1f z0e))
   (z0b (z2t PassesOwn.never rfl (z1l (dv 0)) (z1n (i:=5) sc__law_bent_row.nd rfl (Or.inl rfl)) (z0b (ds_setL (pv 1) z0d (z0m os_sub op_sub (z0g z2j z1z (pv 1) z0d (fun _ _=>rfl)) z0d))
   (z0f (z1m (z1c os_ne op_ne (z0g z2j z1z (pv 1) z0d (fun _ _=>rfl)) z0d (z1a _)) (z0f (z2i (z5m z1v PySem.F.slot_list_append PySem.F.type_list_append z1j (pv 4) (z0a (de_if (z3p (z1r (z3t T.kit) (z1d (K:=K) rfl) rfl T.z_isinstance PyProof.Rows.boot_isinstance (z0a (dv 5) (z0a (z5l rfl T.z_str PyProof.Rows.boot_str) z0e)))) (dv 5) (z2a (z0a (z0g z0j z0v (pv 5) z0d (fun _ _=>rfl)) (z0a (z2e (i:=1) G__law_bent_row (hr.mono (by omega)) rfl E__law_bent_row.g E__law_bent_row.F.kp E__law_bent_row.b z0y (da_v (z0g z0j z0v (pv 5) z0d (fun _ _=>rfl)) (da_o (pv 1) (da_v (dv 2) (da_v (dv 3) z4q))))) z0e)))) z0e)))) (z0f (z1m (z1c z3d z3a (dv 2) z0d (z1a _)) (z0b (z2i (z5m z1v PySem.F.slot_list_append PySem.F.type_list_append z1j (pv 4) (z0a z0z z0e)))
   (z0f (z2i (z5m z1v PySem.F.slot_list_append PySem.F.type_list_append z1j (pv 4) (z0a (dv 5) z0e))))) (z0f (z1m (z1c z3d z3a (dv 2) z0d (z1a _)) (z0f (z0p (i:=4) sc__law_bent_row.nd rfl (Or.inl rfl) (z0m z3n z3i (dv 4) (z1f (z0a (z2a (z0a (dv 3) (z0a (z1f z0e) z0e))) (z0a (dv 5) z0e)))))) (z0f (z1m (dt_w (z9b (z1c z3d z3a (dv 2) z0d (z1a _)) (z5t (z4y (z3p (z1r (z3t T.kit) (z1d (K:=K) rfl) rfl T.z_isinstance PyProof.Rows.boot_isinstance (z0a (dv 5) (z0a (z5l rfl T.z_str PyProof.Rows.boot_str) z0e)))))))) (z0f (z2i (z5m z1v PySem.F.slot_list_append PySem.F.type_list_append z1j (pv 4) (z0a (z2a (z0a (dv 3) (z0a (z0g z0j z0v (pv 5) z0d (fun _ _=>rfl)) z0e))) z0e)))) (z0f (z1m (dt_w (z9b (z1c z3d z3a (dv 2) z0d (z1a _)) (z5t (z4y (z3p (z1r (z3t T.kit) (z1d (K:=K) rfl) rfl T.z_isinstance PyProof.Rows.boot_isinstance (z0a (dv 5) (z0a (z5l rfl T.z_str PyProof.Rows.boot_str) z0e)))))))) (z0f (z2i (z5m z1v PySem.F.slot_list_append PySem.F.type_list_append z1j (pv 4) (z0a (z2a (z0a (z0g z0j z0v (pv 5) z0d (fun _ _=>rfl)) (z0a (de_sliceR (z0g z0j z0v (pv 5) z0d (fun _ _=>rfl))) z0e))) z0e)))) (z0f (z1m (dt_w (z9b (z1c z3d z3a (dv 2) z0d (z1a _)) (z5t (z4y (z3p (z1r (z3t T.kit) (z1d (K:=K) rfl) rfl T.z_isinstance PyProof.Rows.boot_isinstance (z0a (dv 5) (z0a (z5l rfl T.z_str PyProof.Rows.boot_str) z0e)))))))) (z0f (z0p (i:=4) sc__law_bent_row.nd rfl (Or.inl rfl) (z0m z3n z3i (dv 4) (z0g z0j z0v (pv 5) z0d (fun _ _=>rfl))))) (z0f (z1m (z1c z3d z3a (dv 2) z0d (z1a _)) (z0f (z0p (i:=4) sc__law_bent_row.nd rfl (Or.inl rfl) (z0m z3n z3i (dv 4) (z1f (z0a (dv 5) (z0a (dv 5) z0e)))))) z0t))))))))))))))))
   (z0f (z0n (dm 4))))),?_⟩
  have sz:=z0x
  walk_at "vd"
  refine ⟨by omega,z4v [5] (fun r δ=>∃ (pre suf qs:List Part) (a:Int),ps=pre ++ suf∧r=pDs suf∧z0w qs≤2 * z0w pre∧dpL qs≤dpL ps+1∧δ=[.fz (.lst (pDs ps)),.ob true (.lst [.int a]),.fz (.int t),.fz (.str nm),.ob false (.lst (pDs qs)),.no]) ⟨[],ps,[],a,rfl,rfl,by simp [z0w],by simp [dpL],rfl⟩ ?_ ?_⟩
  ·rintro d r δ ⟨pre,suf,qs,a,e1,e2,hq1,hq2,rfl⟩
   cases suf with
   |nil=>cases e2
   |cons p suf =>
    cases e2
    have e5:=congrArg dpL e1
    rw [z6c] at e5
    simp only [dpL] at e5
    have e6:=congrArg z0w e1
    rw [z2x] at e6
    simp only [z0w] at e6
    have hle:=z4l qs
    have hpd:=z8q qs
    have put:∀ (new:List Part) (a':Int) (X:List D),X=pDs qs ++ pDs new→z0w new≤2 * z2g p→dpL new≤dpL ps+1 →
      (∃ (pre' suf' qs':List Part) (a'':Int),ps=pre' ++ suf'∧pDs suf=pDs suf'∧z0w qs' ≤ 2 * z0w pre'∧dpL qs' ≤ dpL ps+1∧[Slot.fz (.lst (pDs ps)),.ob true (.lst [.int a']),.fz (.int t),.fz (.str nm),.ob false (.lst X),.no]=[.fz (.lst (pDs ps)),.ob true (.lst [.int a'']),.fz (.int t),.fz (.str nm),.ob false (.lst (pDs qs')),.no]):=by
     intro new a' X hX h1 h2
     refine ⟨pre ++ [p],suf,qs ++ new,a',by simp [e1],rfl,by rw [z2x,z2x];simp only [z0w];omega,by rw [z6c];omega,?_⟩
     rw [hX,pDs_app]
    cases p with
    |txt z =>
     simp only [pD]
     walk_at "vd"
     refine ⟨_,atI0,?_⟩
     walk_at "vd"
     refine ⟨0,rfl,_,atI0,?_⟩
     walk_at "vd"
     repeat' (first|refine ite2 (fun _=>?_) fun _=>?_)
     all_goals first
      |exact ⟨by omega,put [.txt z] _ _ rfl (by simp [z0w,z2g]) (by simp [dpL,dp1])⟩
      |exact ⟨by omega,by simp;omega,put [.txt "more",.txt z] _ _ (by simp [pDs,pD]) (by simp [z0w,z2g]) (by simp [dpL,dp1])⟩
      |exact ⟨by omega,by omega,by omega,by omega,put [.tup nm [],.txt z] _ _ (by simp [pDs,pD]) (by simp [z0w,z2g]) (by simp [dpL,dp1])⟩
      |exact ⟨by omega,by omega,put [.txt z,.txt z] _ _ (by simp [pDs,pD]) (by simp [z0w,z2g]) (by simp [dpL,dp1])⟩
      |exact put [] _ _ (by simp [pDs]) (by simp [z0w]) (by simp [dpL])
    |tup m is =>
     simp only [pD]
     simp only [dp1] at e5
     simp only [z2g] at e6 put
     walk_at "vd"
     refine ⟨_,atI0,?_⟩
     walk_at "vd"
     refine ⟨0,rfl,_,atI0,?_⟩
     walk_at "vd"
     refine ite2 (fun h0=>⟨is,a - 1,t,nm,rfl,by omega,by omega,fun rs a' r1 r2=>?_⟩) fun h0=>?_
     ·walk_at "vd"
      exact ⟨by omega,by omega,put [.tup m rs] _ _ rfl (by simp only [z0w,z2g];omega) (by simp only [dpL,dp1];omega)⟩
     ·have pr:=sizeL_perm (List.reverse_perm is)
      repeat' (first|refine ite2 (fun _=>?_) fun _=>?_)
      all_goals first
       |exact ⟨by omega,by simp;omega,put [.txt "more",.tup m is] _ _ (List.append_assoc _ _ _) (by simp only [z0w,z2g];omega) (by simp only [dpL,dp1];omega)⟩
       |exact ⟨by omega,by omega,by omega,by omega,put [.tup nm [],.tup m is] _ _ rfl (by simp only [z0w,z2g];omega) (by simp only [dpL,dp1];omega)⟩
       |exact ⟨by omega,by omega,put [.tup nm is] _ _ rfl (by simp only [z0w,z2g];omega) (by simp only [dpL,dp1];omega)⟩
       |exact ⟨by omega,by omega,put [.tup m is.reverse] _ _ (congrArg (fun x=>pDs qs ++ [D.tup [D.str m,D.lst x]]) (pDs_rev is)) (by simp only [z0w,z2g];omega) (by simp only [dpL,dp1];omega)⟩
       |exact ⟨by omega,by omega,put [.tup m is,.tup m is] _ _ rfl (by simp only [z0w,z2g];omega) (by simp only [dpL,dp1];omega)⟩
       |exact ⟨by have:=z8q is;have:=z4l is;omega,put is _ _ rfl (by omega) (by omega)⟩
       |exact put [] _ _ (by simp [pDs]) (by simp [z0w]) (by simp [dpL])
       |trace_state
  ·rintro δ ⟨pre,suf,qs,a,e1,e2,hq1,hq2,rfl⟩
   cases suf with
   |cons p suf=>cases e2
   |nil =>
    walk_at "vd"
    rw [List.append_nil] at e1
    subst e1
    exact q qs a hq1 hq2
end
open PySem L2 VL Pap
def z5p (r:Str × Pat):D:=.tup [.str r.1,patD r.2]
theorem formD_eq (root:Str) (rules:List (Str × Pat)):z3f root rules = .tup [.str root,.lst (rules.map z5p)]:=rfl
theorem metS_nd:∀ (l acc:List Str),(acc ++ l).Nodup→l.foldl stepS acc=acc ++ l
 | [],acc,_=>by simp
 |x::l,acc,nd=>by
  have hx:x∉acc:=fun h=>by
   rw [List.nodup_append] at nd
   exact nd.2.2 x h x List.mem_cons_self rfl
  rw [List.foldl_cons]
  have e:stepS acc x=acc ++ [x]:=by unfold stepS;rw [if_neg hx]
  rw [e,metS_nd l (acc ++ [x]) (by simpa using nd)]
  simp
theorem getD_range (ks:List Str):(List.range ks.length).map (fun i=>ks.getD i "")=ks:=by
 apply List.ext_getElem
 ·simp
 ·intro i h1 h2
  simp
  rw [List.getElem?_eq_getElem h2]
  rfl
theorem metS_all {ks:List Str}(nd:ks.Nodup):(metS (fun i=>ks.getD i "") ks.length).length=ks.length:=by
 unfold metS
 rw [getD_range,metS_nd ks [] (by simpa using nd)]
 simp
theorem comp2x {α:Type}{xs:List α}{a b:α→D}{te:TEd}{Q:Bool→D→List VL.Slot→Prop}{δ:List VL.Slot}(f:α→D) (hl:xs.length≤sizeLine)
  (h:∀ x∈xs,∀ P:D→List VL.Slot→Prop,P (f x) (.fz (a x) :: .fz (b x)::δ)→te (.fz (a x) :: .fz (b x)::δ) fun _ y δ'=>P y δ') (q:Q true (.lst (xs.map f)) δ):CompD 2 (xs.map fun x=>.tup [a x,b x]) (dgTup 2 (dgCons (dgN 0) (dgCons (dgN 1) dgNil))) dYes te Q δ:=by
 refine ⟨fun r acc δ1=>δ1=δ∧∃ pre suf,xs=pre ++ suf∧r=suf.map (fun x=>.tup [a x,b x])∧acc=pre.map f,⟨rfl,[],xs,rfl,rfl,rfl⟩,?_,?_⟩
 ·rintro d r acc δ1 ⟨rfl,pre,suf,e,er,rfl⟩
  cases suf with
  |nil=>cases er
  |cons x suf =>
   cases er
   have hm:x∈xs:=by rw [e];simp
   have hlen:pre.length < sizeLine:=by rw [e] at hl;simp at hl;omega
   refine ⟨_,rfl,rfl,_,_,rfl,trivial,_,_,rfl,trivial,rfl,?_⟩
   unfold dYes
   dsimp only
   rw [if_pos rfl]
   exact h x hm (fun y δ'=>(pre.map f).length < sizeLine∧δ'.drop 2=δ1∧∃ pre' suf',xs=pre' ++ suf'∧suf.map (fun x=>D.tup [a x,b x])=suf'.map (fun x=>.tup [a x,b x])∧pre.map f ++ [y]=pre'.map f) ⟨by simpa using hlen,rfl,pre ++ [x],suf,by simp [e],rfl,by simp⟩
 ·rintro acc δ1 ⟨rfl,pre,suf,e,er,rfl⟩
  cases suf with
  |cons x suf=>cases er
  |nil =>
   rw [List.append_nil] at e
   subst e
   exact q
section
variable {P:Program}{w:World}{K:PySem.W.Frag}{mg:Str→Option Value}{base:Heap}{f:Addr}{fd:FuncData}
def R_cpat (n:Nat):RD:=fun δ Q=>∃ p:Pat,δ=[.fz (patD p)]∧dpP p < n∧szP p≤1000∧Q false (patD p) [.no]
theorem ok_cpat (E__law_copy_pattern:Ent K mg "_law_copy_pattern" s__law_copy_pattern ["_law_pattern_here"] f fd) (T:Zs K mg):∀ n,FnOk P w K mg base CX0 (n+1) f fd ["_law_pattern_here"] (spD (R_cpat n)):=by
 intro n
 induction n with
 |zero=>exact z3y fun δ Q h=>by obtain ⟨_,_,h,_⟩:=h;exact Nat.not_lt_zero _ h
 |succ n G__law_copy_pattern =>
 refine VL.Fun.dok E__law_copy_pattern.F z6i (fun δ Qd h=>?_) (by decide) (fun cdv A outer s H E δ Qd hr h=>?_)
 ·obtain ⟨_,rfl,_⟩:=h;rfl
 ·obtain ⟨p,rfl,hdp,hsz,q⟩:=h
  refine ⟨_,(z0b (z1m (z1c os_inT z7l (z0g z0j z0v (pv 0) z0d (fun _ _=>rfl)) (z2a (z0a z0z (z0a z0z z0e))) rfl) (z0f (z0n (z2a (z0a (z0g z0j z0v (pv 0) z0d (fun _ _=>rfl)) (z0a (z3v ["_law_one"] ["_law_pattern_here"] rfl (show CScopeG (z0c s__law_copy_pattern) ["_law_pattern_here"] ["_law_one"] _ _ from ⟨rfl,by decide +kernel,by decide +kernel,by decide +kernel,by decide +kernel⟩) (z1l (z0g z0j z0v (pv 0) z0d (fun _ _=>rfl))) (fun _ _ _ _ _=>(z1s (i:=0) (by decide) (show List.Nodup (["_law_one","_law_pattern_here"]:List Str) from by decide +kernel) rfl (Or.inl rfl))) (fun _ _ _ _ _=>z5v) (fun _ _ _ _ _=>(z0s G__law_copy_pattern (hr.mono (by omega)) rfl E__law_copy_pattern.g E__law_copy_pattern.F.kp E__law_copy_pattern.b z0y (z0a (dv 0) z0e)))) z0e))))) z0t)
   (z0b (z1m (z1c os_inT z7l (z0g z0j z0v (pv 0) z0d (fun _ _=>rfl)) (z2a (z0a z0z (z0a z0z (z0a z0z z0e)))) rfl) (z0f (z0n (z2a (z0a (z0g z0j z0v (pv 0) z0d (fun _ _=>rfl)) (z0a (z0s G__law_copy_pattern (hr.mono (by omega)) rfl E__law_copy_pattern.g E__law_copy_pattern.F.kp E__law_copy_pattern.b z0y (z0a (z0g z0j z0v (pv 0) z0d (fun _ _=>rfl)) z0e)) z0e))))) z0t)
   (z0f (z0n (dm 0))))),?_⟩
  have sz:=z0x
  have comp:∀ (ps:List Pat) (z:Str) (Q:Bool→D→List VL.Slot→Prop),dpPs ps < n→szPs ps≤1000→Q true (.lst (z1k ps)) [.fz (.tup [.str z,.lst (z1k ps)])] →
    CompD 1 (z1k ps) (dgN 0) dYes (dCall (R_cpat n) (z7c (dVar 0) dNil)) Q [.fz (.tup [.str z,.lst (z1k ps)])]:=by
   intro ps z Q h1 h2 h3
   have hl:=z4h ps
   have e:=z2u ps
   rw [e] at h3 ⊢
   refine compL patD patD ps (by omega) (fun c hc P hP=>?_) h3
   have d1:=z3q hc
   have d2:=z5f hc
   walk_at "vd"
   exact ⟨c,rfl,by omega,by omega,hP⟩
  cases p with
  |none =>
   simp only [patD]
   walk_at "vd"
   refine ⟨by omega,?_⟩
   rw [if_neg (by decide)]
   refine ⟨by omega,?_⟩
   rw [if_neg (by decide)]
   exact q
  |one s =>
   simp only [patD]
   walk_at "vd"
   refine ⟨by omega,?_⟩
   rw [if_neg (by decide)]
   refine ⟨by omega,?_⟩
   rw [if_neg (by decide)]
   exact q
  |row ps =>
   simp only [patD]
   simp only [dpP,szP] at hdp hsz
   walk_at "vd"
   refine ⟨by omega,?_⟩
   rw [if_pos (.inl trivial)]
   refine comp ps _ _ (by omega) (by omega) ⟨by omega,q⟩
  |any ps =>
   simp only [patD]
   simp only [dpP,szP] at hdp hsz
   walk_at "vd"
   refine ⟨by omega,?_⟩
   rw [if_pos (.inr trivial)]
   refine comp ps _ _ (by omega) (by omega) ⟨by omega,q⟩
  |wrap k p =>
   simp only [dpP,szP] at hdp hsz
   cases k <;> simp only [patD,Wk.str] <;> walk_at "vd" <;> refine ⟨by omega,?_⟩ <;> rw [if_neg (by decide)] <;> refine ⟨by omega,?_⟩
   ·rw [if_pos (.inl trivial)];exact ⟨p,rfl,by omega,by omega,by omega,q⟩
   ·rw [if_pos (.inr (.inl trivial))];exact ⟨p,rfl,by omega,by omega,by omega,q⟩
   ·rw [if_pos (.inr (.inr trivial))];exact ⟨p,rfl,by omega,by omega,by omega,q⟩
def R_cform:RD:=fun δ Q=>∃ (root:Str) (rules:List (Str × Pat)),δ=[.fz (z3f root rules)]∧FormOk root rules∧Q false (z3f root rules) [.no]
theorem ok_cform {f1:Addr}{fd1:FuncData}(E__law_copy_form:Ent K mg "_law_copy_form" s__law_copy_form ["_law_form_here"] f fd) (T:Zs K mg) (E__law_copy_pattern:Ent K mg "_law_copy_pattern" s__law_copy_pattern ["_law_pattern_here"] f1 fd1):FnOk P w K mg base CX0 23 f fd ["_law_form_here"] (spD R_cform):=by
 have G__law_copy_pattern:FnOk P w K mg base CX0 22 f1 fd1 _ (spD (R_cpat 21)):=ok_cpat E__law_copy_pattern T 21
 refine VL.Fun.dok E__law_copy_form.F z8r (fun δ Qd h=>?_) (by decide) (fun cdv A outer s H E δ Qd hr h=>?_)
 ·obtain ⟨_,_,rfl,_⟩:=h;rfl
 ·obtain ⟨root,rules,rfl,ok,q⟩:=h
  refine ⟨_,(z0f (z0n (z2a (z0a (z0g z0j z0v (pv 0) z0d (fun _ _=>rfl)) (z0a (z3v ["_law_name_here","_law_pattern_here"] ["_law_form_here"] rfl (show CScopeG (z0c s__law_copy_form) ["_law_form_here"] ["_law_name_here","_law_pattern_here"] _ _ from ⟨rfl,by decide +kernel,by decide +kernel,by decide +kernel,by decide +kernel⟩) (z1l (z0g z0j z0v (pv 0) z0d (fun _ _=>rfl))) (fun _ _ _ _ _=>(dgn_tup (m:=2) rfl (z4b (z1s (i:=0) (by decide) (show List.Nodup (["_law_name_here","_law_pattern_here","_law_form_here"]:List Str) from by decide +kernel) rfl (Or.inl rfl)) (z4b (z1s (i:=1) (by decide) (show List.Nodup (["_law_name_here","_law_pattern_here","_law_form_here"]:List Str) from by decide +kernel) rfl (Or.inl rfl)) z9u)))) (fun _ _ _ _ _=>z5v) (fun _ _ _ _ _=>(z2a (z0a (dv 0) (z0a (z0s G__law_copy_pattern (hr.mono (by decide)) rfl E__law_copy_pattern.g E__law_copy_pattern.F.kp E__law_copy_pattern.b z0y (z0a (dv 1) z0e)) z0e))))) z0e))))),?_⟩
  have sz:=z0x
  have hl:=ok.len
  simp only [z3f] at q ⊢
  walk_at "vd"
  refine comp2x (fun r=>.tup [.str r.1,patD r.2]) (by omega) (fun r hr P hP=>?_) ⟨by omega,q⟩
  have o:=ok.pat r hr
  have o1:=o.dp
  have o2:=o.sz
  walk_at "vd"
  exact ⟨r.2,rfl,by omega,by omega,by omega,hP⟩
def R_ltwice:RD:=fun δ Q=>∃ (root:Str) (rules:List (Str × Pat)),δ=[.fz (.lst (rules.map z5p))]∧FormOk root rules∧Q false .non [.no]
theorem ok_ltwice {f1 f2:Addr}{fd1 fd2:FuncData}(E_look_twice:Ent K mg "look_twice" s_look_twice ["rules"] f fd) (T:Zs K mg) (E_signs:Ent K mg "signs" s_signs ["pattern"] f1 fd1) (E_patterns_within:Ent K mg "patterns_within" s_patterns_within ["pattern"] f2 fd2):FnOk P w K mg base CX0 24 f fd ["rules"] (spD R_ltwice):=by
 have G_signs:FnOk P w K mg base CX0 23 f1 fd1 _ (spD (R_signs 21)):=ok_signs E_signs T E_patterns_within 21
 refine VL.Fun.dok E_look_twice.F sc_look_twice (fun δ Qd h=>?_) (by decide) (fun cdv A outer s H E δ Qd hr h=>?_)
 ·obtain ⟨_,_,rfl,_⟩:=h;rfl
 ·obtain ⟨root,rules,rfl,ok,q⟩:=h
  have hu:=z4k hr
  refine ⟨_,(z0b (z0p (i:=1) sc_look_twice.nd rfl (Or.inl rfl) z7v)
   (z0f (z2t PassesOwn.never rfl (z1l (dv 0)) (dg_tup (n:=2) rfl (z4a (z1n (i:=2) sc_look_twice.nd rfl (Or.inl rfl)) (z4a (z1n (i:=3) sc_look_twice.nd rfl (Or.inl rfl)) y1r))) (z0b (z0p (i:=4) sc_look_twice.nd rfl (Or.inl rfl) (z0s G_signs (hr.mono (by decide)) rfl E_signs.g E_signs.F.kp E_signs.b z0y (z0a (dv 3) z0e)))
   (z0b (z1m (dt_w (dw_or (dt_dinV hu (dv 2) (pv 1)) (dw_or1 (z1c os_lt op_lt (de_lenSet rfl rfl T.z_len rfl T.z_set (dv 4)) (z1u z3o z1i rfl T.z_len PySem.boot_len (pv 4)) (z1a _))))) (z0f ds_never) z0t)
   (z0f (y1k hu (pv 1) (dv 2) de_bl))))))),?_⟩
  have sz:=z0x
  have hl:=ok.len
  walk_at "vd"
  refine z4v [2,3,4] (fun r δ=>∃ (pre suf:List (Str × Pat)) (tb:List (Key × D)),rules=pre ++ suf∧r=suf.map z5p∧tb.length≤pre.length∧(∀ s,(getS tb s).isSome=true→s∈pre.map (·.1))∧δ=[.fz (.lst (rules.map z5p)),.ob false (.dct tb),.no,.no,.no]) ⟨[],rules,[],rfl,rfl,Nat.le_refl _,(fun s h=>by cases h),rfl⟩ ?_ ?_
  ·rintro d r δ ⟨pre,suf,tb,e1,e2,ht,hk,rfl⟩
   cases suf with
   |nil=>cases e2
   |cons z suf =>
    cases e2
    have hz:z∈rules:=by rw [e1];simp
    have o:=ok.pat z hz
    have o1:=o.dp
    have o2:=o.sz
    simp only [z5p]
    walk_at "vd"
    refine ⟨z.2,rfl,by omega,by omega,?_⟩
    walk_at "vd"
    have hn:z.1∉pre.map (·.1):=fun h=>by
     have nd:=ok.nd
     rw [e1,List.map_append,List.nodup_append] at nd
     exact nd.2.2 _ h z.1 (by simp) rfl
    have sl:=z4m z.2
    have e1':=congrArg List.length e1
    simp at e1'
    rw [if_neg (fun h=>hn (hk _ h))]
    refine ⟨z0h z.2,rfl,by omega,?_⟩
    rw [metS_all o.nd,if_neg (by simp)]
    have pl:=putS_len tb z.1 (D.bl true)
    refine ⟨by omega,pre ++ [z],suf,_,by simp [e1],rfl,by rw [List.length_append];simp;omega,fun s h=>?_,rfl⟩
    rw [z9r] at h
    rw [List.map_append]
    split at h
    ·rename_i e;subst e;simp
    ·exact List.mem_append_left _ (hk s h)
  ·rintro δ ⟨pre,suf,tb,e1,e2,ht,hk,rfl⟩
   cases suf with
   |cons z suf=>cases e2
   |nil =>
    walk_at "vd"
    exact q
def R_lnames:RD:=fun δ Q=>∃ (root:Str) (rules:List (Str × Pat)),δ=[.fz (.str root),.fz (.lst (rules.map z5p))]∧FormOk root rules∧Q false .non [.no,.no]
theorem ok_lnames {f1 f2:Addr}{fd1 fd2:FuncData}(E_look_names:Ent K mg "look_names" s_look_names ["root","rules"] f fd) (T:Zs K mg) (E_signs:Ent K mg "signs" s_signs ["pattern"] f1 fd1) (E_patterns_within:Ent K mg "patterns_within" s_patterns_within ["pattern"] f2 fd2):FnOk P w K mg base CX0 24 f fd ["root","rules"] (spD R_lnames):=by
 have G_signs:FnOk P w K mg base CX0 23 f1 fd1 _ (spD (R_signs 21)):=ok_signs E_signs T E_patterns_within 21
 refine VL.Fun.dok E_look_names.F sc_look_names (fun δ Qd h=>?_) (by decide) (fun cdv A outer s H E δ Qd hr h=>?_)
 ·obtain ⟨_,_,rfl,_⟩:=h;rfl
 ·obtain ⟨root,rules,rfl,ok,q⟩:=h
  have hu:=z4k hr
  refine ⟨_,(z0b (z0p (i:=2) sc_look_names.nd rfl (Or.inl rfl) (z4w cs_dict (y0f rfl) rfl T.z_dict PyProof.Rows.boot_dict (z0a (dv 1) z0e)))
   (z0b (z1m (z8i hu (dv 0) (pv 2)) (z0f ds_never) z0t)
   (z0f (z2t PassesOwn.never rfl (z1l (dv 1)) (z1n (i:=3) sc_look_names.nd rfl (Or.inl rfl)) (z0f (z2t PassesOwn.never rfl (z1l (z0s G_signs (hr.mono (by decide)) rfl E_signs.g E_signs.F.kp E_signs.b z0y (z0a (z0g z0j z0v (pv 3) z0d (fun _ _=>rfl)) z0e))) (z1n (i:=4) sc_look_names.nd rfl (Or.inl rfl)) (z0f (z1m (dt_w (z9b (z1c os_ne op_ne (dv 4) (de_gS rfl T.g_TEXT_SIGN) (z1a _)) (z5t (z8i hu (dv 4) (pv 2))))) (z0f ds_never) z0t)))))))),?_⟩
  have sz:=z0x
  have hl:=ok.len
  walk_at "vd"
  refine ⟨rules.map fun r=>(r.1,patD r.2),by rw [List.map_map];rfl,?_⟩
  rw [List.foldl_map,show rules.foldl (fun acc r=>putS acc r.1 (patD r.2)) []=tabF rules from rfl]
  have kn:∀ s,s∈rules.map (·.1)→(getS (tabF rules) s).isSome=true:=fun s hs=>by
   obtain ⟨p,hp⟩:=y0x hs
   rw [getS_tab ok.nd,hp];rfl
  walk_at "vd"
  rw [if_neg (by rw [kn _ ok.root];simp)]
  refine z4v [3,4] (fun r δ=>∃ (pre suf:List (Str × Pat)),rules=pre ++ suf∧r=suf.map z5p∧δ=[.fz (.str root),.fz (.lst (rules.map z5p)),.ob false (.dct (tabF rules)),.no,.no]) ⟨[],rules,rfl,rfl,rfl⟩ ?_ ?_
  ·rintro d r δ ⟨pre,suf,e1,e2,rfl⟩
   cases suf with
   |nil=>cases e2
   |cons z suf =>
    cases e2
    have hz:z∈rules:=by rw [e1];simp
    have o:=ok.pat z hz
    have o1:=o.dp
    have o2:=o.sz
    simp only [z5p]
    walk_at "vd"
    refine ⟨z.2,rfl,by omega,by omega,?_⟩
    walk_at "vd"
    refine z4v [4] (fun r δ=>∃ (ss:List Str),r=ss.map .str∧(∀ s∈ss,s = "#" ∨ s∈rules.map (·.1))∧δ=[.fz (.str root),.fz (.lst (rules.map z5p)),.ob false (.dct (tabF rules)),.fz (.tup [.str z.1,patD z.2]),.no]) ⟨z0h z.2,rfl,o.sg,rfl⟩ ?_ ?_
    ·rintro d r δ ⟨ss,e3,hs,rfl⟩
     cases ss with
     |nil=>cases e3
     |cons y ss =>
      cases e3
      walk_at "vd"
      have go:∃ (ss':List Str),ss.map D.str=ss'.map D.str∧(∀ s∈ss',s = "#" ∨ s∈rules.map (·.1))∧[Slot.fz (.str root),.fz (.lst (rules.map z5p)),.ob false (.dct (tabF rules)),.fz (.tup [.str z.1,patD z.2]),.no]=[Slot.fz (.str root),.fz (.lst (rules.map z5p)),.ob false (.dct (tabF rules)),.fz (.tup [.str z.1,patD z.2]),.no]:=⟨ss,rfl,fun s h=>hs s (List.mem_cons_of_mem _ h),rfl⟩
      rcases hs y List.mem_cons_self with h|h
      ·rw [if_neg (by simpa using h)]
       simpa using go
      ·refine ite2 (fun _=>?_) fun _=>by simpa using go
       rw [if_neg (by rw [kn _ h];simp)]
       simpa using go
    ·rintro δ ⟨ss,e3,hs,rfl⟩
     cases ss with
     |cons y ss=>cases e3
     |nil =>
      walk_at "vd"
      exact ⟨pre ++ [z],suf,by simp [e1],rfl⟩
  ·rintro δ ⟨pre,suf,e1,e2,rfl⟩
   cases suf with
   |cons z suf=>cases e2
   |nil =>
    walk_at "vd"
    exact q
def tabsF (rules:List (Str × Pat)):List (Key × D):=rules.foldl (fun acc r=>putS acc r.1 (tabD r.2)) []
theorem getS_tabs {rules:List (Str × Pat)}(nd:(rules.map (·.1)).Nodup) (s:Str):getS (tabsF rules) s=(z3u rules s).map tabD:=by
 unfold tabsF
 rw [y0s s tabD rules [] nd]
 cases z3u rules s <;> rfl
def R_tables:RD:=fun δ Q=>∃ (root:Str) (rules:List (Str × Pat)),δ=[.fz (.lst (rules.map z5p))]∧FormOk root rules∧Q true (.dct (tabsF rules)) [.no]
theorem ok_tables {f1 f2 f3 f4 f5 f6 f7 f8 f9 f10:Addr}{fd1 fd2 fd3 fd4 fd5 fd6 fd7 fd8 fd9 fd10:FuncData}(E_tables:Ent K mg "tables" s_tables ["rules"] f fd) (T:Zs K mg) (E_link:Ent K mg "link" s_link ["ends","begins","followers"] f1 fd1) (E_firsts:Ent K mg "firsts" s_firsts ["pattern"] f2 fd2) (E_lasts:Ent K mg "lasts" s_lasts ["pattern"] f3 fd3) (E_bare:Ent K mg "bare" s_bare ["pattern"] f4 fd4) (E_patterns_within:Ent K mg "patterns_within" s_patterns_within ["pattern"] f5 fd5) (E_link_row:Ent K mg "link_row" s_link_row ["patterns","followers"] f6 fd6) (E_link_all:Ent K mg "link_all" s_link_all ["pattern","followers"] f7 fd7) (E_signs:Ent K mg "signs" s_signs ["pattern"] f8 fd8) (E_nexts:Ent K mg "nexts" s_nexts ["pattern"] f9 fd9) (E_table:Ent K mg "table" s_table ["pattern"] f10 fd10) :
  FnOk P w K mg base CX0 29 f fd ["rules"] (spD R_tables):=by
 have G_table:FnOk P w K mg base CX0 28 f10 fd10 _ (spD (R_table 21)):=ok_table E_table T E_link E_firsts E_lasts E_bare E_patterns_within E_link_row E_link_all E_signs E_nexts 21
 refine VL.Fun.dok E_tables.F sc_tables (fun δ Qd h=>?_) (by decide) (fun cdv A outer s H E δ Qd hr h=>?_)
 ·obtain ⟨_,_,rfl,_⟩:=h;rfl
 ·obtain ⟨root,rules,rfl,ok,q⟩:=h
  have hu:=z4k hr
  refine ⟨_,(z0b (z0p (i:=1) sc_tables.nd rfl (Or.inl rfl) z7v)
   (z0b (z2t PassesOwn.never rfl (z1l (dv 0)) (dg_tup (n:=2) rfl (z4a (z1n (i:=2) sc_tables.nd rfl (Or.inl rfl)) (z4a (z1n (i:=3) sc_tables.nd rfl (Or.inl rfl)) y1r))) (z0f (y1k hu (pv 1) (dv 2) (z0s G_table (hr.mono (by decide)) rfl E_table.g E_table.F.kp E_table.b z0y (z0a (dv 3) z0e)))))
   (z0f (z0n (dm 1))))),?_⟩
  have sz:=z0x
  have hl:=ok.len
  walk_at "vd"
  refine z4v [2,3] (fun r δ=>∃ (pre suf:List (Str × Pat)),rules=pre ++ suf∧r=suf.map z5p∧δ=[.fz (.lst (rules.map z5p)),.ob false (.dct (tabsF pre)),.no,.no]) ⟨[],rules,rfl,rfl,rfl⟩ ?_ ?_
  ·rintro d r δ ⟨pre,suf,e1,e2,rfl⟩
   cases suf with
   |nil=>cases e2
   |cons z suf =>
    cases e2
    have hz:z∈rules:=by rw [e1];simp
    have o:=ok.pat z hz
    have o1:=o.dp
    have o2:=o.sz
    have e1':=congrArg List.length e1
    simp at e1'
    have tl:=tabA_len tabD pre []
    simp only [z5p]
    walk_at "vd"
    refine ⟨z.2,rfl,by omega,by omega,?_⟩
    walk_at "vd"
    refine ⟨by unfold tabsF;simp at tl;omega,pre ++ [z],suf,by simp [e1],rfl,?_⟩
    simp [tabsF]
  ·rintro δ ⟨pre,suf,e1,e2,rfl⟩
   cases suf with
   |cons z suf=>cases e2
   |nil =>
    rw [List.append_nil] at e1
    subst e1
    walk_at "vd"
    exact q
def okN (rules:List (Str × Pat)) (n:Str) (ws:List Str):Bool:=match z3u rules n with|some p=>z3e p ws|none=>false
def z8k:RD:=fun δ Q=>∃ (rules:List (Str × Pat)) (n:Str) (ps:List Part),δ=[.fz (pD (.tup n ps)),.fz (.dct (tabsF rules))]∧(rules.map (·.1)).Nodup∧ps.length≤1000000∧Q false (.bl (okN rules n (z2p ps))) [.no,.no]
theorem ok_holds {f1 f2 f3:Addr}{fd1 fd2 fd3:FuncData}(E_holds:Ent K mg "holds" s_holds ["part","known"] f fd) (T:Zs K mg) (E_agrees:Ent K mg "agrees" s_agrees ["told","word"] f1 fd1) (E_word:Ent K mg "word" s_word ["row"] f2 fd2) (E_sign_of:Ent K mg "sign_of" s_sign_of ["part"] f3 fd3):FnOk P w K mg base CX0 3 f fd ["part","known"] (spD z8k):=by
 have G_agrees:FnOk P w K mg base CX0 1 f1 fd1 _ (spD R_agrees):=ok_agrees E_agrees T
 have G_word:FnOk P w K mg base CX0 2 f2 fd2 _ (spD R_word8):=ok_wordP E_word T E_sign_of
 refine VL.Fun.dok E_holds.F sc_holds (fun δ Qd h=>?_) (by decide) (fun cdv A outer s H E δ Qd hr h=>?_)
 ·obtain ⟨_,_,_,rfl,_⟩:=h;rfl
 ·obtain ⟨rules,n,ps,rfl,nd,hl,q⟩:=h
  have hu:=z4k hr
  refine ⟨_,(z0f (z0n (de_and (de_dinV hu (z0g z0j z0v (pv 0) z0d (fun _ _=>rfl)) (pv 1)) (de_one (z0s G_agrees (hr.mono (by decide)) rfl E_agrees.g E_agrees.F.kp E_agrees.b z0y (z0a (z9n hu (pv 1) (z0g z0j z0v (pv 0) z0d (fun _ _=>rfl))) (z0a (z0s G_word (hr.mono (by decide)) rfl E_word.g E_word.F.kp E_word.b z0y (z0a (z0g z0j z0v (pv 0) z0d (fun _ _=>rfl)) z0e)) z0e))))))),?_⟩
  have sz:=z0x
  simp only [pD]
  walk_at "vd"
  rw [getS_tabs nd]
  unfold okN at q
  cases hp:z3u rules n with
  |none =>
   rw [hp] at q
   rw [if_neg (by simp)]
   exact q
  |some p =>
   rw [hp] at q
   rw [if_pos (by simp)]
   refine ⟨_,rfl,ps,rfl,hl,?_⟩
   walk_at "vd"
   exact ⟨p,z2p ps,rfl,by simp [z2p];omega,q⟩
def R_look:RD:=fun δ Q=>∃ (root:Str) (rules:List (Str × Pat)),δ=[.fz (z3f root rules)]∧FormOk root rules∧Q false .non [.no]
theorem ok_look {f1 f2 f3 f4:Addr}{fd1 fd2 fd3 fd4:FuncData}(E_look:Ent K mg "look" s_look ["form"] f fd) (T:Zs K mg) (E_look_twice:Ent K mg "look_twice" s_look_twice ["rules"] f1 fd1) (E_look_names:Ent K mg "look_names" s_look_names ["root","rules"] f2 fd2) (E_signs:Ent K mg "signs" s_signs ["pattern"] f3 fd3) (E_patterns_within:Ent K mg "patterns_within" s_patterns_within ["pattern"] f4 fd4):FnOk P w K mg base CX0 25 f fd ["form"] (spD R_look):=by
 have G_look_twice:FnOk P w K mg base CX0 24 f1 fd1 _ (spD R_ltwice):=ok_ltwice E_look_twice T E_signs E_patterns_within
 have G_look_names:FnOk P w K mg base CX0 24 f2 fd2 _ (spD R_lnames):=ok_lnames E_look_names T E_signs E_patterns_within
 refine VL.Fun.dok E_look.F sc_look (fun δ Qd h=>?_) (by decide) (fun cdv A outer s H E δ Qd hr h=>?_)
 ·obtain ⟨_,_,rfl,_⟩:=h;rfl
 ·obtain ⟨root,rules,rfl,ok,q⟩:=h
  refine ⟨_,(z0b (z2i (z0s G_look_twice (hr.mono (by decide)) rfl E_look_twice.g E_look_twice.F.kp E_look_twice.b z0y (z0a (z0g z0j z0v (pv 0) z0d (fun _ _=>rfl)) z0e)))
   (z0f (z2i (z0s G_look_names (hr.mono (by decide)) rfl E_look_names.g E_look_names.F.kp E_look_names.b z0y (z0a (z0g z0j z0v (pv 0) z0d (fun _ _=>rfl)) (z0a (z0g z0j z0v (pv 0) z0d (fun _ _=>rfl)) z0e)))))),?_⟩
  rw [formD_eq]
  walk_at "vd"
  refine ⟨root,rules,rfl,ok,?_⟩
  walk_at "vd"
  exact ⟨root,rules,rfl,ok,q⟩
end
open PySem L2 VL
def seg (ws:List Str) (a e:Nat):List Str:=(ws.drop a).take (e - a)
theorem y1f {ws:List Str}{a e:Nat}(h:e≤ws.length):(seg ws a e).length=e - a:=by unfold seg;rw [List.length_take,List.length_drop];omega
theorem seg_app {ws:List Str}{a m e:Nat}(h1:a≤m) (h2:m≤e):seg ws a e=seg ws a m ++ seg ws m e:=by
 unfold seg
 have e1:e - a=(m - a)+(e - m):=by omega
 rw [e1,List.take_add,List.drop_drop]
 congr 3
 omega
theorem seg_cut {ws:List Str}{a e:Nat}(h1:a≤e) (h2:e≤ws.length) {u v:List Str}(h:seg ws a e=u ++ v):a+u.length≤e∧u=seg ws a (a+u.length)∧v=seg ws (a+u.length) e:=by
 have hl:=congrArg List.length h
 rw [y1f h2,List.length_append] at hl
 have hm:a+u.length≤e:=by omega
 have e2:=seg_app (ws:=ws) (a:=a) (m:=a+u.length) (e:=e) (by omega) hm
 rw [h] at e2
 have l1:u.length=(seg ws a (a+u.length)).length:=by rw [y1f (by omega)];omega
 obtain ⟨k1,k2⟩:=List.append_inj e2 l1
 exact ⟨hm,k1,k2⟩
def Rl (A:List Str→Prop) (ws:List Str) (a e:Nat):Prop:=a≤e∧e≤ws.length∧A (seg ws a e)
theorem y2k {ws:List Str}{a e:Nat}(ha:a≤ws.length):Rl (fun w=>w=[]) ws a e↔e=a:=by
 constructor
 ·rintro ⟨h1,h2,h3⟩
  have:=y1f (ws:=ws) (a:=a) h2
  rw [h3] at this
  simp at this
  omega
 ·rintro rfl
  exact ⟨Nat.le_refl _,ha,by simp [seg]⟩
theorem rl_one {ws:List Str}{s:Str}{a e:Nat}:Rl (fun w=>w=[s]) ws a e↔e=a+1∧(ws.drop a).take 1=[s]:=by
 constructor
 ·rintro ⟨h1,h2,h3⟩
  have:=y1f (ws:=ws) (a:=a) h2
  rw [h3] at this
  simp at this
  have e1:e=a+1:=by omega
  subst e1
  refine ⟨rfl,?_⟩
  unfold seg at h3
  rwa [show a+1 - a=1 by omega] at h3
 ·rintro ⟨rfl,h⟩
  have:=congrArg List.length h
  rw [List.length_take,List.length_drop] at this
  simp at this
  refine ⟨by omega,by omega,?_⟩
  unfold seg
  rwa [show a+1 - a=1 by omega]
theorem rl_cat {A B:List Str→Prop}{ws:List Str}{a e:Nat}:Rl (fun w=>∃ u v,w=u ++ v∧A u∧B v) ws a e↔∃ m,Rl A ws a m∧Rl B ws m e:=by
 constructor
 ·rintro ⟨h1,h2,u,v,h3,hu,hv⟩
  obtain ⟨k1,k2,k3⟩:=seg_cut h1 h2 h3
  exact ⟨a+u.length,⟨by omega,by omega,k2 ▸ hu⟩,k1,h2,k3 ▸ hv⟩
 ·rintro ⟨m,⟨h1,h2,h3⟩,k1,k2,k3⟩
  exact ⟨by omega,k2,_,_,seg_app h1 k1,h3,k3⟩
inductive Rch (A:List Str→Prop) (ws:List Str):Nat→Nat→Prop
 |refl (a:Nat):Rch A ws a a
 |step {a m e:Nat}:Rl A ws a m→Rch A ws m e→Rch A ws a e
theorem Rch.le {A:List Str→Prop}{ws:List Str}{a e:Nat}(h:Rch A ws a e):a≤ws.length→a≤e∧e≤ws.length:=by
 induction h with
 |refl a=>exact fun h=>⟨Nat.le_refl _,h⟩
 |step r _ ih=>intro _;obtain ⟨h1,h2⟩:=ih r.2.1;exact ⟨by have:=r.1;omega,h2⟩
theorem Rch.snoc {A:List Str→Prop}{ws:List Str}{a m e:Nat}(h:Rch A ws a m) (h':Rl A ws m e):Rch A ws a e:=by
 induction h with
 |refl a=>exact .step h' (.refl _)
 |step r _ ih=>exact .step r (ih h')
theorem star_rch {A:List Str→Prop}{ws w:List Str}(h:Star A w):∀ a e,a≤e→e≤ws.length→seg ws a e=w→Rch A ws a e:=by
 induction h with
 |nil =>
  intro a e h1 h2 h3
  have:=y1f (ws:=ws) (a:=a) h2
  rw [h3] at this
  simp at this
  have e1:e=a:=by omega
  subst e1
  exact .refl _
 | @app u v hu _ ih =>
  intro a e h1 h2 h3
  obtain ⟨k1,k2,k3⟩:=seg_cut h1 h2 h3
  exact .step ⟨by omega,by omega,k2 ▸ hu⟩ (ih (a+u.length) e k1 h2 k3.symm)
theorem rch_star {A:List Str→Prop}{ws:List Str}{a e:Nat}(h:Rch A ws a e):a≤ws.length→Star A (seg ws a e):=by
 induction h with
 |refl a=>intro _;simp only [seg,Nat.sub_self,List.take_zero];exact .nil
 |step r h ih =>
  intro _
  obtain ⟨k1,k2⟩:=h.le r.2.1
  rw [seg_app r.1 k1]
  exact .app r.2.2 (ih r.2.1)
theorem rl_star {A:List Str→Prop}{ws:List Str}{a e:Nat}(ha:a≤ws.length):Rl (Star A) ws a e↔Rch A ws a e :=
 ⟨fun ⟨h1,h2,h3⟩=>star_rch h3 a e h1 h2 rfl,fun h=>⟨(h.le ha).1,(h.le ha).2,rch_star h ha⟩⟩
theorem rl_plus {A:List Str→Prop}{ws:List Str}{a e:Nat}:Rl (fun w=>∃ u v,w=u ++ v∧A u∧Star A v) ws a e↔∃ m,Rl A ws a m∧Rch A ws m e:=by
 rw [rl_cat]
 constructor
 ·rintro ⟨m,h1,h2⟩;exact ⟨m,h1,(rl_star h1.2.1).mp h2⟩
 ·rintro ⟨m,h1,h2⟩;exact ⟨m,h1,(rl_star h1.2.1).mpr h2⟩
theorem nd_len:∀ (n:Nat) (l:List Nat),l.Nodup→(∀ x∈l,x < n)→l.length≤n
 |0,l,_,h=>by
  cases l with
  |nil=>exact Nat.le_refl _
  |cons a r=>exact absurd (h a List.mem_cons_self) (Nat.not_lt_zero _)
 |n+1,l,nd,h=>by
  have h1:=nd_len n (l.filter (· ≠ n)) (nd.sublist List.filter_sublist) fun x hx=>by
   obtain ⟨k1,k2⟩:=List.mem_filter.mp hx
   have:=h x k1
   simp at k2
   omega
  have h2:l.length≤(l.filter (· ≠ n)).length+1:=by
   clear h h1
   induction l with
   |nil=>simp
   |cons a r ih =>
    obtain ⟨na,nr⟩:=List.nodup_cons.mp nd
    by_cases e:a=n
    ·subst e
     have ef:r.filter (fun x=>!decide (x=a))=r:=List.filter_eq_self.mpr fun x hx=>by
      simp
      intro z;subst z;exact na hx
     simp [ef]
    ·have:=ih nr
     simp [e] at this ⊢
     omega
  omega
def EndsOf (A:List Str→Prop) (ws:List Str) (as es:List Nat):Prop:=es.Nodup∧∀ e,e∈es↔∃ a∈as,Rl A ws a e
theorem EndsOf.le {A:List Str→Prop}{ws:List Str}{as es:List Nat}(h:EndsOf A ws as es):∀ e∈es,e≤ws.length:=fun e he=>by
 obtain ⟨a,_,r⟩:=(h.2 e).mp he;exact r.2.1
def natD (as:List Nat):List D:=as.map fun (a:Nat)=>D.int (a:Int)
def nl (as:List Nat):List Int:=as.map fun (a:Nat)=>(a:Int)
theorem natD_nl (as:List Nat):natD as=(nl as).map .int:=by simp [natD,nl]
theorem nl_mem {a:Nat}{as:List Nat}:(a:Int)∈nl as↔a∈as:=by
 unfold nl
 rw [List.mem_map]
 constructor
 ·rintro ⟨x,h,e⟩;have:x=a:=by omega
  exact this ▸ h
 ·intro h;exact ⟨a,h,rfl⟩
theorem z5e (as:List Nat):(natD as).length=as.length:=by simp [natD]
theorem compF {α:Type}(f g:α→D) (c:α→Bool) (xs:List α) {tc:TTd}{te:TEd}{Q:Bool→D→List VL.Slot→Prop}{δ:List VL.Slot}(hl:xs.length≤sizeLine)
  (hc:∀ x∈xs,∀ P:Bool→List VL.Slot→Prop,P (c x) (.fz (f x)::δ)→tc (.fz (f x)::δ) P)
  (h:∀ x∈xs,c x=true→∀ P:D→List VL.Slot→Prop,P (g x) (.fz (f x)::δ)→te (.fz (f x)::δ) fun _ y δ'=>P y δ') (q:Q true (.lst ((xs.filter c).map g)) δ):CompD 1 (xs.map f) (dgN 0) tc te Q δ:=by
 refine ⟨fun r acc δ1=>δ1=δ∧∃ pre suf,xs=pre ++ suf∧r=suf.map f∧acc=(pre.filter c).map g,⟨rfl,[],xs,rfl,rfl,rfl⟩,?_,?_⟩
 ·rintro d r acc δ1 ⟨rfl,pre,suf,e,er,rfl⟩
  cases suf with
  |nil=>cases er
  |cons x suf =>
   cases er
   refine ⟨trivial,?_⟩
   have hx:x∈xs:=by rw [e];simp
   have hlen:pre.length < sizeLine:=by rw [e] at hl;simp at hl;omega
   refine hc x hx _ ?_
   cases hcx:c x with
   |false =>
    rw [if_neg Bool.false_ne_true]
    exact ⟨rfl,pre ++ [x],suf,by rw [e];simp,rfl,by simp [List.filter_append,hcx]⟩
   |true =>
    rw [if_pos rfl]
    refine h x hx hcx _ ⟨?_,rfl,pre ++ [x],suf,by rw [e];simp,rfl,by simp [List.filter_append,hcx]⟩
    have:=List.length_filter_le c pre
    simp;omega
 ·rintro acc δ1 ⟨rfl,pre,suf,e,er,rfl⟩
  have es:suf=[]:=by simpa using er.symm
  subst es
  simp at e
  subst e
  exact q
open PySem L2 VL Pap
theorem y2i:∀ (ps:List Pat) (c:Pat) (u v:List Str),z9l ps u→Lang c v→z9l (ps ++ [c]) (u ++ v)
 | [],c,u,v,h,h'=>by
  cases (show u=[] from h)
  exact ⟨v,[],by simp,h',rfl⟩
 |p::ps,c,u,v,h,h'=>by
  obtain ⟨u1,u2,rfl,h1,h2⟩:=h
  exact ⟨u1,u2 ++ v,by simp,h1,y2i ps c u2 v h2 h'⟩
theorem cut_one {ws:List Str}{a:Nat}(h:a≤ws.length):cutD (ws.map .str) (some (a:Int)) (some ((a:Int)+1))=((ws.drop a).take 1).map .str:=by
 have e:((a:Int)+1)=((a+1:Nat):Int):=by omega
 rw [e]
 unfold cutD
 rw [HT.sIx_nat,HT.sIx_nat,List.length_map,Nat.min_eq_left h,← List.map_drop,← List.map_take]
 by_cases hl:a+1≤ws.length
 ·rw [Nat.min_eq_left hl,show a+1 - a=1 by omega]
 ·have:ws.drop a=[]:=List.drop_of_length_le (by omega)
  rw [this];simp
theorem LangR_app (ps:List Pat) (c:Pat):z9l (ps ++ [c])=fun w=>∃ u v,w=u ++ v∧z9l ps u∧Lang c v:=by
 funext w
 apply propext
 constructor
 ·intro h
  induction ps generalizing w with
  |nil =>
   obtain ⟨u,v,rfl,h1,h2⟩:=h
   cases (show v=[] from h2)
   exact ⟨[],u,by simp,rfl,h1⟩
  |cons p ps ih =>
   obtain ⟨u,v,rfl,h1,h2⟩:=h
   obtain ⟨u',v',rfl,k1,k2⟩:=ih v h2
   exact ⟨u ++ u',v',by simp,⟨u,u',rfl,h1,k1⟩,k2⟩
 ·rintro ⟨u,v,rfl,h1,h2⟩
  exact y2i ps c u v h1 h2
theorem z7u (c:Pat) (w:List Str):∀ ps:List Pat,y0q (ps ++ [c]) w↔y0q ps w∨Lang c w
 | []=>by simp [y0q]
 |p::ps=>by simp only [List.cons_append,y0q,z7u c w ps,or_assoc]
def addN (es fs:List Nat):List Nat:=es ++ fs.filter (fun a=>!decide (a∈es))
theorem addN_nd {es fs:List Nat}(h1:es.Nodup) (h2:fs.Nodup):(addN es fs).Nodup:=by
 refine List.nodup_append.mpr ⟨h1,h2.sublist List.filter_sublist,fun a ha b hb e=>?_⟩
 have:=(List.mem_filter.mp hb).2
 rw [← e] at this
 simp at this
 exact this ha
theorem addN_mem {es fs:List Nat}{e:Nat}:e∈addN es fs↔e∈es∨e∈fs:=by
 unfold addN
 rw [List.mem_append,List.mem_filter]
 by_cases h:e∈es <;> simp [h]
theorem addN_D (es fs:List Nat):natD es ++ List.map (fun (a:Nat)=>D.int (a:Int)) (List.filter (fun a=>!decide (a∈es)) fs)=natD (addN es fs):=by simp [natD,addN]
section
variable {P:Program}{w:World}{K:PySem.W.Frag}{mg:Str→Option Value}{base:Heap}{f:Addr}{fd:FuncData}
def R_ends (n:Nat):RD:=fun δ Q=>∃ (p:Pat) (ws:List Str) (as:List Nat),δ=[.fz (patD p),.fz (.lst (ws.map .str)),.fz (.lst (natD as))]∧dpP p < n∧szP p≤100∧ws.length≤1000000∧as.Nodup∧(∀ a∈as,a≤ws.length) ∧
 ∀ (b:Bool) (es:List Nat),EndsOf (Lang p) ws as es→Q b (.lst (natD es)) [.no,.no,.no]
theorem notInN (x:Nat) (l:List Nat) {Q:Bool→D→Prop}(h:Q false (.bl (!decide (x∈l)))):fNotInI (.int (x:Int)) (.lst (natD l)) Q:=⟨_,nl l,rfl,by rw [natD_nl],by
 have e:decide ((x:Int)∈nl l)=decide (x∈l):=by rw [Bool.eq_iff_iff];simp [nl_mem]
 rw [e];exact h⟩
def lenS:VL.Slot→Nat
 |.fz (.lst xs)=>xs.length
 |.ob _ (.lst xs)=>xs.length
 |_=>0
def muE:List VL.Slot→Nat
 | [_,_,_,s3,s4]=>2 * (1000002 - lenS s3)+(if lenS s4=0 then 0 else 1)
 |_=>0
structure Cl (A:List Str→Prop) (ws:List Str) (f1 found later:List Nat):Prop where
 nd:found.Nodup
 le:∀ x∈found,x≤ws.length
 nl:later.Nodup
 sub:∀ x∈later,x∈found
 st:∀ x∈f1,x∈found
 sd:∀ e∈found,∃ s∈f1,Rch A ws s e
 cl:∀ x∈found,x∉later→∀ e,Rl A ws x e→e∈found
theorem Cl.step {A:List Str→Prop}{ws:List Str}{f1 found later ms:List Nat}(h:Cl A ws f1 found later) (hm:EndsOf A ws later ms):Cl A ws f1 (addN found ms) (ms.filter fun a=>!decide (a∈found)) where
 nd:=addN_nd h.nd hm.1
 le:=fun x hx=>by
  rcases addN_mem.mp hx with hx|hx
  ·exact h.le x hx
  ·exact hm.le x hx
 nl:=hm.1.sublist List.filter_sublist
 sub:=fun x hx=>addN_mem.mpr (.inr (List.mem_filter.mp hx).1)
 st:=fun x hx=>addN_mem.mpr (.inl (h.st x hx))
 sd:=fun e he=>by
  rcases addN_mem.mp he with he|he
  ·exact h.sd e he
  ·obtain ⟨x,hx,r⟩:=(hm.2 e).mp he
   obtain ⟨s,hs,rs⟩:=h.sd x (h.sub x hx)
   exact ⟨s,hs,rs.snoc r⟩
 cl:=fun x hx hn e r=>by
  have hx':x∈found:=by
   rcases addN_mem.mp hx with hx|hx
   ·exact hx
   ·by_cases z:x∈found
    ·exact z
    ·exact absurd (List.mem_filter.mpr ⟨hx,by simpa using z⟩) hn
  by_cases z:x∈later
  ·exact addN_mem.mpr (.inr ((hm.2 e).mpr ⟨x,z,r⟩))
  ·exact addN_mem.mpr (.inl (h.cl x hx' z e r))
theorem Cl.fin {A:List Str→Prop}{ws:List Str}{f1 found:List Nat}(h:Cl A ws f1 found []) (e:Nat):e∈found↔∃ s∈f1,Rch A ws s e:=by
 refine ⟨h.sd e,?_⟩
 rintro ⟨s,hs,r⟩
 have key:∀ {s e:Nat},Rch A ws s e→s∈found→e∈found:=fun r=>by
  induction r with
  |refl a=>exact id
  |step r _ ih=>exact fun hs=>ih (h.cl _ hs (by simp) _ r)
 exact key r (h.st s hs)
def R_more (n:Nat):RD:=fun δ Q=>∃ (p:Pat) (ws:List Str) (f1:List Nat),δ=[.fz (patD p),.fz (.lst (ws.map .str)),.fz (.lst (natD f1))]∧dpP p < n∧szP p≤100∧ws.length≤1000000∧f1.Nodup∧(∀ a∈f1,a≤ws.length) ∧
 ∀ (b:Bool) (es:List Nat),es.Nodup→(∀ e,e∈es↔∃ s∈f1,Rch (Lang p) ws s e)→Q b (.lst (natD es)) [.no,.no,.no]
theorem ok_more {n:Nat}{f1:Addr}{fd1:FuncData}(E__law_more:Ent K mg "_law_more" s__law_more ["_law_pattern_here","_law_signs_met","_law_starts"] f fd) (T:Zs K mg) (E__law_ends:Ent K mg "_law_ends" s__law_ends ["_law_pattern_here","_law_signs_met","_law_starts"] f1 fd1) (G__law_ends:FnOk P w K mg base CX0 (2 * n+1) f1 fd1 ["_law_pattern_here","_law_signs_met","_law_starts"] (spD (R_ends n))):FnOk P w K mg base CX0 (2 * n+2) f fd ["_law_pattern_here","_law_signs_met","_law_starts"] (spD (R_more n)):=by
 refine VL.Fun.dok E__law_more.F sc__law_more (fun δ Qd h=>?_) (by decide) (fun cdv A outer s H E δ Qd hr h=>?_)
 ·obtain ⟨_,_,_,rfl,_⟩:=h;rfl
 ·obtain ⟨p,ws,f1,rfl,hdp,hsz,hws,h1,h2,h⟩:=h
  have hu:=z4k hr
  refine ⟨_,(z0b (z0p (i:=3) sc__law_more.nd rfl (Or.inr rfl) (z4w cs_list z4j rfl T.z_list PyProof.Rows.boot_list (z0a (dv 2) z0e)))
   (z0b (z0p (i:=4) sc__law_more.nd rfl (Or.inl rfl) (z4w cs_list z4j rfl T.z_list PyProof.Rows.boot_list (z0a (dv 2) z0e)))
   (z0b (ds_while PassesOwn.never (dt_cmpV (os_neL hu) y2a (pv 4) (z1f z0e) (z1a _)) (z0b (y0d (j:=4) ["_law_end"] ["_law_pattern_here","_law_signs_met","_law_starts","_law_found","_law_ahead"] sc__law_more.nd rfl rfl rfl (show CScopeG (z0c s__law_more) ["_law_pattern_here","_law_signs_met","_law_starts","_law_found","_law_ahead"] ["_law_end"] _ _ from ⟨rfl,by decide +kernel,by decide +kernel,by decide +kernel,by decide +kernel⟩) (z1l (z0s G__law_ends (hr.mono (by omega)) rfl E__law_ends.g E__law_ends.F.kp E__law_ends.b z0y (z0a (dv 0) (z0a (dv 1) (z0a (dv 4) z0e))))) (fun _ _ _ _ _=>(z1s (i:=0) (by decide) (show List.Nodup (["_law_end","_law_pattern_here","_law_signs_met","_law_starts","_law_found","_law_ahead"]:List Str) from by decide +kernel) rfl (Or.inl rfl))) (fun _ _ _ _ _=>(y0y (dt_cmpW y0u z3k (dv 0) (pv 4) rfl))) (fun _ _ _ _ _=>(dv 0)))
   (z0f (z0p (i:=3) sc__law_more.nd rfl (Or.inr rfl) (z0m z3n z3i (dv 3) (dv 4))))))
   (z0f (z0n (dm 3)))))),?_⟩
  have sz:=z0x
  have lb:∀ l:List Nat,l.Nodup→(∀ x∈l,x≤ws.length)→l.length≤1000001:=fun l h1 h2=>by
   have:=nd_len (ws.length+1) l h1 fun x hx=>by have:=h2 x hx;omega
   omega
  walk_at "vd"
  refine ⟨[],fun δ=>∃ b b2 found later,Cl (Lang p) ws f1 found later∧δ=[.fz (patD p),.fz (.lst (ws.map .str)),.fz (.lst (natD f1)),rsl b (.lst (natD found)),rsl b2 (.lst (natD later))],muE,⟨true,true,f1,f1,⟨h1,h2,h1,fun _ h=>h,fun _ h=>h,fun e he=>⟨e,he,.refl _⟩,fun x hx hn=>absurd hx hn⟩,rfl⟩,?_⟩
  rintro δ ⟨b,b2,found,later,hc,rfl⟩
  have fl:=lb found hc.nd hc.le
  have ll:=lb later hc.nl fun x hx=>hc.le x (hc.sub x hx)
  cases b <;> cases b2 <;> walk_at "vd" <;> refine ⟨by omega,?_⟩
  all_goals
   by_cases hl:later=[]
   ·subst hl
    rw [if_neg (by simp [natD])]
    first|exact h false found hc.nd hc.fin|exact h true found hc.nd hc.fin
   ·rw [if_pos (by cases later with|nil=>exact absurd rfl hl|cons a r=>rfl)]
    refine ⟨p,ws,later,rfl,hdp,hsz,hws,hc.nl,fun x hx=>hc.le x (hc.sub x hx),fun b ms hm=>?_⟩
    walk_at "vd"
    have ml:=lb ms hm.1 hm.le
    have nw:=hc.step hm
    have nwl:=lb _ nw.nd nw.le
    have mfl:=List.length_filter_le (fun a=>!decide (a∈found)) ms
    have al:(addN found ms).length=found.length+(ms.filter fun a=>!decide (a∈found)).length:=by simp [addN]
    refine compF (fun (a:Nat)=>D.int (a:Int)) (fun (a:Nat)=>D.int (a:Int)) (fun a=>!decide (a∈found)) ms (by omega) (fun a ha Pq hP=>?_) (fun a ha _ Pq hP=>?_) ?_
    ·walk_at "vd"
     refine notInN _ _ ?_
     walk_at "vd"
     exact hP
    ·walk_at "vd"
     exact hP
    ·walk_at "vd"
     refine ⟨by rw [z5e,List.length_map];omega,⟨true,false,addN found ms,ms.filter fun a=>!decide (a∈found),nw,by rw [addN_D];rfl⟩,?_⟩
     have hl0:later.length≠0:=fun z=>hl (List.length_eq_zero_iff.mp z)
     simp only [muE,lenS,List.length_append,z5e,List.length_map]
     rw [if_neg hl0]
     split <;> omega
theorem ok_ends {f1:Addr}{fd1:FuncData}(E__law_ends:Ent K mg "_law_ends" s__law_ends ["_law_pattern_here","_law_signs_met","_law_starts"] f fd) (T:Zs K mg) (E__law_more:Ent K mg "_law_more" s__law_more ["_law_pattern_here","_law_signs_met","_law_starts"] f1 fd1):∀ n,FnOk P w K mg base CX0 (2 * n+1) f fd ["_law_pattern_here","_law_signs_met","_law_starts"] (spD (R_ends n)):=by
 intro n
 induction n with
 |zero=>exact z3y fun δ Q h=>by obtain ⟨_,_,_,_,h,_⟩:=h;exact Nat.not_lt_zero _ h
 |succ n G__law_ends =>
 have G__law_more:FnOk P w K mg base CX0 (2 * n+2) f1 fd1 _ (spD (R_more n)):=ok_more E__law_more T E__law_ends G__law_ends
 rw [show 2 * (n+1)+1=(2 * n+2)+1 by omega]
 refine VL.Fun.dok E__law_ends.F sc__law_ends (fun δ Qd h=>?_) (by decide) (fun cdv A outer s H E δ Qd hr h=>?_)
 ·obtain ⟨_,_,_,rfl,_⟩:=h;rfl
 ·obtain ⟨p,ws,as,rfl,hdp,hsz,hws,nd,ale,q⟩:=h
  have hu:=z4k hr
  refine ⟨_,(z0b (z1m (z1c z3d z3a (z0g z0j z0v (pv 0) z0d (fun _ _=>rfl)) z0z (z1a _)) (z0f (z0n (z4w cs_list z4j rfl T.z_list PyProof.Rows.boot_list (z0a (dv 2) z0e)))) z0t)
   (z0b (z1m (z1c z3d z3a (z0g z0j z0v (pv 0) z0d (fun _ _=>rfl)) z0z (z1a _)) (z0f (z0n (z3v ["_law_at"] ["_law_pattern_here","_law_signs_met","_law_starts","_law_one","_law_found"] rfl (show CScopeG (z0c s__law_ends) ["_law_pattern_here","_law_signs_met","_law_starts","_law_one","_law_found"] ["_law_at"] _ _ from ⟨rfl,by decide +kernel,by decide +kernel,by decide +kernel,by decide +kernel⟩) (z1l (dv 2)) (fun _ _ _ _ _=>(z1s (i:=0) (by decide) (show List.Nodup (["_law_at","_law_pattern_here","_law_signs_met","_law_starts","_law_one","_law_found"]:List Str) from by decide +kernel) rfl (Or.inl rfl))) (fun _ _ _ _ _=>(y0y (z1c (os_eqS hu) op_eq_strs (z2w (pv 2) (z3h (dv 0)) (z3h (z0m z2h z2n (dv 0) z0d))) (z1f (z0a (z0g z0j z0v (pv 1) z0d (fun _ _=>rfl)) z0e)) (z1a _)))) (fun _ _ _ _ _=>(z0m z2h z2n (dv 0) z0d))))) z0t)
   (z0b (z1m (z1c z3d z3a (z0g z0j z0v (pv 0) z0d (fun _ _=>rfl)) z0z (z1a _)) (z0b (z2t PassesOwn.never rfl (z1l (z0g z0j z0v (pv 0) z0d (fun _ _=>rfl))) (z1n (i:=3) sc__law_ends.nd rfl (Or.inl rfl)) (z0f (z0p (i:=2) sc__law_ends.nd rfl (Or.inl rfl) (z0s G__law_ends (hr.mono (by omega)) rfl E__law_ends.g E__law_ends.F.kp E__law_ends.b z0y (z0a (dv 3) (z0a (dv 1) (z0a (dv 2) z0e)))))))
   (z0f (z0n (dm 2)))) z0t)
   (z0b (z1m (z1c z3d z3a (z0g z0j z0v (pv 0) z0d (fun _ _=>rfl)) z0z (z1a _)) (z0b (z0p (i:=4) sc__law_ends.nd rfl (Or.inr rfl) (z1f z0e))
   (z0b (z2t PassesOwn.never rfl (z1l (z0g z0j z0v (pv 0) z0d (fun _ _=>rfl))) (z1n (i:=3) sc__law_ends.nd rfl (Or.inl rfl)) (z0f (z0p (i:=4) sc__law_ends.nd rfl (Or.inr rfl) (z0m z3n z3i (dv 4) (z3v ["_law_end"] ["_law_pattern_here","_law_signs_met","_law_starts","_law_one","_law_found"] rfl (show CScopeG (z0c s__law_ends) ["_law_pattern_here","_law_signs_met","_law_starts","_law_one","_law_found"] ["_law_end"] _ _ from ⟨rfl,by decide +kernel,by decide +kernel,by decide +kernel,by decide +kernel⟩) (z1l (z0s G__law_ends (hr.mono (by omega)) rfl E__law_ends.g E__law_ends.F.kp E__law_ends.b z0y (z0a (dv 3) (z0a (dv 1) (z0a (dv 2) z0e))))) (fun _ _ _ _ _=>(z1s (i:=0) (by decide) (show List.Nodup (["_law_end","_law_pattern_here","_law_signs_met","_law_starts","_law_one","_law_found"]:List Str) from by decide +kernel) rfl (Or.inl rfl))) (fun _ _ _ _ _=>(y0y (dt_cmpW y0u z3k (dv 0) (pv 5) rfl))) (fun _ _ _ _ _=>(dv 0)))))))
   (z0f (z0n (dm 4))))) z0t)
   (z0b (z1m (z1c z3d z3a (z0g z0j z0v (pv 0) z0d (fun _ _=>rfl)) z0z (z1a _)) (z0b (z0p (i:=4) sc__law_ends.nd rfl (Or.inr rfl) (z0s G__law_ends (hr.mono (by omega)) rfl E__law_ends.g E__law_ends.F.kp E__law_ends.b z0y (z0a (z0g z0j z0v (pv 0) z0d (fun _ _=>rfl)) (z0a (dv 1) (z0a (dv 2) z0e)))))
   (z0f (z0n (z0m z3n z3i (dv 4) (z3v ["_law_at"] ["_law_pattern_here","_law_signs_met","_law_starts","_law_one","_law_found"] rfl (show CScopeG (z0c s__law_ends) ["_law_pattern_here","_law_signs_met","_law_starts","_law_one","_law_found"] ["_law_at"] _ _ from ⟨rfl,by decide +kernel,by decide +kernel,by decide +kernel,by decide +kernel⟩) (z1l (dv 2)) (fun _ _ _ _ _=>(z1s (i:=0) (by decide) (show List.Nodup (["_law_at","_law_pattern_here","_law_signs_met","_law_starts","_law_one","_law_found"]:List Str) from by decide +kernel) rfl (Or.inl rfl))) (fun _ _ _ _ _=>(y0y (dt_cmpW y0u z3k (dv 0) (pv 5) rfl))) (fun _ _ _ _ _=>(dv 0))))))) z0t)
   (z0b (z1m (z1c z3d z3a (z0g z0j z0v (pv 0) z0d (fun _ _=>rfl)) z0z (z1a _)) (z0f (z0n (z0s G__law_more (hr.mono (by omega)) rfl E__law_more.g E__law_more.F.kp E__law_more.b z0y (z0a (z0g z0j z0v (pv 0) z0d (fun _ _=>rfl)) (z0a (dv 1) (z0a (dv 2) z0e)))))) z0t)
   (z0f (z0n (z0s G__law_more (hr.mono (by omega)) rfl E__law_more.g E__law_more.F.kp E__law_more.b z0y (z0a (z0g z0j z0v (pv 0) z0d (fun _ _=>rfl)) (z0a (dv 1) (z0a (z0s G__law_ends (hr.mono (by omega)) rfl E__law_ends.g E__law_ends.F.kp E__law_ends.b z0y (z0a (z0g z0j z0v (pv 0) z0d (fun _ _=>rfl)) (z0a (dv 1) (z0a (dv 2) z0e)))) z0e)))))))))))),?_⟩
  have sz:=z0x
  have lb:∀ l:List Nat,l.Nodup→(∀ x∈l,x≤ws.length)→l.length≤1000001:=fun l h1 h2=>by
   have:=nd_len (ws.length+1) l h1 fun x hx=>by have:=h2 x hx;omega
   omega
  have al:=lb as nd ale
  have notIn:∀ (x:Nat) (l:List Nat) {Q:Bool→D→Prop},Q false (.bl (!decide (x∈l)))→fNotInI (.int (x:Int)) (.lst (natD l)) Q:=fun x l Q h=>⟨_,nl l,rfl,by rw [natD_nl],by
   have e:decide ((x:Int)∈nl l)=decide (x∈l):=by rw [Bool.eq_iff_iff];simp [nl_mem]
   rw [e];exact h⟩
  cases p with
  |none =>
   simp only [patD]
   walk_at "vd"
   refine q _ as ⟨nd,fun e=>?_⟩
   constructor
   ·intro h;exact ⟨e,h,(y2k (ale e h)).mpr rfl⟩
   ·rintro ⟨a,h,r⟩;rw [(y2k (ale a h)).mp r];exact h
  |one s =>
   simp only [patD]
   walk_at "vd"
   rw [if_neg (by decide)]
   refine compF (fun (a:Nat)=>D.int (a:Int)) (fun (a:Nat)=>D.int ((a:Int)+1)) (fun a=>decide ((ws.drop a).take 1=[s])) as (by omega) (fun a ha Pq hP=>?_) (fun a ha _ Pq hP=>?_) ?_
   ·walk_at "vd"
    rw [cut_one (ale a ha)]
    exact ⟨by omega,_,[s],rfl,rfl,hP⟩
   ·walk_at "vd"
    exact hP
   ·walk_at "vd"
    have e:List.map (fun (a:Nat)=>D.int ((a:Int)+1)) (List.filter (fun a=>decide (List.take 1 (List.drop a ws)=[s])) as)=natD ((as.filter fun a=>decide (List.take 1 (List.drop a ws)=[s])).map (· + 1)):=by simp [natD]
    rw [e]
    refine q _ _ ⟨?_,fun e=>?_⟩
    ·exact (List.Pairwise.map _ (fun a b h=>by omega) (nd.sublist List.filter_sublist))
    ·rw [List.mem_map]
     constructor
     ·rintro ⟨a,h,rfl⟩
      obtain ⟨h1,h2⟩:=List.mem_filter.mp h
      exact ⟨a,h1,rl_one.mpr ⟨rfl,by simpa using h2⟩⟩
     ·rintro ⟨a,h,r⟩
      obtain ⟨k1,k2⟩:=rl_one.mp r
      exact ⟨a,List.mem_filter.mpr ⟨h,by simpa using k2⟩,k1.symm⟩
  |row ps =>
   simp only [patD]
   simp only [dpP,szP] at hdp hsz
   have pl:=z4h ps
   walk_at "vd"
   rw [if_neg (by decide),if_neg (by decide)]
   refine z4v [3] (fun r δ=>∃ pre suf es b,ps=pre ++ suf∧r=z1k suf∧EndsOf (z9l pre) ws as es∧δ=[.fz (.tup [.str "row",.lst (z1k ps)]),.fz (.lst (ws.map .str)),rsl b (.lst (natD es)),.no,.no]) ⟨[],ps,as,false,rfl,rfl,⟨nd,fun e=>?_⟩,rfl⟩ ?_ ?_
   ·constructor
    ·intro h;exact ⟨e,h,(y2k (ale e h)).mpr rfl⟩
    ·rintro ⟨a,h,r⟩;rw [(y2k (ale a h)).mp r];exact h
   ·rintro d r δ ⟨pre,suf,es,b,e1,e2,he,rfl⟩
    cases suf with
    |nil=>cases e2
    |cons c suf =>
     cases e2
     have hc:c∈ps:=by rw [e1];simp
     have d1:=z3q hc
     have z1:=z5f hc
     have key:∀ fs,EndsOf (Lang c) ws es fs→EndsOf (z9l (pre ++ [c])) ws as fs:=fun fs hf=>⟨hf.1,fun e=>by
      rw [hf.2]
      constructor
      ·rintro ⟨m,hm,rm⟩
       obtain ⟨a,ha,ra⟩:=(he.2 m).mp hm
       refine ⟨a,ha,?_⟩
       rw [LangR_app]
       exact rl_cat.mpr ⟨m,ra,rm⟩
      ·rintro ⟨a,ha,ra⟩
       rw [LangR_app] at ra
       obtain ⟨m,r1,r2⟩:=rl_cat.mp ra
       exact ⟨m,(he.2 m).mpr ⟨a,ha,r1⟩,r2⟩⟩
     cases b <;> walk_at "vd"
     all_goals
      refine ⟨c,ws,es,rfl,by omega,by omega,hws,he.1,he.le,fun b fs hf=>?_⟩
      walk_at "vd"
      exact ⟨pre ++ [c],suf,fs,b,by simp [e1],rfl,key fs hf,rfl⟩
   ·rintro δ ⟨pre,suf,es,b,e1,e2,he,rfl⟩
    cases suf with
    |cons c suf=>cases e2
    |nil =>
     rw [List.append_nil] at e1
     subst e1
     cases b <;> walk_at "vd" <;> exact q _ es he
  |any ps =>
   simp only [patD]
   simp only [dpP,szP] at hdp hsz
   walk_at "vd"
   rw [if_neg (by decide),if_neg (by decide),if_neg (by decide)]
   refine ⟨by omega,z4v [3] (fun r δ=>∃ pre suf es,ps=pre ++ suf∧r=z1k suf∧EndsOf (y0q pre) ws as es∧δ=[.fz (.tup [.str "any",.lst (z1k ps)]),.fz (.lst (ws.map .str)),.fz (.lst (natD as)),.no,.ob false (.lst (natD es))]) ⟨[],ps,[],rfl,rfl,⟨List.nodup_nil,fun e=>?_⟩,rfl⟩ ?_ ?_⟩
   ·constructor
    ·intro h;cases h
    ·rintro ⟨a,_,_,_,z⟩;exact z.elim
   ·rintro d r δ ⟨pre,suf,es,e1,e2,he,rfl⟩
    cases suf with
    |nil=>cases e2
    |cons c suf =>
     cases e2
     have hc:c∈ps:=by rw [e1];simp
     have d1:=z3q hc
     have z1:=z5f hc
     walk_at "vd"
     refine ⟨c,ws,as,rfl,by omega,by omega,hws,nd,ale,fun b fs hf=>?_⟩
     cases b <;> walk_at "vd"
     all_goals
      have fl:=lb fs hf.1 hf.le
      have el:=lb es he.1 he.le
      refine compF (fun (a:Nat)=>D.int (a:Int)) (fun (a:Nat)=>D.int (a:Int)) (fun a=>!decide (a∈es)) fs (by omega) (fun a ha Pq hP=>?_) (fun a ha _ Pq hP=>?_) ?_
      ·walk_at "vd"
       refine notIn _ _ ?_
       walk_at "vd"
       exact hP
      ·walk_at "vd"
       exact hP
      ·walk_at "vd"
       have fl2:=List.length_filter_le (fun a=>!decide (a∈es)) fs
       refine ⟨by rw [z5e,List.length_map];omega,pre ++ [c],suf,addN es fs,by simp [e1],rfl,⟨addN_nd he.1 hf.1,fun e=>?_⟩,by rw [addN_D]⟩
       rw [addN_mem,he.2,hf.2]
       constructor
       ·rintro (⟨a,ha,h1,h2,h3⟩|⟨a,ha,h1,h2,h3⟩)
        ·exact ⟨a,ha,h1,h2,(z7u c _ pre).mpr (.inl h3)⟩
        ·exact ⟨a,ha,h1,h2,(z7u c _ pre).mpr (.inr h3)⟩
       ·rintro ⟨a,ha,h1,h2,h3⟩
        rcases (z7u c _ pre).mp h3 with h3|h3
        ·exact .inl ⟨a,ha,h1,h2,h3⟩
        ·exact .inr ⟨a,ha,h1,h2,h3⟩
   ·rintro δ ⟨pre,suf,es,e1,e2,he,rfl⟩
    cases suf with
    |cons c suf=>cases e2
    |nil =>
     walk_at "vd"
     rw [List.append_nil] at e1
     subst e1
     exact q _ es he
  |wrap k p =>
   simp only [dpP,szP] at hdp hsz
   cases k with
   |maybe =>
    simp only [patD,Wk.str]
    walk_at "vd"
    rw [if_neg (by decide),if_neg (by decide),if_neg (by decide),if_neg (by decide)]
    refine ⟨p,ws,as,rfl,by omega,by omega,hws,nd,ale,fun b0 fs hf=>?_⟩
    cases b0 <;> walk_at "vd"
    all_goals
     have fl:=lb fs hf.1 hf.le
     refine compF (fun (a:Nat)=>D.int (a:Int)) (fun (a:Nat)=>D.int (a:Int)) (fun a=>!decide (a∈fs)) as (by omega) (fun a ha Pq hP=>?_) (fun a ha _ Pq hP=>?_) ?_
     ·walk_at "vd"
      refine notIn _ _ ?_
      walk_at "vd"
      exact hP
     ·walk_at "vd"
      exact hP
     ·walk_at "vd"
      have fl2:=List.length_filter_le (fun a=>!decide (a∈fs)) as
      rw [addN_D]
      refine ⟨by rw [z5e,List.length_map];omega,q _ _ ⟨addN_nd hf.1 nd,fun e=>?_⟩⟩
      rw [addN_mem,hf.2]
      constructor
      ·rintro (⟨a,ha,h1,h2,h3⟩|h)
       ·exact ⟨a,ha,h1,h2,.inr h3⟩
       ·obtain ⟨k1,k2,k3⟩:=(y2k (ale e h)).mpr rfl
        exact ⟨e,h,k1,k2,.inl k3⟩
      ·rintro ⟨a,ha,h1,h2,h3⟩
       rcases h3 with h3|h3
       ·exact .inr ((y2k (ale a ha)).mp ⟨h1,h2,h3⟩ ▸ ha)
       ·exact .inl ⟨a,ha,h1,h2,h3⟩
   |many =>
    simp only [patD,Wk.str]
    walk_at "vd"
    rw [if_neg (by decide),if_neg (by decide),if_neg (by decide),if_neg (by decide),if_neg (by decide)]
    refine ⟨p,ws,as,rfl,by omega,by omega,hws,nd,ale,fun b es h1 h2=>?_⟩
    refine q _ es ⟨h1,fun e=>?_⟩
    rw [h2]
    constructor
    ·rintro ⟨s,hs,r⟩;exact ⟨s,hs,(rl_star (ale s hs)).mpr r⟩
    ·rintro ⟨a,ha,ra⟩;exact ⟨a,ha,(rl_star (ale a ha)).mp ra⟩
   |some =>
    simp only [patD,Wk.str]
    walk_at "vd"
    rw [if_neg (by decide),if_neg (by decide),if_neg (by decide),if_neg (by decide),if_neg (by decide),if_neg (by decide)]
    refine ⟨p,ws,as,rfl,by omega,by omega,hws,nd,ale,fun b0 fs hf=>?_⟩
    refine ⟨p,ws,fs,rfl,by omega,by omega,hws,hf.1,hf.le,fun b es h1 h2=>?_⟩
    refine q _ es ⟨h1,fun e=>?_⟩
    rw [h2]
    constructor
    ·rintro ⟨s,hs,r⟩
     obtain ⟨a,ha,ra⟩:=(hf.2 s).mp hs
     exact ⟨a,ha,rl_plus.mpr ⟨s,ra,r⟩⟩
    ·rintro ⟨a,ha,ra⟩
     obtain ⟨m,r1,r2⟩:=rl_plus.mp ra
     exact ⟨m,(hf.2 m).mpr ⟨a,ha,r1⟩,r2⟩
end
open PySem L2 VL Pap
mutual
def flt1 (rules:List (Str × Pat)) (path:List Nat):Part→List (List Nat)
 |.txt _=>[]
 |.tup n ps=>(if okN rules n (z2p ps)=true then [] else [path]) ++ fltL rules path 0 ps
def fltL (rules:List (Str × Pat)) (path:List Nat) (k:Nat):List Part→List (List Nat)
 | []=>[]
 |p::ps=>flt1 rules (path ++ [k]) p ++ fltL rules path (k+1) ps
end
theorem fltL_snoc (rules:List (Str × Pat)) (path:List Nat) (p:Part):∀ (ps:List Part) (k:Nat),fltL rules path k (ps ++ [p])=fltL rules path k ps ++ flt1 rules (path ++ [k+ps.length]) p
 | [],k=>by simp [fltL]
 |q::ps,k=>by
  simp only [List.cons_append,fltL,fltL_snoc rules path p ps (k+1),List.append_assoc,List.length_cons]
  rw [show k+1+ps.length=k+(ps.length+1) by omega]
mutual
theorem z9x (rules:List (Str × Pat)):∀ (p:Part) (path:List Nat),(flt1 rules path p).length≤z2g p
 |.txt _,_=>by simp [flt1]
 |.tup n ps,path=>by
  have:=fltL_len rules ps path 0
  simp only [flt1,z2g,List.length_append]
  split <;> simp <;> omega
theorem fltL_len (rules:List (Str × Pat)):∀ (ps:List Part) (path:List Nat) (k:Nat),(fltL rules path k ps).length≤z0w ps
 | [],_,_=>by simp [fltL]
 |p::ps,path,k=>by
  have h1:=z9x rules p (path ++ [k])
  have h2:=fltL_len rules ps path (k+1)
  simp only [fltL,z0w,List.length_append]
  omega
end
mutual
theorem y0j (rules:List (Str × Pat)):∀ (p:Part) (path q:List Nat),q∈flt1 rules path p→q.length≤path.length+dp1 p
 |.txt _,_,_,h=>by simp [flt1] at h
 |.tup n ps,path,q,h=>by
  simp only [flt1,dp1] at h ⊢
  rcases List.mem_append.mp h with h|h
  ·split at h
   ·cases h
   ·simp at h;subst h;omega
  ·have:=fltL_path rules ps path 0 q h
   omega
theorem fltL_path (rules:List (Str × Pat)):∀ (ps:List Part) (path:List Nat) (k:Nat) (q:List Nat),q∈fltL rules path k ps→q.length≤path.length+1+dpL ps
 | [],_,_,_,h=>by simp [fltL] at h
 |p::ps,path,k,q,h=>by
  simp only [fltL,dpL] at h ⊢
  rcases List.mem_append.mp h with h|h
  ·have:=y0j rules p _ q h
   simp at this
   omega
  ·have:=fltL_path rules ps path (k+1) q h
   omega
end
def z8 (q:List Nat):D:=.lst (natD q)
def z2o (qs:List (List Nat)):List D:=qs.map z8
theorem seg_all (ws:List Str):seg ws 0 ws.length=ws:=by simp [seg]
theorem z7k (ps:List Part):(z2p ps).length=ps.length:=by simp [z2p]
structure RulesOk (rules:List (Str × Pat)):Prop where
 nd:(rules.map (·.1)).Nodup
 pat:∀ r∈rules,(z0h r.2).Nodup∧szP r.2≤50∧dpP r.2≤20
theorem FormOk.rules {root:Str}{rules:List (Str × Pat)}(h:FormOk root rules):RulesOk rules:=⟨h.nd,fun r hr=>⟨(h.pat r hr).nd,(h.pat r hr).sz,(h.pat r hr).dp⟩⟩
section
variable {P:Program}{w:World}{K:PySem.W.Frag}{mg:Str→Option Value}{base:Heap}{f:Addr}{fd:FuncData}
theorem inN (x:Nat) (l:List Nat) {Q:Bool→D→Prop}(h:Q false (.bl (decide (x∈l)))):fInI (.int (x:Int)) (.lst (natD l)) Q:=⟨_,nl l,rfl,by rw [natD_nl],by
 have e:decide ((x:Int)∈nl l)=decide (x∈l):=by rw [Bool.eq_iff_iff];simp [nl_mem]
 rw [e];exact h⟩
def R_lfits:RD:=fun δ Q=>∃ (p:Pat) (ps:List Part),δ=[.fz (patD p),.fz (.lst (pDs ps))]∧(z0h p).Nodup∧szP p≤50∧dpP p≤20∧ps.length≤1000000∧Q false (.bl (z3e p (z2p ps))) [.no,.no]
theorem ok_lfits {f1 f2:Addr}{fd1 fd2:FuncData}(E__law_fits:Ent K mg "_law_fits" s__law_fits ["_law_pattern_here","_law_row"] f fd) (T:Zs K mg) (E__law_ends:Ent K mg "_law_ends" s__law_ends ["_law_pattern_here","_law_signs_met","_law_starts"] f1 fd1) (E__law_more:Ent K mg "_law_more" s__law_more ["_law_pattern_here","_law_signs_met","_law_starts"] f2 fd2):FnOk P w K mg base CX0 44 f fd ["_law_pattern_here","_law_row"] (spD R_lfits):=by
 have G__law_ends:FnOk P w K mg base CX0 43 f1 fd1 _ (spD (R_ends 21)):=ok_ends E__law_ends T E__law_more 21
 refine VL.Fun.dok E__law_fits.F sc__law_fits (fun δ Qd h=>?_) (by decide) (fun cdv A outer s H E δ Qd hr h=>?_)
 ·obtain ⟨_,_,rfl,_⟩:=h;rfl
 ·obtain ⟨p,ps,rfl,nd,hsz,hdp,hl,q⟩:=h
  have hu:=z4k hr
  refine ⟨_,(z0b (z0p (i:=2) sc__law_fits.nd rfl (Or.inl rfl) (z1f z0e))
   (z0b (z2t PassesOwn.never rfl (z1l (dv 1)) (z1n (i:=3) sc__law_fits.nd rfl (Or.inl rfl)) (z0f (z1m (z3p (z1r (z3t T.kit) (z1d (K:=K) rfl) rfl T.z_isinstance PyProof.Rows.boot_isinstance (z0a (dv 3) (z0a (z5l rfl T.z_str PyProof.Rows.boot_str) z0e)))) (z0f (z2i (z5m z1v PySem.F.slot_list_append PySem.F.type_list_append z1j (pv 2) (z0a z0z z0e)))) (z0f (z2i (z5m z1v PySem.F.slot_list_append PySem.F.type_list_append z1j (pv 2) (z0a (z0g z0j z0v (pv 3) z0d (fun _ _=>rfl)) z0e)))))))
   (z0f (z0n (de_cmp os_inI op_in_lst (z1u z3o z1i rfl T.z_len PySem.boot_len (pv 1)) (z0s G__law_ends (hr.mono (by decide)) rfl E__law_ends.g E__law_ends.F.kp E__law_ends.b z0y (z0a (dv 0) (z0a (dv 2) (z0a (z1f (z0a z0d z0e)) z0e)))) rfl))))),?_⟩
  have sz:=z0x
  walk_at "vd"
  refine ⟨by omega,z4v [3] (fun r δ=>∃ pre suf,ps=pre ++ suf∧r=pDs suf∧δ=[.fz (patD p),.fz (.lst (pDs ps)),.ob false (.lst ((z2p pre).map .str)),.no]) ⟨[],ps,rfl,rfl,rfl⟩ ?_ ?_⟩
  ·rintro d r δ ⟨pre,suf,e1,e2,rfl⟩
   cases suf with
   |nil=>cases e2
   |cons c suf =>
    cases e2
    have e1':=congrArg List.length e1
    simp at e1'
    have hh:=z7k pre
    cases c with
    |txt z =>
     simp only [pD]
     walk_at "vd"
     refine ⟨by simp;omega,pre ++ [.txt z],suf,by simp [e1],rfl,by simp [z2p,head1]⟩
    |tup n is =>
     simp only [pD]
     walk_at "vd"
     refine ⟨by simp;omega,pre ++ [.tup n is],suf,by simp [e1],rfl,by simp [z2p,head1]⟩
  ·rintro δ ⟨pre,suf,e1,e2,rfl⟩
   cases suf with
   |cons c suf=>cases e2
   |nil =>
    rw [List.append_nil] at e1
    subst e1
    walk_at "vd"
    refine ⟨by omega,p,z2p ps,[0],rfl,by omega,by omega,by rw [z7k];omega,by simp,(fun a ha=>by simp at ha;omega),fun b es he=>?_⟩
    rw [z8q]
    refine inN _ _ ?_
    have e:decide (ps.length∈es)=z3e p (z2p ps):=by
     rw [Bool.eq_iff_iff,decide_eq_true_eq,agrees_lang nd,he.2]
     constructor
     ·rintro ⟨a,ha,h1,h2,h3⟩
      simp at ha
      subst ha
      rw [← z7k ps,seg_all] at h3
      exact h3
     ·intro h
      refine ⟨0,by simp,by omega,by rw [z7k];omega,?_⟩
      rw [← z7k ps,seg_all]
      exact h
    rw [e]
    exact q
def y0n (n:Nat):RD:=fun δ Q=>∃ (rules:List (Str × Pat)) (nm:Str) (ps:List Part) (path:List Nat),δ=[.fz (.dct (tabF rules)),.fz (pD (.tup nm ps)),.fz (z8 path)]∧RulesOk rules∧dpL ps < n∧z0w ps≤1000000∧path.length+n≤1000 ∧
 Q true (.lst (z2o (flt1 rules path (.tup nm ps)))) [.no,.no,.no]
theorem flt_loop {n:Nat}{E:EndsD}{rules:List (Str × Pat)}{nm:Str}{ps:List Part}{path:List Nat}{fs0:List (List Nat)}(ok:RulesOk rules) (hdp:dpL ps < n+1) (hs:z0w ps≤1000000) (hpa:path.length+(n+1)≤1000) (hf:fs0.length≤1)
  (h:E.nx [.fz (.dct (tabF rules)),.fz (.tup [.str nm,.lst (pDs ps)]),.fz (.lst (natD path)),.ob false (.lst (z2o (fs0 ++ fltL rules path 0 ps))),.no]) :
  LoopD (rngD 0 ps.length) (dgN 4) (dIfS (dNot (z6x (dCB fIsI (z7c (dOp fIxL (dOpV fIxT 1 (dC (D.int 1))) (dVar 4)) (z7c (dC (D.ty "str")) dNil)))))
   (dSet 3 (dOp fCat (dVar 3) (dCall (y0n n) (z7c (dVar 0) (z7c (dOp fIxL (dOpV fIxT 1 (dC (D.int 1))) (dVar 4)) (z7c (dOp fCat (dVar 2) (dLst (z7c (dVar 4) dNil))) dNil)))))) dNext)
   E [.fz (.dct (tabF rules)),.fz (.tup [.str nm,.lst (pDs ps)]),.fz (.lst (natD path)),.ob false (.lst (z2o fs0)),.no]:=by
 have sz:=z0x
 refine loopN [4] (fun i δ=>δ=[.fz (.dct (tabF rules)),.fz (.tup [.str nm,.lst (pDs ps)]),.fz (.lst (natD path)),.ob false (.lst (z2o (fs0 ++ fltL rules path 0 (ps.take i)))),.no]) (by simp [fltL];rfl) ?_ ?_
 ·rintro i δ hi rfl
  have e:=pDs_get hi
  have hm:ps[i]∈ps:=List.getElem_mem hi
  have d1:=dp_mem hm
  have z1:=sz_mem hm
  have et:ps.take (i+1)=ps.take i ++ [ps[i]]:=by rw [List.take_succ,List.getElem?_eq_getElem hi];rfl
  have el:(ps.take i).length=i:=by rw [List.length_take];omega
  have fl:=fltL_len rules (ps.take i) path 0
  have szt:z0w (ps.take i)≤z0w ps:=by
   have:=congrArg z0w (List.take_append_drop i ps)
   rw [z2x] at this
   omega
  have es:fltL rules path 0 (ps.take (i+1))=fltL rules path 0 (ps.take i) ++ flt1 rules (path ++ [i]) ps[i]:=by rw [et,fltL_snoc,el,Nat.zero_add]
  rw [es]
  generalize ps[i]=p at e d1 z1 ⊢
  cases p with
  |txt z =>
   simp only [pD] at e
   walk_at "vd"
   refine ⟨_,e,?_⟩
   walk_at "vd"
   simp [flt1]
  |tup m is =>
   simp only [pD] at e
   simp only [dp1] at d1
   simp only [z2g] at z1
   have f2:=z9x rules (.tup m is) (path ++ [i])
   simp only [z2g] at f2
   have f2:(flt1 rules (path ++ [i]) (.tup m is)).length≤1000001:=by omega
   walk_at "vd"
   refine ⟨_,e,?_⟩
   walk_at "vd"
   refine ⟨_,e,by omega,by rw [z5e];omega,rules,m,is,path ++ [i],?_,ok,by omega,by omega,by simp;omega,?_⟩
   ·simp [pD,z8,natD]
   ·walk_at "vd"
    refine ⟨by simp [z2o];omega,?_⟩
    simp [z2o]
 ·rintro δ rfl
  rw [List.take_length]
  exact h
theorem ok_lfaults {f1 f2 f3:Addr}{fd1 fd2 fd3:FuncData}(E__law_faults:Ent K mg "_law_faults" s__law_faults ["_law_table","_law_part","_law_path"] f fd) (T:Zs K mg) (E__law_fits:Ent K mg "_law_fits" s__law_fits ["_law_pattern_here","_law_row"] f1 fd1) (E__law_ends:Ent K mg "_law_ends" s__law_ends ["_law_pattern_here","_law_signs_met","_law_starts"] f2 fd2) (E__law_more:Ent K mg "_law_more" s__law_more ["_law_pattern_here","_law_signs_met","_law_starts"] f3 fd3):∀ n,FnOk P w K mg base CX0 (n+45) f fd ["_law_table","_law_part","_law_path"] (spD (y0n n)):=by
 have G__law_fits:FnOk P w K mg base CX0 44 f1 fd1 _ (spD R_lfits):=ok_lfits E__law_fits T E__law_ends E__law_more
 intro n
 induction n with
 |zero=>exact z3y fun δ Q h=>by obtain ⟨_,_,_,_,_,_,h,_⟩:=h;exact Nat.not_lt_zero _ h
 |succ n G__law_faults =>
 refine VL.Fun.dok E__law_faults.F sc__law_faults (fun δ Qd h=>?_) (by decide) (fun cdv A outer s H E δ Qd hr h=>?_)
 ·obtain ⟨_,_,_,_,rfl,_⟩:=h;rfl
 ·obtain ⟨rules,nm,ps,path,rfl,ok,hdp,hs,hpa,q⟩:=h
  have hu:=z4k hr
  refine ⟨_,(z0b (z0p (i:=3) sc__law_faults.nd rfl (Or.inl rfl) (z1f z0e))
   (z0b (z1m (dt_w (dw_or (z8i hu (z0g z0j z0v (pv 1) z0d (fun _ _=>rfl)) (pv 0)) (dw_or1 (z4y (z3p (z0s G__law_fits (hr.mono (by omega)) rfl E__law_fits.g E__law_fits.F.kp E__law_fits.b z0y (z0a (z9n hu (pv 0) (z0g z0j z0v (pv 1) z0d (fun _ _=>rfl))) (z0a (z0g z0j z0v (pv 1) z0d (fun _ _=>rfl)) z0e)))))))) (z0f (z2i (z5m z1v PySem.F.slot_list_append PySem.F.type_list_append z1j (pv 3) (z0a (dv 2) z0e)))) z0t)
   (z0b (z2t PassesOwn.never rfl (z4c rfl T.z_range (z0a (z1r z3o z1i rfl T.z_len PySem.boot_len (z0a (z0g z0j z0v (pv 1) z0d (fun _ _=>rfl)) z0e)) z0e)) (z1n (i:=4) sc__law_faults.nd rfl (Or.inl rfl)) (z0f (z1m (z4y (z3p (z1r (z3t T.kit) (z1d (K:=K) rfl) rfl T.z_isinstance PyProof.Rows.boot_isinstance (z0a (de_ix z2j z1z (z0g z0j z0v (pv 1) z0d (fun _ _=>rfl)) (dv 4) (fun _ _=>rfl)) (z0a (z5l rfl T.z_str PyProof.Rows.boot_str) z0e))))) (z0f (z0p (i:=3) sc__law_faults.nd rfl (Or.inl rfl) (z0m z3n z3i (dv 3) (z0s G__law_faults (hr.mono (by omega)) rfl E__law_faults.g E__law_faults.F.kp E__law_faults.b z0y (z0a (dv 0) (z0a (de_ix z2j z1z (z0g z0j z0v (pv 1) z0d (fun _ _=>rfl)) (dv 4) (fun _ _=>rfl)) (z0a (z0m z3n z3i (dv 2) (z1f (z0a (dv 4) z0e))) z0e))))))) z0t)))
   (z0f (z0n (dm 3)))))),?_⟩
  have sz:=z0x
  have hpl:=z8q ps
  have hle:=z4l ps
  simp only [pD,z8]
  have gt:=getS_tab ok.nd nm
  walk_at "vd"
  rw [gt,Int.toNat_natCast,hpl]
  simp only [flt1] at q
  have bnd:-(2:Int) ^ 62≤(ps.length:Int)∧(ps.length:Int) < 2 ^ 62:=⟨by omega,by omega⟩
  cases hp:z3u rules nm with
  |none =>
   have eo:okN rules nm (z2p ps)=false:=by unfold okN;rw [hp]
   rw [eo] at q
   refine ⟨by omega,?_⟩
   rw [if_pos (by rfl)]
   refine ⟨by omega,by omega,by omega,flt_loop (fs0:=[path]) ok hdp hs hpa (by simp) ?_⟩
   walk_at "vd"
   simpa using q
  |some p =>
   have eo:okN rules nm (z2p ps)=z3e p (z2p ps):=by unfold okN;rw [hp]
   rw [eo] at q
   have o:=ok.pat _ (z8g hp)
   refine ⟨by omega,?_⟩
   rw [if_neg (by simp)]
   refine ⟨_,rfl,p,ps,rfl,o.1,o.2.1,o.2.2,by omega,?_⟩
   walk_at "vd"
   refine ite2 (fun ha=>?_) fun ha=>?_
   ·rw [Int.toNat_natCast,hpl]
    refine ⟨by omega,by omega,by omega,flt_loop (fs0:=[path]) ok hdp hs hpa (by simp) ?_⟩
    walk_at "vd"
    rw [ha] at q
    simpa using q
   ·rw [Int.toNat_natCast,hpl]
    refine ⟨by omega,by omega,flt_loop (fs0:=[]) ok hdp hs hpa (by simp) ?_⟩
    walk_at "vd"
    rw [(Bool.not_eq_false _).mp ha] at q
    simpa using q
def allF (root:Str) (rules:List (Str × Pat)) (nm:Str) (ps:List Part):List (List Nat) :=
 if nm≠root∧(flt1 rules [] (.tup nm ps)).take 1≠[[]] then []::flt1 rules [] (.tup nm ps) else flt1 rules [] (.tup nm ps)
def R_allf (n:Nat):RD:=fun δ Q=>∃ (root:Str) (rules:List (Str × Pat)) (nm:Str) (ps:List Part),δ=[.fz (z3f root rules),.fz (pD (.tup nm ps))]∧FormOk root rules∧dpL ps < n∧z0w ps≤1000000∧n≤1000∧∀ b,Q b (.lst (z2o (allF root rules nm ps))) [.no,.no]
theorem ok_allf {f1 f2 f3 f4:Addr}{fd1 fd2 fd3 fd4:FuncData}(E__law_all_faults:Ent K mg "_law_all_faults" s__law_all_faults ["_law_form_here","_law_paper_here"] f fd) (T:Zs K mg) (E__law_fits:Ent K mg "_law_fits" s__law_fits ["_law_pattern_here","_law_row"] f1 fd1) (E__law_ends:Ent K mg "_law_ends" s__law_ends ["_law_pattern_here","_law_signs_met","_law_starts"] f2 fd2) (E__law_more:Ent K mg "_law_more" s__law_more ["_law_pattern_here","_law_signs_met","_law_starts"] f3 fd3) (E__law_faults:Ent K mg "_law_faults" s__law_faults ["_law_table","_law_part","_law_path"] f4 fd4) (n:Nat):FnOk P w K mg base CX0 (n+46) f fd ["_law_form_here","_law_paper_here"] (spD (R_allf n)):=by
 have G__law_faults:FnOk P w K mg base CX0 (n+45) f4 fd4 _ (spD (y0n n)):=ok_lfaults E__law_faults T E__law_fits E__law_ends E__law_more n
 refine VL.Fun.dok E__law_all_faults.F sc__law_all_faults (fun δ Qd h=>?_) (by decide) (fun cdv A outer s H E δ Qd hr h=>?_)
 ·obtain ⟨_,_,_,_,rfl,_⟩:=h;rfl
 ·obtain ⟨root,rules,nm,ps,rfl,ok,hdp,hs,hn,q⟩:=h
  have hu:=z4k hr
  refine ⟨_,(z0b (z0p (i:=2) sc__law_all_faults.nd rfl (Or.inl rfl) z7v)
   (z0b (z2t PassesOwn.never rfl (z1l (z0g z0j z0v (pv 0) z0d (fun _ _=>rfl))) (dg_tup (n:=2) rfl (z4a (z1n (i:=3) sc__law_all_faults.nd rfl (Or.inl rfl)) (z4a (z1n (i:=4) sc__law_all_faults.nd rfl (Or.inl rfl)) y1r))) (z0f (y1k hu (pv 2) (dv 3) (dv 4))))
   (z0b (z0p (i:=5) sc__law_all_faults.nd rfl (Or.inl rfl) (z0s G__law_faults (hr.mono (by omega)) rfl E__law_faults.g E__law_faults.F.kp E__law_faults.b z0y (z0a (dv 2) (z0a (dv 1) (z0a (z1f z0e) z0e)))))
   (z0b (z1m (dt_w (z9b (z1c os_ne op_ne (z0g z0j z0v (pv 1) z0d (fun _ _=>rfl)) (z0g z0j z0v (pv 0) z0d (fun _ _=>rfl)) (z1a _)) (z5t (z1c (os_neF hu) op_neF (z2w (pv 5) z4p (z3h z0d)) (z1f (z0a (z1f z0e) z0e)) (z1a _))))) (z0f (z0n (z0m z3n z3i (z1f (z0a (z1f z0e) z0e)) (dv 5)))) z0t)
   (z0f (z0n (dm 5))))))),?_⟩
  have sz:=z0x
  have hlen:=ok.len
  simp only [z3f]
  walk_at "vd"
  refine z4v [3,4] (fun r δ=>∃ (pre suf:List (Str × Pat)),rules=pre ++ suf∧r=suf.map (fun r=>.tup [.str r.1,patD r.2])∧δ=[.fz (z3f root rules),.fz (pD (.tup nm ps)),.ob false (.dct (tabF pre)),.no,.no,.no]) ⟨[],rules,rfl,rfl,rfl⟩ ?_ ?_
  ·rintro d r δ ⟨pre,suf,e1,e2,rfl⟩
   cases suf with
   |nil=>cases e2
   |cons z suf =>
    cases e2
    walk_at "vd"
    have:=tab_len pre
    have e1':=congrArg List.length e1
    simp at e1'
    refine ⟨by omega,pre ++ [z],suf,by simp [e1],rfl,?_⟩
    simp [tabF]
  ·rintro δ ⟨pre,suf,e1,e2,rfl⟩
   cases suf with
   |cons z suf=>cases e2
   |nil =>
    rw [List.append_nil] at e1
    subst e1
    simp only [z3f]
    walk_at "vd"
    refine ⟨by omega,rules,nm,ps,[],rfl,ok.rules,hdp,hs,by simp;omega,?_⟩
    simp only [pD]
    walk_at "vd"
    have fl:=z9x rules (.tup nm ps) []
    simp only [z2g] at fl
    have q':=q true
    unfold allF at q'
    generalize flt1 rules [] (.tup nm ps)=fs at fl q' ⊢
    have pl:(z2o fs).length=fs.length:=by simp [z2o]
    rw [show (1:Int)=((1:Nat):Int) from rfl,z5o]
    refine ite2 (fun h=>⟨by omega,by omega,?_⟩) fun h=>?_
    ·have hne:nm≠root:=by simpa using h
     cases fs with
     |nil =>
      rw [if_pos ⟨hne,by simp⟩] at q'
      refine ⟨_,rfl,rfl,.inl ⟨by simp [z2o],?_⟩⟩
      walk_at "vd"
      exact ⟨by omega,by omega,by simp [z2o];omega,q'⟩
     |cons a r =>
      cases a with
      |nil =>
       rw [if_neg (by simp)] at q'
       refine ⟨_,rfl,rfl,.inr (.inl ⟨rfl,?_⟩)⟩
       walk_at "vd"
       exact q'
      |cons x xs =>
       rw [if_pos ⟨hne,by simp⟩] at q'
       refine ⟨_,rfl,rfl,.inr (.inr ⟨_,_,rfl,?_⟩)⟩
       walk_at "vd"
       exact ⟨by omega,by omega,by omega,q'⟩
    ·have he:nm=root:=by simpa using h
     rw [if_neg (fun z=>z.1 he)] at q'
     exact q'
end
open PySem L2 VL Pap
abbrev Plc:=List Nat × Str × List Part
mutual
def twp1 (path:List Nat):Part→List Plc
 |.txt _=>[]
 |.tup n ps=>(path,n,ps)::twpL path 0 ps
def twpL (path:List Nat) (k:Nat):List Part→List Plc
 | []=>[]
 |p::ps=>twp1 (path ++ [k]) p ++ twpL path (k+1) ps
end
def kidQ (path:List Nat) (k:Nat):List Part→List Plc
 | []=>[]
 |.txt _::ps=>kidQ path (k+1) ps
 |.tup n is::ps=>(path ++ [k],n,is)::kidQ path (k+1) ps
def twpE (e:Plc):List Plc:=twp1 e.1 (.tup e.2.1 e.2.2)
theorem y1g:∀ (ps:List Part) (path:List Nat) (k:Nat),twpL path k ps=(kidQ path k ps).flatMap twpE
 | [],_,_=>rfl
 |.txt _::ps,path,k=>by simp only [twpL,twp1,kidQ,List.nil_append];exact y1g ps path (k+1)
 |.tup n is::ps,path,k=>by simp only [twpL,kidQ,List.flatMap_cons,y1g ps path (k+1)];rfl
theorem y1a (e:Plc):twpE e=e::(kidQ e.1 0 e.2.2).flatMap twpE:=by
 obtain ⟨path,n,ps⟩:=e
 simp only [twpE,twp1]
 rw [y1g]
mutual
theorem twp1_len:∀ (p:Part) (path:List Nat),(twp1 path p).length≤z2g p
 |.txt _,_=>by simp [twp1]
 |.tup n ps,path=>by have:=twpL_len ps path 0;simp only [twp1,z2g,List.length_cons];omega
theorem twpL_len:∀ (ps:List Part) (path:List Nat) (k:Nat),(twpL path k ps).length≤z0w ps
 | [],_,_=>by simp [twpL]
 |p::ps,path,k=>by
  have h1:=twp1_len p (path ++ [k])
  have h2:=twpL_len ps path (k+1)
  simp only [twpL,z0w,List.length_append]
  omega
end
def plcD (e:Plc):D:=.tup [z8 e.1,pD (.tup e.2.1 e.2.2)]
theorem y0e (path:List Nat):∀ (ps:List Part) (k:Nat) (p:Part),kidQ path k (ps ++ [p])=kidQ path k ps ++ kidQ path (k+ps.length) [p]
 | [],k,p=>by simp [kidQ]
 |.txt _::ps,k,p=>by
  simp only [List.cons_append,kidQ,y0e path ps (k+1) p,List.length_cons]
  rw [show k+1+ps.length=k+(ps.length+1) by omega]
 |.tup n is::ps,k,p=>by
  simp only [List.cons_append,kidQ,y0e path ps (k+1) p,List.length_cons]
  rw [show k+1+ps.length=k+(ps.length+1) by omega]
theorem z9o (path:List Nat):∀ (ps:List Part) (k:Nat),(kidQ path k ps).length≤ps.length
 | [],_=>Nat.le_refl _
 |.txt _::ps,k=>by have:=z9o path ps (k+1);simp only [kidQ,List.length_cons];omega
 |.tup n is::ps,k=>by have:=z9o path ps (k+1);simp only [kidQ,List.length_cons];omega
theorem z9q {path:List Nat}{e:Plc}:∀ {ps:List Part}{k:Nat},e∈kidQ path k ps→(∃ j,e.1=path ++ [j])∧Part.tup e.2.1 e.2.2∈ps
 |.txt _::ps,k,h=>by
  obtain ⟨h1,h2⟩:=z9q (ps:=ps) (k:=k+1) h
  exact ⟨h1,List.mem_cons_of_mem _ h2⟩
 |.tup n is::ps,k,h=>by
  rcases List.mem_cons.mp (show e∈(path ++ [k],n,is)::kidQ path (k+1) ps from h) with rfl|h
  ·exact ⟨⟨k,rfl⟩,List.mem_cons_self⟩
  ·obtain ⟨h1,h2⟩:=z9q (ps:=ps) (k:=k+1) h
   exact ⟨h1,List.mem_cons_of_mem _ h2⟩
section
variable {P:Program}{w:World}{K:PySem.W.Frag}{mg:Str→Option Value}{base:Heap}{f:Addr}{fd:FuncData}
def R_tb:RD:=fun δ Q=>∃ (q:List Nat) (n:Str) (ps:List Part),δ=[.fz (z8 q),.fz (pD (.tup n ps))]∧q.length≤1000∧ps.length≤1000000∧Q true (.lst ((kidQ q 0 ps).map plcD)) [.no,.no]
theorem ok_tb (E_tuples_beneath:Ent K mg "tuples_beneath" s_tuples_beneath ["path","part"] f fd) (T:Zs K mg):FnOk P w K mg base CX0 1 f fd ["path","part"] (spD R_tb):=by
 refine VL.Fun.dok E_tuples_beneath.F z8m (fun δ Qd h=>?_) (by decide) (fun cdv A outer s H E δ Qd hr h=>?_)
 ·obtain ⟨_,_,_,rfl,_⟩:=h;rfl
 ·obtain ⟨q,n,ps,rfl,hq,hl,post⟩:=h
  refine ⟨_,(z0f (z0n (z3v ["place","inner"] ["path","part"] rfl (show CScopeG (z0c s_tuples_beneath) ["path","part"] ["place","inner"] _ _ from ⟨rfl,by decide +kernel,by decide +kernel,by decide +kernel,by decide +kernel⟩) (di_enum rfl T.z_enumerate (z0a (z0g z0j z0v (pv 1) z0d (fun _ _=>rfl)) z0e)) (fun _ _ _ _ _=>(dgn_tup (m:=2) rfl (z4b (z1s (i:=0) (by decide) (show List.Nodup (["place","inner","path","part"]:List Str) from by decide +kernel) rfl (Or.inl rfl)) (z4b (z1s (i:=1) (by decide) (show List.Nodup (["place","inner","path","part"]:List Str) from by decide +kernel) rfl (Or.inl rfl)) z9u)))) (fun _ _ _ _ _=>(y0y (z4y (z3p (z1r (z3t T.kit) (z1d (K:=K) rfl) rfl T.z_isinstance PyProof.Rows.boot_isinstance (z0a (dv 1) (z0a (z5l rfl T.z_str PyProof.Rows.boot_str) z0e))))))) (fun _ _ _ _ _=>(z2a (z0a (z0m z3n z3i (dv 2) (z1f (z0a (dv 0) z0e))) (z0a (dv 1) z0e))))))),?_⟩
  have sz:=z0x
  simp only [pD,z8]
  walk_at "vd"
  refine ⟨fun r acc δ1=>δ1=[.fz (.lst (natD q)),.fz (.tup [.str n,.lst (pDs ps)])]∧∃ pre suf,ps=pre ++ suf∧r=z9k pre.length (pDs suf)∧acc=(kidQ q 0 pre).map plcD,⟨rfl,[],ps,rfl,rfl,rfl⟩,?_,?_⟩
  ·rintro d r acc δ1 ⟨rfl,pre,suf,e1,e2,rfl⟩
   cases suf with
   |nil=>cases e2
   |cons p suf =>
    cases e2
    have e1':=congrArg List.length e1
    simp at e1'
    have kl:=z9o q pre 0
    have ks:=y0e q pre 0 p
    rw [Nat.zero_add] at ks
    cases p with
    |txt z =>
     simp only [pD]
     walk_at "vd"
     refine ⟨pre ++ [.txt z],suf,by simp [e1],by simp,?_⟩
     rw [ks];simp [kidQ]
    |tup m is =>
     simp only [pD]
     walk_at "vd"
     refine ⟨by omega,by rw [z5e];omega,by omega,by simp;omega,pre ++ [.tup m is],suf,by simp [e1],by simp,?_⟩
     rw [ks];simp [kidQ,plcD,z8,natD,pD]
  ·rintro acc δ1 ⟨rfl,pre,suf,e1,e2,rfl⟩
   cases suf with
   |cons p suf=>cases e2
   |nil =>
    rw [List.append_nil] at e1
    subst e1
    exact post
end
open PySem L2 VL Pap
def noI (H:Hp):Hp:=fun b=>match H b with|some (.lst (.int _::_))=>none|some (.lst xs)=>some (.lst xs)|some (.tup xs)=>some (.tup xs)|_=>none
theorem noI_sub {H:Hp}:Same (noI H) H:=fun b o e=>by
 unfold noI at e
 split at e
 ·cases e
 ·rename_i h;rw [h];exact e
 ·rename_i h;rw [h];exact e
 ·cases e
theorem noI_t {H:Hp}{b:Addr}{xs:List V}(e:H b=some (.tup xs)):noI H b=some (.tup xs):=by unfold noI;rw [e]
theorem noI_int {H:Hp}{b:Addr}{i:Int}{xs:List V}:noI H b≠some (.lst (.int i::xs)):=fun e=>by
 unfold noI at e
 split at e
 ·cases e
 ·rename_i xs' h1 h2
  cases e
  first|exact h1 _ _ rfl|exact h2 _ _ rfl
 ·cases e
 ·cases e
theorem noI_l {H:Hp}{b:Addr}{xs:List V}(e:H b=some (.lst xs)) (n:∀ i r,xs ≠ .int i::r):noI H b=some (.lst xs):=by
 unfold noI;rw [e]
 split
 ·rename_i h;cases h;exact absurd rfl (n _ _)
 ·rename_i h;cases h;rfl
 ·rename_i h;cases h
 ·rename_i h1 h2 h3;exact absurd rfl (h2 _)
mutual
theorem rep_noI {H:Hp}:∀ (p:Part) (v:V),Rep H (pD p) v→Rep (noI H) (pD p) v
 |.txt s,v,h=>h
 |.tup n ps,v,h=>by
  obtain ⟨a,vs,rfl,h1,x1,r1,rfl,e1,x2,r2,rfl,⟨b,us,rfl,h2,rs⟩,e3⟩:=h
  refine ⟨a,_,rfl,noI_t h1,x1,_,rfl,e1,_,r2,rfl,⟨b,us,rfl,noI_l h2 fun i r z=>?_,reps_noI ps us rs⟩,e3⟩
  cases ps with
  |nil=>cases (show us=[] from rs);cases z
  |cons p ps =>
   obtain ⟨x,r',rfl,e4,_⟩:=rs
   cases z
   cases p with
   |txt s=>cases (show V.int i = .str s from e4)
   |tup m is=>obtain ⟨_,_,e5,_⟩:=e4;cases e5
theorem reps_noI {H:Hp}:∀ (ps:List Part) (vs:List V),Reps H (pDs ps) vs→Reps (noI H) (pDs ps) vs
 | [],vs,h=>h
 |p::ps,vs,h=>by obtain ⟨v,r,rfl,h1,h2⟩:=h;exact ⟨v,r,rfl,rep_noI p v h1,reps_noI ps r h2⟩
end
def intV (q:List Nat):List V:=q.map fun (k:Nat)=>V.int (k:Int)
theorem rep_path {F:Hp}{q:List Nat}{v:V}:Rep F (z8 q) v↔∃ a,v = .ref a∧F a=some (.lst (intV q)):=by
 constructor
 ·rintro ⟨a,vs,rfl,h1,r⟩
  rw [natD_nl] at r
  have:=r.ints
  subst this
  exact ⟨a,rfl,by rw [h1];simp [nl,intV]⟩
 ·rintro ⟨a,rfl,h⟩
  refine ⟨a,_,rfl,h,?_⟩
  clear h
  unfold intV natD
  induction q with
  |nil=>rfl
  |cons k q ih=>exact ⟨_,_,rfl,rfl,ih⟩
theorem intV_inj:∀ {q q':List Nat},intV q=intV q'→q=q'
 | [],[],_=>rfl
 | [],_::_,h=>by cases h
 |_::_,[],h=>by cases h
 |a::q,b::q',h=>by
  have h1:V.int (a:Int)=V.int (b:Int)∧intV q=intV q':=by simpa [intV] using h
  have h2:=V.int.inj h1.1
  rw [intV_inj h1.2,show a=b by omega]
def EntG (G H0:Hp) (e:Plc) (t:V):Prop:=∃ a p v,t = .ref a∧G a=some (.tup [.ref p,v])∧G p=some (.lst (intV e.1))∧H0 p=none∧Rep G (pD (.tup e.2.1 e.2.2)) v
theorem EntG.mono {G G' H0:Hp}{e:Plc}{t:V}(s:Same G G') (h:EntG G H0 e t):EntG G' H0 e t:=by
 obtain ⟨a,p,v,h1,h2,h3,h4,h5⟩:=h
 exact ⟨a,p,v,h1,s _ _ h2,s _ _ h3,h4,Rep.mono s _ _ h5⟩
theorem z9v {α β:Type}{R:α→β→Prop}{as cs:List α}{bs ds:List β}(h:All2 R as bs) (h':All2 R cs ds):All2 R (as ++ cs) (bs ++ ds):=by
 induction h with
 |nil=>exact h'
 |cons r _ ih=>exact .cons r ih
theorem y1e {α β:Type}{R S:α→β→Prop}{as:List α}{bs:List β}(h:All2 R as bs) (m:∀ a b,R a b→S a b):All2 S as bs:=by
 induction h with
 |nil=>exact .nil
 |cons r _ ih=>exact .cons (m _ _ r) ih
theorem all2_rev {α β:Type}{R:α→β→Prop}{as:List α}{bs:List β}(h:All2 R as bs):All2 R as.reverse bs.reverse:=by
 induction h with
 |nil=>exact .nil
 |cons r _ ih=>rw [List.reverse_cons,List.reverse_cons];exact z9v ih (.cons r .nil)
theorem z5j {α β:Type}{R:α→β→Prop}{as:List α}{bs:List β}(h:All2 R as bs):as.length=bs.length:=by
 induction h with
 |nil=>rfl
 |cons r _ ih=>simp [ih]
theorem all2_get {α β:Type}{R:α→β→Prop}{as:List α}{bs:List β}(h:All2 R as bs) {i:Nat}{b:β}(e:bs[i]? = some b):∃ a,as[i]? = some a∧R a b:=by
 induction h generalizing i with
 |nil=>simp at e
 |cons r _ ih =>
  cases i with
  |zero=>simp at e;subst e;exact ⟨_,rfl,r⟩
  |succ i=>simpa using ih (by simpa using e)
theorem all2_snoc_inv {α β:Type}{R:α→β→Prop}{as:List α}{a:α}{bs:List β}(h:All2 R (as ++ [a]) bs):∃ bs' b,bs=bs' ++ [b]∧All2 R as bs'∧R a b:=by
 induction as generalizing bs with
 |nil =>
  cases h with
  |cons r t=>cases t;exact ⟨[],_,rfl,.nil,r⟩
 |cons x as ih =>
  cases h with
  |cons r t =>
   obtain ⟨bs',b,rfl,h1,h2⟩:=ih t
   exact ⟨_::bs',b,rfl,.cons r h1,h2⟩
theorem y2c {F F' H H0:Hp}{p:Addr}{q:List Nat}(hF:∀ b,b≠p→∀ i r,F b≠some (.lst (.int i::r))) (hp:F p=some (.lst (intV q))) (sF:Same F F') (nw:∀ c o,F' c=some o→F c=none→H c=none) (s0:Same H0 H) :
  ∀ (es:List Plc) (us:List V),(∀ e∈es,∃ j,e.1=q ++ [j])→Reps F' (es.map plcD) us→All2 (EntG F' H0) es us
 | [],us,_,h=>by cases (show us=[] from h);exact .nil
 |e::es,us,he,h=>by
  obtain ⟨v,r,rfl,⟨t,xs,rfl,ht,y1,r1,rfl,e1,y2,r2,rfl,e2,e3⟩,h2⟩:=h
  cases (show r2=[] from e3)
  obtain ⟨b,rfl,hb⟩:=rep_path.mp e1
  obtain ⟨j,ej⟩:=he e List.mem_cons_self
  refine .cons ⟨t,b,y2,rfl,ht,hb,s0.free (nw b _ hb ?_),e2⟩ (y2c hF hp sF nw s0 es r (fun e h=>he e (List.mem_cons_of_mem _ h)) h2)
  cases hg:F b with
  |none=>rfl
  |some o =>
   have:=sF _ _ hg
   rw [hb] at this
   cases this
   by_cases z:b=p
   ·rw [z,hp] at hg
    have:=intV_inj (HO.lst.inj (Option.some.inj hg))
    rw [ej] at this
    have:=congrArg List.length this
    simp at this
   ·exfalso
    rw [ej] at hg
    cases q with
    |nil=>exact hF b z _ _ hg
    |cons k q=>exact hF b z _ _ hg
section
variable {P:Program}{w:World}{K:PySem.W.Frag}{mg:Str→Option Value}{base:Heap}{f:Addr}{fd:FuncData}
theorem spD_own {R:RD}{vs:List V}{ds:List D}{F H:Hp}{Q:VK}{E:XK}{Qd:Bool→D→List VL.Slot→Prop}(sF:Same F H) (r:Reps F ds vs) (h:R (ds.map .fz) Qd)
  (k:∀ b d δ' v F' H',Same H H'→Same F F'→Same F' H'→(∀ c o,F' c=some o→F c=none→H c=none)→Qd b d δ'→SOk H F' H' none (some v) (rsl b d)→Q v H'):spD R vs H Q E:=by
 refine ⟨_,[],F,_,Qd,fun p a e=>by simp at e,y2h sF r,h,fun b d v δ' F' H' I q=>?_⟩
 exact k b d δ' v F' H' I.base I.ext I.sub I.new q (I.get 0 _ rfl)
def sp_twp:Sp:=fun vs H Q _=>∃ (n:Str) (ps:List Part) (v:V) (F0:Hp),vs=[v]∧Same F0 H∧Rep F0 (pD (.tup n ps)) v∧dpL ps≤99∧z0w ps≤1000000 ∧
 ∀ r ts G H',H r=none→Same H H'→Same F0 G→Same G H'→(∀ b o,G b=some o→F0 b=none→H b=none)→G r=none→H' r=some (.lst ts)→All2 (EntG G H) (twp1 [] (.tup n ps)) ts→Q (.ref r) H'
structure TInv (F0 H0:Hp) (all:List Plc) (v:V) (r wt:Addr) (S:List Plc) (σ:L2.St) (H:Hp):Prop where
 ex:∃ (G:Hp) (dn:List Plc) (ts ws:List V) (x:Option V),σ=[some v,some (.ref r),some (.ref wt),x]∧Same H0 H∧(∀ b o,G b=some o→F0 b=none→H0 b=none)∧Same F0 G∧Same G H∧G r=none∧G wt=none∧H r=some (.lst ts)∧H wt=some (.lst ws)∧All2 (EntG G H0) dn ts∧All2 (EntG G H0) S.reverse ws∧all=dn ++ S.flatMap twpE
 bd:∀ e∈S,e.1.length+dpL e.2.2≤99∧z0w e.2.2≤1000000
theorem ok_twp {f1:Addr}{fd1:FuncData}(E_tuples_with_paths:Ent K mg "tuples_with_paths" s_tuples_with_paths ["paper"] f fd) (T:Zs K mg) (E_tuples_beneath:Ent K mg "tuples_beneath" s_tuples_beneath ["path","part"] f1 fd1):FnOk P w K mg base CX0 2 f fd ["paper"] sp_twp:=by
 have G_tuples_beneath:FnOk P w K mg base CX0 1 f1 fd1 _ (spD R_tb):=ok_tb E_tuples_beneath T
 refine E_tuples_with_paths.F.ok sc_tuples_with_paths (fun vs H Q E h=>?_) (fun cdv A outer s H vs Q E hr h=>?_)
 ·obtain ⟨_,_,_,_,rfl,_⟩:=h;rfl
 ·obtain ⟨n,ps,v,F0,rfl,sF0,rv,hdp,hsz,q⟩:=h
  refine ⟨_,(z1o (z5k (i:=1) sc_tuples_with_paths.nd rfl (Or.inl rfl) (z5y z1g))
   (z1o (z5k (i:=2) sc_tuples_with_paths.nd rfl (Or.inl rfl) (z5y (z0k (pe_tup (z0k (z5y z1g) (z0k (pv 0) z1g))) z1g)))
   (z1o (ps_while PassesOwn.never (pt_truth (pv 2) (fun _=>rfl)) (z1o (z5k (i:=3) sc_tuples_with_paths.nd rfl (Or.inl rfl) (pe_lm0 PySem.F.slot_list_pop PySem.F.type_list_pop mt_pop (pv 2)))
   (z1o (z4e (pe_lm PySem.F.slot_list_append PySem.F.type_list_append z1j (pv 1) (z0k (pv 3) z1g)))
   (z2m (z4e (pe_lm PySem.F.slot_list_extend PySem.F.type_list_extend y0a (pv 2) (z0k (pe_listRev rfl rfl T.z_list rfl T.z_reversed (z1t G_tuples_beneath (hr.mono (by decide)) rfl E_tuples_beneath.g E_tuples_beneath.F.kp E_tuples_beneath.b .nil z0y (z0k (z5z z0v (pv 3) z3j (fun _ _=>rfl)) (z0k (z5z z0v (pv 3) z3j (fun _ _=>rfl)) z1g)))) z1g)))))))
   (z2m (ps_ret (pv 1)))))),?_⟩
  have sz:=z0x
  walk_at "rs"
  refine ⟨by omega,fun r hr0=>⟨by omega,fun p np hp0=>⟨by omega,fun t nt1 nt2 ht0=>⟨by omega,fun wt nw1 nw2 nw3 hw0=>?_⟩⟩⟩⟩
  have w0:TInv F0 H (twp1 [] (.tup n ps)) v r wt [([],n,ps)] [some v,some (.ref r),some (.ref wt),none] (upd (upd (upd (upd H r (HO.lst [])) p (HO.lst [])) t (HO.tup [V.ref p,v])) wt (HO.lst [V.ref t])):=by
   have sG:Same F0 (upd (upd F0 p (HO.lst [])) t (HO.tup [V.ref p,v])):=(Same.of_new (sF0.free hp0)).upd (sF0.free ht0)
   refine ⟨⟨upd (upd F0 p (.lst [])) t (.tup [.ref p,v]),[],[],[.ref t],none,rfl,(((Same.of_new hr0).upd hp0).upd ht0).upd hw0,fun b o e hb=>?_,sG,fun b o e=>?_,?_,?_,?_,z0l,.nil,.cons ⟨t,p,v,rfl,z0l,?_,hp0,Rep.mono sG _ _ rv⟩ .nil,?_⟩,fun e he=>?_⟩
   ·by_cases z1:b=t
    ·rw [z1];exact ht0
    ·rw [z0i z1] at e
     by_cases z2:b=p
     ·rw [z2];exact hp0
     ·rw [z0i z2,hb] at e;cases e
   ·have nb:b≠wt:=fun z=>by
     rw [z,z0i nw1,z0i nw2,sF0.free hw0] at e;cases e
    rw [z0i nb]
    by_cases z1:b=t
    ·rw [z1,z0l] at e ⊢;exact e
    ·rw [z0i z1] at e ⊢
     by_cases z2:b=p
     ·rw [z2,z0l] at e ⊢;exact e
     ·rw [z0i z2] at e ⊢
      rw [z0i (fun z=>by rw [z,sF0.free hr0] at e;cases e)];exact sF0 _ _ e
   ·rw [z0i (Ne.symm nt2),z0i (Ne.symm np)];exact sF0.free hr0
   ·rw [z0i nw1,z0i nw2];exact sF0.free hw0
   ·rw [z0i (Ne.symm nw3),z0i (Ne.symm nt2),z0i (Ne.symm np)];exact z0l
   ·rw [z0i (Ne.symm nt1)];exact z0l
   ·simp [twpE]
   ·simp at he;subst he;simp;omega
  generalize upd (upd (upd (upd H r (HO.lst [])) p (HO.lst [])) t (HO.tup [V.ref p,v])) wt (HO.lst [V.ref t])=H1 at w0
  have nrw:r≠wt:=Ne.symm nw3
  refine ⟨fun m σ H2=>∃ S,TInv F0 H (twp1 [] (.tup n ps)) v r wt S σ H2∧m=(S.flatMap twpE).length,⟨_,_,w0,rfl⟩,?_⟩
  rintro m σ H2 ⟨S,⟨⟨G,dn,ts,ws,x,rfl,s02,nwG,sHG,sG2,gr,gw,hr2,hw2,a1,a2,eall⟩,bd⟩,rfl⟩
  refine ⟨_,rfl,!ws.isEmpty,.inl ⟨_,SqL.of hw2,rfl⟩,?_⟩
  cases S with
  |nil =>
   cases a2
   rw [List.flatMap_nil,List.append_nil] at eall
   rw [← eall] at a1
   exact iteF ⟨_,rfl,q r ts G H2 hr0 s02 sHG sG2 nwG gr hr2 a1⟩
  |cons e S =>
   rw [List.reverse_cons] at a2
   obtain ⟨ws',tv,rfl,a2',et⟩:=all2_snoc_inv a2
   obtain ⟨a,p',v',rfl,ga,gp,hp',rv'⟩:=et
   have e0:(!(ws' ++ [V.ref a]).isEmpty)=true:=by simp
   rw [if_pos e0]
   refine ⟨fun σ' H'=>∃ m',m' < ((e::S).flatMap twpE).length∧∃ S',TInv F0 H (twp1 [] (.tup n ps)) v r wt S' σ' H'∧m' = (S'.flatMap twpE).length,fun σ' H' h=>h,?_⟩
   have hlast:(ws' ++ [V.ref a])[(ws' ++ [V.ref a]).length - 1]? = some (.ref a):=by simp
   have hdl:(ws' ++ [V.ref a]).dropLast=ws':=by simp
   have l1:=z5j a1
   have l2:=z5j a2'
   have ln:=twp1_len (.tup n ps) []
   simp only [z2g] at ln
   rw [eall,List.length_append] at ln
   rw [List.flatMap_cons,List.length_append,y1a,List.length_cons] at ln
   have fl:S.length≤(S.flatMap twpE).length:=by
    clear eall bd a2' l2 a2 ln
    induction S with
    |nil=>exact Nat.le_refl _
    |cons z S ih=>rw [List.flatMap_cons,List.length_append,y1a,List.length_cons,List.length_cons];omega
   have fk:(kidQ e.1 0 e.2.2).length≤((kidQ e.1 0 e.2.2).flatMap twpE).length:=by
    generalize kidQ e.1 0 e.2.2=ks
    induction ks with
    |nil=>exact Nat.le_refl _
    |cons z S ih=>rw [List.flatMap_cons,List.length_append,y1a,List.length_cons,List.length_cons];omega
   simp only [List.length_reverse] at l2
   refine ⟨_,rfl,wt,rfl,⟨_,hw2⟩,wt,_,.ref a,rfl,rfl,hw2,hlast,?_⟩
   rw [hdl]
   have gne:∀ {b:Addr}{o:HO},G b=some o→b≠r∧b≠wt:=fun {b o} h=>⟨(fun z=>by rw [z,gr] at h;cases h),(fun z=>by rw [z,gw] at h;cases h)⟩
   have sG3:Same G (upd (upd H2 wt (.lst ws')) r (.lst (ts ++ [.ref a]))):=fun b o h=>by
    obtain ⟨n1,n2⟩:=gne h
    rw [z0i n1,z0i n2];exact sG2 _ _ h
   have s03:Same H (upd (upd H2 wt (.lst ws')) r (.lst (ts ++ [.ref a]))):=(s02.upd hw0).upd hr0
   walk_at "rs"
   refine ⟨⟨_,by rw [z0i nrw];exact hr2⟩,ts,by rw [z0i nrw];exact hr2,by omega,?_⟩
   have hr3:(upd (upd H2 wt (.lst ws')) r (.lst (ts ++ [.ref a]))) r=some (.lst (ts ++ [.ref a])):=z0l
   have hw3:(upd (upd H2 wt (.lst ws')) r (.lst (ts ++ [.ref a]))) wt=some (.lst ws'):=by rw [z0i (Ne.symm nrw)];exact z0l
   generalize upd (upd H2 wt (.lst ws')) r (.lst (ts ++ [.ref a]))=H3 at sG3 hr3 hw3 s03 ⊢
   refine ⟨⟨_,hw3⟩,_,sG3 _ _ ga,_,atI0,_,sG3 _ _ ga,_,atI1,?_⟩
   have hF:∀ b,b≠p'→∀ i r,(fun b=>if b=p' then G p' else noI G b:Hp) b≠some (.lst (.int i::r)):=fun b nb i r z=>by
    simp only [nb,if_false] at z
    exact noI_int z
   have hFp:(fun b=>if b=p' then G p' else noI G b:Hp) p' = some (.lst (intV e.1)):=by simp only [if_true];exact gp
   have sFG:Same (fun b=>if b=p' then G p' else noI G b:Hp) G:=fun b o z=>by
    by_cases nb:b=p'
    ·simp only [nb,if_true] at z;rw [nb];exact z
    ·simp only [nb,if_false] at z;exact noI_sub _ _ z
   have sNF:Same (noI G) (fun b=>if b=p' then G p' else noI G b:Hp):=fun b o z=>by
    by_cases nb:b=p'
    ·simp only [nb,if_true];rw [← nb];exact noI_sub _ _ z
    ·simp only [nb,if_false];exact z
   generalize (fun b=>if b=p' then G p' else noI G b:Hp)=F at hF hFp sFG sNF
   have be:=bd e List.mem_cons_self
   refine spD_own (ds:=[z8 e.1,pD (.tup e.2.1 e.2.2)]) (F:=F) (Qd:=fun b d _=>b=true∧d = .lst ((kidQ e.1 0 e.2.2).map plcD)) (sFG.trans sG3) ⟨_,_,rfl,rep_path.mpr ⟨p',rfl,hFp⟩,_,_,rfl,Rep.mono sNF _ _ (rep_noI _ _ rv'),rfl⟩
    ⟨e.1,e.2.1,e.2.2,rfl,by omega,by have:=z4l e.2.2;omega,rfl,rfl⟩ fun b1 d1 δ1 w1 F' H4 s4 sFF sF4 nw ⟨eb,ed⟩ k=>?_
   subst eb ed
   obtain ⟨L,eL,hL3,hLF,⟨us,hL4,ru⟩,_⟩:=k
   cases eL
   have ent:=y2c hF hFp sFF nw s03 _ us (fun e' he=>(z9q he).1) ru
   have lu:=z5j ent
   have kl:=z9o e.1 e.2.2 0
   have hle:=z4l e.2.2
   refine ⟨L,rfl,us,hL4,fun l hl=>⟨ws',?_,?_,?_⟩⟩
   ·rw [z0i (z0u (s4 _ _ hw3) hl)];exact s4 _ _ hw3
   ·rw [List.length_reverse,← lu,← l2];omega
   ·have nlw:wt≠l:=z0u (s4 _ _ hw3) hl
    have nlr:r≠l:=z0u (s4 _ _ hr3) hl
    have gF:∀ b o o',G b=some o→F' b=some o'→o=o':=fun b o o' h1 h2=>by
     have x1:=s4 _ _ (sG3 _ _ h1)
     rw [sF4 _ _ h2] at x1;cases x1;rfl
    have F'r:∀ b o,H3 b=some o→G b=none→F' b=none:=fun b o h1 h2=>by
     cases z:F' b with
     |none=>rfl
     |some o' =>
      have:=nw b o' z (sFG.free h2)
      rw [h1] at this;cases this
    have sGG:Same G (fun b=>match F' b with|some o=>some o|none=>G b):=fun b o h=>by
     show (match F' b with|some o=>some o|none=>G b)=some o
     cases z:F' b with
     |none=>exact h
     |some o'=>rw [gF b o o' h z]
    have sFG':Same F' (fun b=>match F' b with|some o=>some o|none=>G b):=fun b o h=>by
     show (match F' b with|some o=>some o|none=>G b)=some o
     rw [h]
    refine ⟨((kidQ e.1 0 e.2.2 ++ S).flatMap twpE).length,?_,kidQ e.1 0 e.2.2 ++ S,⟨⟨fun b=>match F' b with|some o=>some o|none=>G b,dn ++ [e],ts ++ [.ref a],ws' ++ us.reverse,_,rfl,((s03.trans s4).upd ((s03.trans s4).free hl)).upd hw0,fun b o h hb=>?_,sHG.trans sGG,fun b o h=>?_,?_,?_,?_,z0l,z9v (y1e a1 fun _ _ h=>h.mono sGG) (.cons (EntG.mono sGG ⟨a,p',v',rfl,ga,gp,hp',rv'⟩) .nil),?_,?_⟩,fun e' he=>?_⟩,rfl⟩
    ·rw [List.flatMap_cons,List.flatMap_append,List.length_append,List.length_append,y1a,List.length_cons];omega
    ·cases z:F' b with
     |none=>exact nwG b o (by simpa [z] using h) hb
     |some o' =>
      cases z2:F b with
      |none=>exact s03.free (nw b o' z z2)
      |some o2=>exact nwG b o2 (sFG _ _ z2) hb
    ·have h4:H4 b=some o:=by
      cases z:F' b with
      |none=>exact s4 _ _ (sG3 _ _ (by simpa [z] using h))
      |some o' =>
       have:o' = o:=by simpa [z] using h
       rw [← this];exact sF4 _ _ z
     have nb1:b≠wt:=fun z=>by
      rw [z] at h
      simp only [F'r wt _ hw3 gw,gw] at h
      cases h
     rw [z0i nb1,z0i (z0u h4 hl)];exact h4
    ·show (match F' r with|some o=>some o|none=>G r)=none
     rw [F'r r _ hr3 gr];exact gr
    ·show (match F' wt with|some o=>some o|none=>G wt)=none
     rw [F'r wt _ hw3 gw];exact gw
    ·rw [z0i nrw,z0i nlr];exact s4 _ _ hr3
    ·rw [List.reverse_append]
     exact z9v (y1e a2' fun _ _ h=>h.mono sGG) (all2_rev (y1e ent fun _ _ h=>h.mono sFG'))
    ·rw [eall,List.flatMap_cons,List.flatMap_append,y1a];simp
    ·rcases List.mem_append.mp he with he|he
     ·obtain ⟨⟨j,ej⟩,hm⟩:=z9q he
      have d1:=dp_mem hm
      have z1:=sz_mem hm
      simp only [dp1] at d1
      simp only [z2g] at z1
      rw [ej]
      simp
      omega
     ·exact bd e' (List.mem_cons_of_mem _ he)
end
open PySem L2 VL Pap
def badE (root:Str) (rules:List (Str × Pat)) (e:Plc):Bool:=(decide (e.1=[]) && decide (e.2.1≠root)) || !okN rules e.2.1 (z2p e.2.2)
mutual
theorem twp1_flt (root:Str) (rules:List (Str × Pat)):∀ (p:Part) (path:List Nat),path≠[]→((twp1 path p).filter (badE root rules)).map (·.1)=flt1 rules path p
 |.txt _,_,_=>by simp [twp1,flt1]
 |.tup n ps,path,h=>by
  have h1:=twpL_flt root rules ps path 0
  simp only [twp1,flt1,List.filter_cons]
  have e:badE root rules (path,n,ps) = !okN rules n (z2p ps):=by simp [badE,h]
  rw [e]
  cases okN rules n (z2p ps) <;> simp [h1]
theorem twpL_flt (root:Str) (rules:List (Str × Pat)):∀ (ps:List Part) (path:List Nat) (k:Nat),((twpL path k ps).filter (badE root rules)).map (·.1)=fltL rules path k ps
 | [],_,_=>by simp [twpL,fltL]
 |p::ps,path,k=>by
  have h1:=twp1_flt root rules p (path ++ [k]) (by simp)
  have h2:=twpL_flt root rules ps path (k+1)
  simp only [twpL,fltL,List.filter_append,List.map_append,h1,h2]
end
mutual
theorem flt1_ne (rules:List (Str × Pat)):∀ (p:Part) (path q:List Nat),path≠[]→q∈flt1 rules path p→q≠[]
 |.txt _,_,_,_,h=>by simp [flt1] at h
 |.tup n ps,path,q,hp,h=>by
  simp only [flt1] at h
  rcases List.mem_append.mp h with h|h
  ·split at h
   ·cases h
   ·simp at h;subst h;exact hp
  ·exact fltL_ne rules ps path 0 q h
theorem fltL_ne (rules:List (Str × Pat)):∀ (ps:List Part) (path:List Nat) (k:Nat) (q:List Nat),q∈fltL rules path k ps→q≠[]
 | [],_,_,_,h=>by simp [fltL] at h
 |p::ps,path,k,q,h=>by
  simp only [fltL] at h
  rcases List.mem_append.mp h with h|h
  ·exact flt1_ne rules p _ q (by simp) h
  ·exact fltL_ne rules ps path (k+1) q h
end
theorem allF_eq (root:Str) (rules:List (Str × Pat)) (n:Str) (ps:List Part):((twp1 [] (.tup n ps)).filter (badE root rules)).map (·.1)=allF root rules n ps:=by
 have h1:=twpL_flt root rules ps [] 0
 have h2:=fltL_ne rules ps [] 0
 unfold allF
 simp only [twp1,flt1,List.filter_cons]
 have e:badE root rules ([],n,ps)=(decide (n≠root) || !okN rules n (z2p ps)):=by simp [badE]
 rw [e]
 by_cases ho:okN rules n (z2p ps)=true
 ·by_cases hn:n=root
  ·subst hn;simp [h1,ho]
  ·simp only [hn,ho,ne_eq,not_false_eq_true,decide_true,Bool.true_or,if_true,List.map_cons,h1,List.nil_append,true_and]
   rw [if_pos]
   intro z
   cases hf:fltL rules [] 0 ps with
   |nil=>rw [hf] at z;cases z
   |cons a r =>
    rw [hf] at z
    have:a=[]:=by simpa using z
    exact h2 a (by rw [hf];exact List.mem_cons_self) this
 ·simp [ho,h1]
mutual
theorem twp1_sz {e:Plc}:∀ {p:Part}{path:List Nat},e∈twp1 path p→z0w e.2.2+1≤z2g p
 |.txt _,_,h=>by simp [twp1] at h
 |.tup n ps,path,h=>by
  simp only [twp1] at h
  simp only [z2g]
  rcases List.mem_cons.mp h with rfl|h
  ·show z0w ps+1≤_;omega
  ·have:=twpL_sz (ps:=ps) h;omega
theorem twpL_sz {e:Plc}:∀ {ps:List Part}{path:List Nat}{k:Nat},e∈twpL path k ps→z0w e.2.2+1≤z0w ps
 | [],_,_,h=>by simp [twpL] at h
 |p::ps,path,k,h=>by
  simp only [twpL] at h
  simp only [z0w]
  rcases List.mem_append.mp h with h|h
  ·have:=twp1_sz (p:=p) h;omega
  ·have:=twpL_sz (ps:=ps) h;omega
end
theorem all2_mapL {α β γ:Type}{R:α→β→Prop}{S:γ→β→Prop}{g:α→γ}{as:List α}{bs:List β}(h:All2 R as bs) (m:∀ a b,R a b→S (g a) b):All2 S (as.map g) bs:=by
 induction h with
 |nil=>exact .nil
 |cons r _ ih=>exact .cons (m _ _ r) ih
theorem ifS {c:TT}{t u:TS}{D:Ends}{σ:L2.St}{H:Hp}(h:c σ H fun b H1=>if b=true then t D σ H1 else u D σ H1):tIfS c t u D σ H:=h
section
variable {P:Program}{w:World}{K:PySem.W.Frag}{mg:Str→Option Value}{base:Heap}{f:Addr}{fd:FuncData}
def FltAt (H0 H':Hp) (r:Addr) (q:List Nat) (v:V):Prop:=∃ p,v = .ref p∧H0 p=none∧p≠r∧H' p=some (.lst (intV q))
def y0r:Sp:=fun vs H Q _=>∃ (root:Str) (rules:List (Str × Pat)) (n:Str) (ps:List Part) (vf vp:V),vs=[vf,vp]∧Rep H (z3f root rules) vf∧Rep H (pD (.tup n ps)) vp∧FormOk root rules∧dpL ps≤99∧z0w ps≤1000000 ∧
 ∀ r pv H',H r=none→Same H H'→H' r=some (.lst pv)→All2 (FltAt H H' r) (allF root rules n ps) pv→Q (.ref r) H'
theorem ok_faults {f1 f2 f3 f4:Addr}{fd1 fd2 fd3 fd4:FuncData}(E_faults:Ent K mg "faults" s_faults ["form","paper"] f fd) (T:Zs K mg) (E_look:Ent K mg "look" s_look ["form"] f1 fd1) (E_tables:Ent K mg "tables" s_tables ["rules"] f2 fd2) (E_tuples_with_paths:Ent K mg "tuples_with_paths" s_tuples_with_paths ["paper"] f3 fd3) (E_holds:Ent K mg "holds" s_holds ["part","known"] f4 fd4)
  (G_look:FnOk P w K mg base CX0 25 f1 fd1 ["form"] (spD R_look)) (G_tables:FnOk P w K mg base CX0 29 f2 fd2 ["rules"] (spD R_tables)) (G_tuples_with_paths:FnOk P w K mg base CX0 2 f3 fd3 ["paper"] sp_twp) (G_holds:FnOk P w K mg base CX0 3 f4 fd4 ["part","known"] (spD z8k)) :
  FnOk P w K mg base CX0 30 f fd ["form","paper"] y0r:=by
 refine E_faults.F.ok sc_faults (fun vs H Q E h=>?_) (fun cdv A outer s H vs Q E hr h=>?_)
 ·obtain ⟨_,_,_,_,_,_,rfl,_⟩:=h;rfl
 ·obtain ⟨root,rules,n,ps,vf,vp,rfl,rf,rp,ok,hdp,hsz,q⟩:=h
  have hu:=z4k hr
  refine ⟨_,(z1o (z4e (z1t G_look (hr.mono (by decide)) rfl E_look.g E_look.F.kp E_look.b .nil z0y (z0k (pv 0) z1g)))
   (z1o (z5k (i:=2) sc_faults.nd rfl (Or.inl rfl) (z1t G_tables (hr.mono (by decide)) rfl E_tables.g E_tables.F.kp E_tables.b .nil z0y (z0k (z5z z0v (pv 0) z3j (fun _ _=>rfl)) z1g)))
   (z1o (z5k (i:=3) sc_faults.nd rfl (Or.inl rfl) (z5y z1g))
   (z1o (z7p PassesOwn.never rfl (z5n (z1t G_tuples_with_paths (hr.mono (by decide)) rfl E_tuples_with_paths.g E_tuples_with_paths.F.kp E_tuples_with_paths.b .nil z0y (z0k (pv 1) z1g))) (pg_tup rfl (z9m (z4o (i:=4) sc_faults.nd rfl (Or.inl rfl)) (z9m (z4o (i:=5) sc_faults.nd rfl (Or.inl rfl)) pgs_nil))) (z1o (z5k (i:=6) sc_faults.nd rfl (Or.inl rfl) (pe_and (z8l z5a (pv 4) (z5y z1g) (z1a _)) (pe_one (z8l op_ne (z5z z0v (pv 5) z3j (fun _ _=>rfl)) (z5z z0v (pv 0) z3j (fun _ _=>rfl)) (z1a _)))))
   (z2m (ps_if (PW.pt (pw_or (y2j (pv 6)) (pw_or1 (pt_not (y2j (z1t G_holds (hr.mono (by decide)) rfl E_holds.g E_holds.F.kp E_holds.b .nil z0y (z0k (pv 5) (z0k (pv 2) z1g)))))))) (z2m (z4e (pe_lm PySem.F.slot_list_append PySem.F.type_list_append z1j (pv 3) (z0k (pv 4) z1g)))) y0t))))
   (z2m (ps_ret (pv 3))))))),?_⟩
  have sz:=z0x
  walk_at "rs"
  refine z2s (ds:=[z3f root rules]) (Qd:=fun b d _=>d = .non) ⟨_,_,rfl,rf,rfl⟩ ⟨root,rules,rfl,ok,rfl⟩ fun b1 d1 δ1 v1 H1 s1 ed1 rd1=>?_
  obtain ⟨af,xs,rfl,haf,y1,r1,rfl,e1,y2,r2,rfl,e2,e3⟩:=rf
  cases (show r2=[] from e3)
  cases (show y1 = .str root from e1)
  refine ⟨af,rfl,_,s1 _ _ haf,_,atI1,?_⟩
  refine z2s (ds:=[.lst (rules.map z5p)]) (Qd:=fun b d _=>d = .dct (tabsF rules)) ⟨_,_,rfl,Rep.mono s1 _ _ e2,rfl⟩ ⟨root,rules,rfl,ok,rfl⟩ fun b2 d2 δ2 vk H2 s2 ed2 rd2=>?_
  subst ed2
  refine ⟨by omega,fun r hr0=>?_⟩
  have s12:Same H H2:=s1.trans s2
  have sC:Same H2 (upd H2 r (HO.lst [])):=Same.of_new hr0
  have hrH:H r=none:=s12.free hr0
  refine ⟨n,ps,vp,H2,rfl,sC,Rep.mono s12 _ _ rp,hdp,hsz,fun rt ts G H3 hrt sC3 sG sG3 nwG grt h3 ent=>?_⟩
  have nrr:r≠rt:=fun z=>by rw [← z,z0l] at hrt;cases hrt
  have Gr:G r=none:=by
   cases z:G r with
   |none=>rfl
   |some o=>have:=nwG r o z hr0;rw [z0l] at this;cases this
  have hl3:=z5j ent
  have ln:=twp1_len (.tup n ps) []
  simp only [z2g] at ln
  refine ⟨rt,rfl,⟨_,SqL.of h3⟩,loopL (xs:=ts) (fun i σ H'=>∃ pv x4 x5 x6,σ=[some (.ref af),some vp,some vk,some (.ref r),x4,x5,x6]∧(∀ b o,b≠r→H3 b=some o→H' b=some o)∧H' r=some (.lst pv)∧All2 (fun (e:Plc) v=>∃ p,v = .ref p∧G p=some (.lst (intV e.1))∧upd H2 r (HO.lst []) p=none) (((twp1 [] (.tup n ps)).take i).filter (badE root rules)) pv) ?_ (fun i σ H' _ h=>?_) (fun i x σ H' hx h=>?_) fun σ H' h=>?_⟩
  ·exact ⟨[],none,none,none,rfl,fun b o _ e=>e,sC3 _ _ z0l,.nil⟩
  ·obtain ⟨_,_,_,_,_,k,_⟩:=h
   exact SqL.of (k _ _ (Ne.symm nrr) h3)
  ·obtain ⟨pv,x4,x5,x6,rfl,kp,hr',a2⟩:=h
   obtain ⟨e,ee,a,p,v,rfl,ga,gp,hp,rv⟩:=all2_get ent hx
   have hi:i < (twp1 [] (.tup n ps)).length:=(List.getElem?_eq_some_iff.mp ee).1
   have et:(twp1 [] (.tup n ps)).take (i+1)=(twp1 [] (.tup n ps)).take i ++ [e]:=by rw [List.take_succ,ee];rfl
   rw [et,List.filter_append]
   have toH:Same G H':=fun b o z=>kp b o (fun y=>by rw [y,Gr] at z;cases z) (sG3 _ _ z)
   have sH':Same H2 H':=sG.trans toH
   have pvl:pv.length≤1000001:=by
    rw [← z5j a2]
    refine Nat.le_trans (List.length_filter_le _ _) ?_
    rw [List.length_take];omega
   have npr:p≠r:=fun z=>by rw [z,z0l] at hp;cases hp
   have fin:∀ (b6:Bool) (H5:Hp) (D:Ends),Same H' H5→b6=(decide (e.1=[]) && decide (e.2.1≠root)) →
     (∀ σ H'',(∃ pv x4 x5 x6,σ=[some (.ref af),some vp,some vk,some (.ref r),x4,x5,x6]∧(∀ b o,b≠r→H3 b=some o→H'' b=some o)∧H'' r=some (.lst pv)∧All2 (fun (e:Plc) v=>∃ p,v = .ref p∧G p=some (.lst (intV e.1))∧upd H2 r (HO.lst []) p=none) (((twp1 [] (.tup n ps)).take i).filter (badE root rules) ++ [e].filter (badE root rules)) pv)→D.nx σ H'') →
     tIfS (tOr (tB (tVar 6)) (tNot (tB (y1x (spD z8k) [] E0 (y1p (tVar 5) (y1p (tVar 2) tNil)))))) (tDrop (tLM z5q (tVar 3) (y1p (tVar 4) tNil))) tNext D [some (.ref af),some vp,some vk,some (.ref r),some (.ref p),some v,some (.bl b6)] H5:=by
    intro b6 H5 D s5 e6 hD
    have add:∀ (H6:Hp),Same H' H6→badE root rules e=true→tDrop (tLM z5q (tVar 3) (y1p (tVar 4) tNil)) D [some (.ref af),some vp,some vk,some (.ref r),some (.ref p),some v,some (.bl b6)] H6:=by
     intro H6 s6 hb
     walk_at "rs"
     refine ⟨⟨_,s6 _ _ hr'⟩,_,s6 _ _ hr',by omega,hD _ _ ⟨pv ++ [.ref p],_,_,_,rfl,fun b o nb z=>by rw [z0i nb];exact s6 _ _ (kp b o nb z),z0l,?_⟩⟩
     rw [List.filter_cons_of_pos hb]
     exact z9v a2 (.cons ⟨p,rfl,gp,hp⟩ .nil)
    have skip:∀ (H6:Hp),Same H' H6→badE root rules e=false→D.nx [some (.ref af),some vp,some vk,some (.ref r),some (.ref p),some v,some (.bl b6)] H6:=by
     intro H6 s6 hb
     refine hD _ _ ⟨pv,_,_,_,rfl,fun b o nb z=>s6 _ _ (kp b o nb z),s6 _ _ hr',?_⟩
     rw [List.filter_cons_of_neg (by rw [hb];simp),List.filter_nil,List.append_nil]
     exact a2
    refine ifS ?_
    refine ⟨_,rfl,b6,rfl,?_⟩
    cases b6 with
    |true=>exact iteT (iteT (add H5 s5 (by unfold badE;rw [← e6];rfl)))
    |false =>
     have eb:badE root rules e = !okN rules e.2.1 (z2p e.2.2):=by unfold badE;rw [← e6];rfl
     refine iteF ?_
     show y1x (spD z8k) [] E0 _ _ H5 _
     refine ⟨_,rfl,_,rfl,?_⟩
     show spD z8k [v,vk] H5 _ E0
     refine z2s (ds:=[pD (.tup e.2.1 e.2.2),.dct (tabsF rules)]) (Qd:=fun b d _=>d = .bl (okN rules e.2.1 (z2p e.2.2))) ⟨_,_,rfl,Rep.mono (toH.trans s5) _ _ rv,_,_,rfl,Rep.mono (sH'.trans s5) _ _ rd2,rfl⟩
      ⟨rules,e.2.1,e.2.2,rfl,ok.nd,?_,rfl⟩ fun b3 d3 δ3 v3 H6 s6 ed3 rd3=>?_
     ·have:=twp1_sz (List.mem_of_getElem? ee)
      have:=z4l e.2.2
      simp only [z2g] at *
      omega
     ·subst ed3
      cases (show v3 = .bl _ from rd3)
      refine ⟨_,rfl,?_⟩
      cases hk:okN rules e.2.1 (z2p e.2.2) with
      |true=>exact iteF (skip H6 (s5.trans s6) (by rw [eb,hk];rfl))
      |false=>exact iteT (add H6 (s5.trans s6) (by rw [eb,hk];rfl))
   refine ⟨a,_,rfl,SqT.of (toH _ _ ga),rfl,.ref p,_,rfl,v,_,rfl,rfl,?_⟩
   refine ⟨_,rfl,(by show 0≤sizeLine;omega),fun z hz=>⟨p,rfl,z,rfl,_,(by rw [z0i (z0u (toH _ _ gp) hz)];exact toH _ _ gp),_,z0l,Nat.lt_of_le_of_lt (Nat.le_add_right _ 100) hu,?_⟩⟩
   have s5:Same H' (upd H' z (HO.lst [])):=Same.of_new hz
   by_cases h0:e.1=[]
   ·obtain ⟨av,xs,rfl,hav,w1,r1,rfl,g1,w2,r2,rfl,g2,g3⟩:=id rv
    cases (show w1 = .str e.2.1 from g1)
    refine .inr ⟨by rw [h0];rfl,⟨0,fun i x y e1=>?_,?_⟩,true,rfl,iteT ⟨_,rfl,av,rfl,0,rfl,_,s5 _ _ (toH _ _ hav),_,atI0,_,rfl,af,rfl,0,rfl,_,s5 _ _ (sH' _ _ (s12 _ _ haf)),_,atI0,rfl,?_⟩⟩
    ·rw [h0] at e1;simp [intV] at e1
    ·exact Nat.lt_of_le_of_lt (by omega) hu
    ·have ed:(!decide (V.str e.2.1=V.str root))=(decide (e.1=[]) && decide (e.2.1≠root)):=by simp [h0]
     exact fin _ _ _ s5 ed fun σ H'' h=>h
   ·exact .inl ⟨fun z=>h0 (by simpa [intV] using z),false,rfl,iteF (fin false _ _ s5 (by simp [h0]) fun σ H'' h=>h)⟩
  ·obtain ⟨pv,x4,x5,x6,rfl,kp,hr',a2⟩:=h
   rw [← hl3,List.take_length] at a2
   refine ⟨_,rfl,q r pv H' hrH (fun b o z=>kp b o (fun y=>by rw [y,hrH] at z;cases z) (sC3 _ _ (sC _ _ (s12 _ _ z)))) hr' ?_⟩
   rw [← allF_eq]
   refine all2_mapL a2 fun e v h=>?_
   obtain ⟨p,rfl,gp,hp⟩:=h
   have npr:p≠r:=fun z=>by rw [z,z0l] at hp;cases hp
   exact ⟨p,rfl,s12.free (sC.free hp),npr,kp p _ npr (sG3 _ _ gp)⟩
end
open PySem L2 VL Pap
section
variable {P:Program}{w:World}{K:PySem.W.Frag}{mg:Str→Option Value}{base:Heap}{f:Addr}{fd:FuncData}
def sp_isp:Sp:=fun vs H Q _=>∃ (root:Str) (rules:List (Str × Pat)) (n:Str) (ps:List Part) (vf vp:V),vs=[vf,vp]∧Rep H (z3f root rules) vf∧Rep H (pD (.tup n ps)) vp∧FormOk root rules∧dpL ps≤99∧z0w ps≤1000000 ∧
 ∀ H',Same H H'→Q (.bl (decide (allF root rules n ps=[]))) H'
theorem ok_isp {f1:Addr}{fd1:FuncData}(E_is_paper:Ent K mg "is_paper" s_is_paper ["form","paper"] f fd) (T:Zs K mg) (E_faults:Ent K mg "faults" s_faults ["form","paper"] f1 fd1) (G_faults:FnOk P w K mg base CX0 30 f1 fd1 ["form","paper"] y0r):FnOk P w K mg base CX0 31 f fd ["form","paper"] sp_isp:=by
 refine E_is_paper.F.ok sc_is_paper (fun vs H Q E h=>?_) (fun cdv A outer s H vs Q E hr h=>?_)
 ·obtain ⟨_,_,_,_,_,_,rfl,_⟩:=h;rfl
 ·obtain ⟨root,rules,n,ps,vf,vp,rfl,rf,rp,ok,hdp,hsz,q⟩:=h
  have hu:=z4k hr
  refine ⟨_,(z2m (ps_ret (z8l z5a (z1t G_faults (hr.mono (by decide)) rfl E_faults.g E_faults.F.kp E_faults.b .nil z0y (z0k (pv 0) (z0k (pv 1) z1g))) (z5y z1g) (z1a _)))),?_⟩
  have sz:=z0x
  walk_at "rs"
  refine ⟨root,rules,n,ps,vf,vp,rfl,rf,rp,ok,hdp,hsz,fun r pv H1 hr0 s1 hr1 a2=>?_⟩
  refine ⟨by omega,fun z hz=>⟨r,rfl,pv,by rw [z0i (z0u hr1 hz)];exact hr1,Nat.lt_of_le_of_lt (Nat.le_add_right _ 100) hu,?_⟩⟩
  have l:=z5j a2
  have s2:Same H (upd H1 z (.lst [])):=s1.trans (Same.of_new hz)
  cases hpv:pv with
  |nil =>
   rw [hpv] at l
   have e:allF root rules n ps=[]:=List.length_eq_zero_iff.mp l
   refine .inr ⟨rfl,⟨0,fun i x y e1=>by simp at e1,Nat.lt_of_le_of_lt (by omega) hu⟩,?_⟩
   have:=q _ s2
   rw [e] at this
   exact this
  |cons a b =>
   rw [hpv] at l
   have e:allF root rules n ps≠[]:=fun z=>by rw [z] at l;simp at l
   refine .inl ⟨by simp,?_⟩
   have:=q _ s2
   rw [decide_eq_false e] at this
   exact this
end
open PySem L2 VL Pap
section
variable {X:Cx}
theorem dss_heap1 {s1:Stmt}{rest:List Stmt}{t1:TS}{u:TSd}(V:TSd→TSd) (p1:PS X s1 t1) (h:DSs X rest u) (hs:∀ t,SimS t u→SimS (tSeq t1 t) (V u)):DSs X (s1::rest) (V u):=by
 obtain ⟨t,p,s⟩:=h
 exact ⟨_,z1o p1 p,hs t s⟩
end
mutual
theorem dep_pD:∀ p:Part,dep (pD p)≤2 * dp1 p
 |.txt s=>by simp [pD,dep]
 |.tup n ps=>by
  have:=z9w ps
  simp only [pD,dep,depL,dp1];omega
theorem z9w:∀ ps:List Part,depL (pDs ps)≤2 * dpL ps
 | []=>by simp [pDs,depL]
 |p::ps=>by
  have h1:=dep_pD p
  have h2:=z9w ps
  simp only [pDs,depL,dpL];omega
end
mutual
theorem eqb_pD:∀ p:Part,eqb (pD p)=true
 |.txt s=>rfl
 |.tup n ps=>by have:=z9p ps;simp [pD,eqb,eqbL,this]
theorem z9p:∀ ps:List Part,eqbL (pDs ps)=true
 | []=>rfl
 |p::ps=>by simp [pDs,eqbL,eqb_pD p,z9p ps]
end
mutual
theorem eqb_pat:∀ p:Pat,eqb (patD p)=true
 |.none=>by simp [patD,eqb,eqbL]
 |.one s=>by simp [patD,eqb,eqbL]
 |.row ps=>by simp [patD,eqb,eqbL,y1b ps]
 |.any ps=>by simp [patD,eqb,eqbL,y1b ps]
 |.wrap k p=>by simp [patD,eqb,eqbL,eqb_pat p]
theorem y1b:∀ ps:List Pat,eqbL (z1k ps)=true
 | []=>rfl
 |p::ps=>by simp [z1k,eqbL,eqb_pat p,y1b ps]
end
mutual
theorem dep_pat:∀ p:Pat,dep (patD p)≤2 * dpP p+2
 |.none=>by simp [patD,dep,depL]
 |.one s=>by simp [patD,dep,depL]
 |.row ps=>by have:=y1o ps;simp only [patD,dep,depL,dpP];omega
 |.any ps=>by have:=y1o ps;simp only [patD,dep,depL,dpP];omega
 |.wrap k p=>by have:=dep_pat p;simp only [patD,dep,depL,dpP];omega
theorem y1o:∀ ps:List Pat,depL (z1k ps)≤2 * dpPs ps+2
 | []=>by simp [z1k,depL]
 |p::ps=>by have:=dep_pat p;have:=y1o ps;simp only [z1k,depL,dpPs];omega
end
theorem z8v:∀ rules:List (Str × Pat),eqbL (rules.map fun r=>D.tup [.str r.1,patD r.2])=true
 | []=>rfl
 |r::rs=>by simp only [List.map_cons,eqbL,eqb,eqb_pat,z8v rs];rfl
theorem z8o:∀ rules:List (Str × Pat),(∀ r∈rules,dpP r.2≤20)→depL (rules.map fun r=>D.tup [.str r.1,patD r.2])≤50
 | [],_=>by simp [depL]
 |r::rs,h=>by
  have h1:=dep_pat r.2
  have h2:=h r List.mem_cons_self
  have h3:=z8o rs fun r hr=>h r (List.mem_cons_of_mem _ hr)
  simp only [List.map_cons,depL,dep]
  omega
theorem okA_path (q:List Nat) (h:q.length≤1000):okA (z8 q)=true∧dep (z8 q)≤2:=by
 have h1:∀ q:List Nat,okAL (natD q)=true∧depL (natD q)≤1:=fun q=>by
  induction q with
  |nil=>exact ⟨rfl,by simp [natD,depL]⟩
  |cons a q ih=>exact ⟨by simp only [natD,List.map_cons,okAL,okA];exact ih.1,by have:=ih.2;simp only [natD,List.map_cons,depL,dep] at this ⊢;omega⟩
 exact ⟨by simp only [z8,okA,(h1 q).1,z5e];simp;omega,by have:=(h1 q).2;simp only [z8,dep];omega⟩
theorem okA_paths:∀ qs:List (List Nat),(∀ q∈qs,q.length≤1000)→okAL (z2o qs)=true∧depL (z2o qs)≤2
 | [],_=>⟨rfl,by simp [z2o,depL]⟩
 |q::qs,h=>by
  obtain ⟨h1,h2⟩:=okA_path q (h q List.mem_cons_self)
  obtain ⟨h3,h4⟩:=okA_paths qs fun q hq=>h q (List.mem_cons_of_mem _ hq)
  exact ⟨by simp only [z2o,List.map_cons,okAL,h1,Bool.true_and];exact h3,by simp only [z2o,List.map_cons,depL] at h4 ⊢;omega⟩
theorem allF_len (root:Str) (rules:List (Str × Pat)) (n:Str) (ps:List Part):(allF root rules n ps).length≤z0w ps+2:=by
 have:=z9x rules (.tup n ps) []
 simp only [z2g] at this
 unfold allF
 split <;> simp <;> omega
theorem allF_path (root:Str) (rules:List (Str × Pat)) (n:Str) (ps:List Part):∀ q∈allF root rules n ps,q.length≤dpL ps+1:=fun q hq=>by
 unfold allF at hq
 split at hq
 ·rcases List.mem_cons.mp hq with rfl|hq
  ·simp
  ·have:=y0j rules _ _ _ hq;simp only [dp1] at this;simp at this;omega
 ·have:=y0j rules _ _ _ hq;simp only [dp1] at this;simp at this;omega
theorem flt_reps {H0 H1 H':Hp}{r:Addr}(s:Same H1 H') {qs:List (List Nat)}{pv:List V}(h:All2 (FltAt H0 H1 r) qs pv):Reps H' (z2o qs) pv:=by
 induction h with
 |nil=>rfl
 |cons g _ ih =>
  obtain ⟨p,rfl,_,_,hp⟩:=g
  exact ⟨_,_,rfl,rep_path.mpr ⟨p,rfl,s _ _ hp⟩,ih⟩
theorem tail8 {K:PySem.W.Frag}{D:Ends}{l0 l1 l2 l3 l4 l5 l6 l7 l8 l9 l11 l12:Option V}{H1 H2 H5:Hp}{r:Addr}{qs:List (List Nat)}{pv:List V}(hl:qs.length≤1000000) (hq:∀ q∈qs,q.length≤1000) (s12:Same H1 H2) (s25:Same H2 H5) (hr0:H1 r=none) (hr2:H2 r=some (.lst pv)) (a2:All2 (FltAt H1 H2 r) qs pv)
  (hD:∀ x12 H',Same H1 H'→D.nx [l0,l1,l2,l3,l4,l5,l6,l7,l8,l9,some (.ref r),l11,x12] H') :
  tSeq (tFor (iList K (tVar 10)) (gName 12) (tDrop (tLM z5q (tVar 12) (y1p (tC (V.int 0)) tNil)))) (tDrop (tLM z5q (tVar 10) (y1p (tLst (y1p (tC (V.int 0)) tNil)) tNil))) D [l0,l1,l2,l3,l4,l5,l6,l7,l8,l9,some (.ref r),l11,l12] H5:=by
 have sz:=z0x
 have ln:=z5j a2
 have hpv:∀ v∈pv,∃ p xs,v = .ref p∧H1 p=none∧p≠r∧H5 p=some (.lst xs)∧xs.length≤1000:=by
  intro v hv
  obtain ⟨i,hi,e⟩:=List.getElem_of_mem hv
  obtain ⟨q,eq,p,rfl,h1,h2,h3⟩:=all2_get a2 (i:=i) (b:=v) (by rw [List.getElem?_eq_getElem hi,e])
  exact ⟨p,_,rfl,h1,h2,s25 _ _ h3,by simp only [intV,List.length_map];exact hq q (List.mem_of_getElem? eq)⟩
 refine ⟨_,rfl,r,rfl,⟨_,SqL.of (s25 _ _ hr2)⟩,loopL (xs:=pv) (fun i σ H'=>∃ x12,σ=[l0,l1,l2,l3,l4,l5,l6,l7,l8,l9,some (.ref r),l11,x12]∧Same H1 H'∧H' r=some (.lst pv)∧∀ v∈pv,∃ p xs,v = .ref p∧H1 p=none∧p≠r∧H' p=some (.lst xs)∧xs.length≤1000+i) ⟨_,rfl,s12.trans s25,s25 _ _ hr2,hpv⟩ (fun i σ H' _ h=>?_) (fun i x σ H' hx h=>?_) fun σ H' h=>?_⟩
 ·obtain ⟨_,_,_,h,_⟩:=h
  exact SqL.of h
 ·obtain ⟨x12,rfl,s1,hr,hv⟩:=h
  have hi:=(List.getElem?_eq_some_iff.mp hx).1
  obtain ⟨p,xs,rfl,h1,h2,h3,h4⟩:=hv x (List.mem_of_getElem? hx)
  refine ⟨_,rfl,p,rfl,⟨_,h3⟩,?_⟩
  refine ⟨p,_,_,rfl,rfl,h3,by omega,some (.ref p),rfl,s1.upd h1,by rw [z0i (Ne.symm h2)];exact hr,fun v hv'=>?_⟩
  obtain ⟨p',xs',rfl,k1,k2,k3,k4⟩:=hv v hv'
  by_cases z:p' = p
  ·subst z
   rw [h3] at k3
   exact ⟨p',_,rfl,k1,k2,z0l,by simp;omega⟩
  ·exact ⟨p',xs',rfl,k1,k2,by rw [z0i z];exact k3,by omega⟩
 ·obtain ⟨x12,rfl,s1,hr,hv⟩:=h
  refine ⟨_,rfl,r,rfl,⟨_,hr⟩,(by show 1≤sizeLine;omega),fun z hz=>?_⟩
  have nz:r≠z:=z0u hr hz
  refine ⟨r,_,_,rfl,rfl,by rw [z0i nz];exact hr,by omega,hD x12 _ ((s1.upd (s1.free hz)).upd hr0)⟩
def dTurn8 (u:TSd):TSd:=fun E δ=>∃ (K:PySem.W.Frag) (ns:List Int) (root:Str) (rules:List (Str × Pat)) (n:Str) (ps:List Part) (x3 x4 x6 x7:VL.Slot) (b8:Bool),δ=[.sc K ns,.fz (z3f root rules),.fz (pD (.tup n ps)),x3,x4,.no,x6,x7,rsl b8 (.lst (z2o (allF root rules n ps))),.ob false (.lst [z3f root rules,pD (.tup n ps)]),.no,.no,.no] ∧
 FormOk root rules∧dpL ps≤90∧z0w ps≤900000 ∧
 u E [.sc K ns,.fz (z3f root rules),.fz (pD (.tup n ps)),x3,x4,.no,x6,x7,.fz (.lst (z2o (allF root rules n ps))),.fz (.lst [z3f root rules,pD (.tup n ps)]),.no,.no,.no]
section
variable {P:Program}{w:World}{K:PySem.W.Frag}{mg:Str→Option Value}{base:Heap}{f:Addr}{fd:FuncData}
def R_law (K:PySem.W.Frag):RD:=fun δ Q=>∃ ns:List Int,δ=[.sc K ns]∧Q false (.bl true) [.no]
structure AllE (K:PySem.W.Frag) (mg:Str→Option Value):Prop where
 T:Zs K mg
 kts:PySem.W.kitOne K (.type "bool") (.type "bool")=some true
 E_tuples_beneath:∃ f fd,Ent K mg "tuples_beneath" s_tuples_beneath ["path","part"] f fd
 E_tuples_with_paths:∃ f fd,Ent K mg "tuples_with_paths" s_tuples_with_paths ["paper"] f fd
 E_sign_of:∃ f fd,Ent K mg "sign_of" s_sign_of ["part"] f fd
 E_word:∃ f fd,Ent K mg "word" s_word ["row"] f fd
 E_patterns_within:∃ f fd,Ent K mg "patterns_within" s_patterns_within ["pattern"] f fd
 E_signs:∃ f fd,Ent K mg "signs" s_signs ["pattern"] f fd
 E_bare:∃ f fd,Ent K mg "bare" s_bare ["pattern"] f fd
 E_firsts:∃ f fd,Ent K mg "firsts" s_firsts ["pattern"] f fd
 E_lasts:∃ f fd,Ent K mg "lasts" s_lasts ["pattern"] f fd
 E_link:∃ f fd,Ent K mg "link" s_link ["ends","begins","followers"] f fd
 E_link_row:∃ f fd,Ent K mg "link_row" s_link_row ["patterns","followers"] f fd
 E_link_all:∃ f fd,Ent K mg "link_all" s_link_all ["pattern","followers"] f fd
 E_nexts:∃ f fd,Ent K mg "nexts" s_nexts ["pattern"] f fd
 E_table:∃ f fd,Ent K mg "table" s_table ["pattern"] f fd
 E_agrees:∃ f fd,Ent K mg "agrees" s_agrees ["told","word"] f fd
 E_look_twice:∃ f fd,Ent K mg "look_twice" s_look_twice ["rules"] f fd
 E_look_names:∃ f fd,Ent K mg "look_names" s_look_names ["root","rules"] f fd
 E_look:∃ f fd,Ent K mg "look" s_look ["form"] f fd
 E_tables:∃ f fd,Ent K mg "tables" s_tables ["rules"] f fd
 E_holds:∃ f fd,Ent K mg "holds" s_holds ["part","known"] f fd
 E_faults:∃ f fd,Ent K mg "faults" s_faults ["form","paper"] f fd
 E_is_paper:∃ f fd,Ent K mg "is_paper" s_is_paper ["form","paper"] f fd
 E__law_cell_at:∃ f fd,Ent K mg "_law_cell_at" s__law_cell_at ["_law_script","_law_k"] f fd
 E__law_draws:∃ f fd,Ent K mg "_law_draws" s__law_draws ["_law_script","_law_turn","_law_many_here"] f fd
 E__law_pop:∃ f fd,Ent K mg "_law_pop" s__law_pop ["_law_draws_here"] f fd
 E__law_alike:∃ f fd,Ent K mg "_law_alike" s__law_alike ["_law_found","_law_due"] f fd
 E__law_name:∃ f fd,Ent K mg "_law_name" s__law_name ["_law_k","_law_draw"] f fd
 E__law_wrapped:∃ f fd,Ent K mg "_law_wrapped" s__law_wrapped ["_law_pattern_here","_law_number"] f fd
 E__law_pattern:∃ f fd,Ent K mg "_law_pattern" s__law_pattern ["_law_some","_law_draws_here"] f fd
 E__law_signs:∃ f fd,Ent K mg "_law_signs" s__law_signs ["_law_names","_law_number"] f fd
 E__law_form:∃ f fd,Ent K mg "_law_form" s__law_form ["_law_script","_law_turn","_law_many_here"] f fd
 E__law_text:∃ f fd,Ent K mg "_law_text" s__law_text ["_law_number"] f fd
 E__law_word:∃ f fd,Ent K mg "_law_word" s__law_word ["_law_pattern_here","_law_draws_here"] f fd
 E__law_grown:∃ f fd,Ent K mg "_law_grown" s__law_grown ["_law_table","_law_name_here","_law_draws_here","_law_left","_law_deep"] f fd
 E__law_more:∃ f fd,Ent K mg "_law_more" s__law_more ["_law_pattern_here","_law_signs_met","_law_starts"] f fd
 E__law_ends:∃ f fd,Ent K mg "_law_ends" s__law_ends ["_law_pattern_here","_law_signs_met","_law_starts"] f fd
 E__law_fits:∃ f fd,Ent K mg "_law_fits" s__law_fits ["_law_pattern_here","_law_row"] f fd
 E__law_faults:∃ f fd,Ent K mg "_law_faults" s__law_faults ["_law_table","_law_part","_law_path"] f fd
 E__law_all_faults:∃ f fd,Ent K mg "_law_all_faults" s__law_all_faults ["_law_form_here","_law_paper_here"] f fd
 E__law_paper:∃ f fd,Ent K mg "_law_paper" s__law_paper ["_law_form_here","_law_script","_law_turn","_law_many_here"] f fd
 E__law_bent_row:∃ f fd,Ent K mg "_law_bent_row" s__law_bent_row ["_law_row","_law_at","_law_turn","_law_name_here"] f fd
 E__law_parts:∃ f fd,Ent K mg "_law_parts" s__law_parts ["_law_row"] f fd
 E__law_copy_pattern:∃ f fd,Ent K mg "_law_copy_pattern" s__law_copy_pattern ["_law_pattern_here"] f fd
 E__law_copy_form:∃ f fd,Ent K mg "_law_copy_form" s__law_copy_form ["_law_form_here"] f fd
 E__law_copy_row:∃ f fd,Ent K mg "_law_copy_row" s__law_copy_row ["_law_row"] f fd
 E__law_many:∃ f fd,Ent K mg "_law_many" s__law_many ["_law_cell"] f fd
theorem ok_law (E_law:Ent K mg "law" s_law ["_law_script"] f fd) (U:AllE K mg):FnOk P w K mg base CX0 80 f fd ["_law_script"] (spD (R_law K)):=by
 obtain ⟨T,ktb,⟨f_tuples_beneath,fd_tuples_beneath,E_tuples_beneath⟩,⟨f_tuples_with_paths,fd_tuples_with_paths,E_tuples_with_paths⟩,⟨f_sign_of,fd_sign_of,E_sign_of⟩,⟨f_word,fd_word,E_word⟩,⟨f_patterns_within,fd_patterns_within,E_patterns_within⟩,⟨f_signs,fd_signs,E_signs⟩,⟨f_bare,fd_bare,E_bare⟩,⟨f_firsts,fd_firsts,E_firsts⟩,⟨f_lasts,fd_lasts,E_lasts⟩,⟨f_link,fd_link,E_link⟩,⟨f_link_row,fd_link_row,E_link_row⟩,⟨f_link_all,fd_link_all,E_link_all⟩,⟨f_nexts,fd_nexts,E_nexts⟩,⟨f_table,fd_table,E_table⟩,⟨f_agrees,fd_agrees,E_agrees⟩,⟨f_look_twice,fd_look_twice,E_look_twice⟩,⟨f_look_names,fd_look_names,E_look_names⟩,⟨f_look,fd_look,E_look⟩,⟨f_tables,fd_tables,E_tables⟩,⟨f_holds,fd_holds,E_holds⟩,⟨f_faults,fd_faults,E_faults⟩,⟨f_is_paper,fd_is_paper,E_is_paper⟩,⟨f__law_cell_at,fd__law_cell_at,E__law_cell_at⟩,⟨f__law_draws,fd__law_draws,E__law_draws⟩,⟨f__law_pop,fd__law_pop,E__law_pop⟩,⟨f__law_alike,fd__law_alike,E__law_alike⟩,⟨f__law_name,fd__law_name,E__law_name⟩,⟨f__law_wrapped,fd__law_wrapped,E__law_wrapped⟩,⟨f__law_pattern,fd__law_pattern,E__law_pattern⟩,⟨f__law_signs,fd__law_signs,E__law_signs⟩,⟨f__law_form,fd__law_form,E__law_form⟩,⟨f__law_text,fd__law_text,E__law_text⟩,⟨f__law_word,fd__law_word,E__law_word⟩,⟨f__law_grown,fd__law_grown,E__law_grown⟩,⟨f__law_more,fd__law_more,E__law_more⟩,⟨f__law_ends,fd__law_ends,E__law_ends⟩,⟨f__law_fits,fd__law_fits,E__law_fits⟩,⟨f__law_faults,fd__law_faults,E__law_faults⟩,⟨f__law_all_faults,fd__law_all_faults,E__law_all_faults⟩,⟨f__law_paper,fd__law_paper,E__law_paper⟩,⟨f__law_bent_row,fd__law_bent_row,E__law_bent_row⟩,⟨f__law_parts,fd__law_parts,E__law_parts⟩,⟨f__law_copy_pattern,fd__law_copy_pattern,E__law_copy_pattern⟩,⟨f__law_copy_form,fd__law_copy_form,E__law_copy_form⟩,⟨f__law_copy_row,fd__law_copy_row,E__law_copy_row⟩,⟨f__law_many,fd__law_many,E__law_many⟩⟩:=U
 have G__law_cell_at:FnOk P w K mg base CX0 1 _ _ _ (spD (R_cell K)):=ok_cell E__law_cell_at T
 have G__law_draws:FnOk P w K mg base CX0 1 _ _ _ (spD (R_draws K)):=ok_draws E__law_draws T
 have G__law_many:FnOk P w K mg base CX0 1 _ _ _ (spD R_many):=ok_many E__law_many T
 have G__law_form:FnOk P w K mg base CX0 3 _ _ _ (spD (R_form K)):=ok_form E__law_form T E__law_pop E__law_wrapped E__law_pattern E__law_draws E__law_name E__law_signs
 have G__law_paper:FnOk P w K mg base CX0 33 _ _ _ (spD (R_paper K)):=ok_paper E__law_paper T E__law_pop E__law_word E__law_text E__law_grown E__law_draws
 have G__law_parts:FnOk P w K mg base CX0 31 _ _ _ (spD (R_parts 30)):=ok_parts E__law_parts T 30
 have G__law_bent_row:FnOk P w K mg base CX0 31 _ _ _ (spD (R_bent 30)):=ok_bent E__law_bent_row T 30
 have G__law_copy_row:FnOk P w K mg base CX0 31 _ _ _ (spD (R_copy 30)):=ok_copy E__law_copy_row T 30
 have G__law_copy_form:FnOk P w K mg base CX0 23 _ _ _ (spD R_cform):=ok_cform E__law_copy_form T E__law_copy_pattern
 have G__law_all_faults:FnOk P w K mg base CX0 76 _ _ _ (spD (R_allf 30)):=ok_allf E__law_all_faults T E__law_fits E__law_ends E__law_more E__law_faults 30
 have G__law_alike:FnOk P w K mg base CX0 11 _ _ _ (spD (R_alike 10)):=ok_alike E__law_alike T 10
 have G_look:FnOk P w K mg base CX0 25 _ _ _ (spD R_look):=ok_look E_look T E_look_twice E_look_names E_signs E_patterns_within
 have G_tables:FnOk P w K mg base CX0 29 _ _ _ (spD R_tables):=ok_tables E_tables T E_link E_firsts E_lasts E_bare E_patterns_within E_link_row E_link_all E_signs E_nexts E_table
 have G_tuples_with_paths:FnOk P w K mg base CX0 2 _ _ _ sp_twp:=ok_twp E_tuples_with_paths T E_tuples_beneath
 have G_holds:FnOk P w K mg base CX0 3 _ _ _ (spD z8k):=ok_holds E_holds T E_agrees E_word E_sign_of
 have G_faults:FnOk P w K mg base CX0 30 _ _ _ y0r:=ok_faults E_faults T E_look E_tables E_tuples_with_paths E_holds G_look G_tables G_tuples_with_paths G_holds
 have G_is_paper:FnOk P w K mg base CX0 31 _ _ _ sp_isp:=ok_isp E_is_paper T E_faults G_faults
 refine VL.Fun.dok E_law.F sc_law (fun δ Qd h=>?_) (by decide) (fun cdv A outer s H E δ Qd hr h=>?_)
 ·obtain ⟨_,rfl,_⟩:=h;rfl
 ·obtain ⟨ns,rfl,q⟩:=h
  have hu:=z4k hr
  refine ⟨_,(z0b (z0p (i:=1) sc_law.nd rfl (Or.inl rfl) (z8c G__law_form (hr.mono (by decide)) rfl E__law_form.g E__law_form.F.kp E__law_form.b z0y (pv 0) (z0a z0d (z0a (z0s G__law_many (hr.mono (by decide)) rfl E__law_many.g E__law_many.F.kp E__law_many.b z0y (z0a (z8c G__law_cell_at (hr.mono (by decide)) rfl E__law_cell_at.g E__law_cell_at.F.kp E__law_cell_at.b z0y (pv 0) (z0a z0d z0e)) z0e)) z0e))))
   (z0b (z0p (i:=2) sc_law.nd rfl (Or.inl rfl) (de_callC2 G__law_paper (hr.mono (by decide)) rfl E__law_paper.g E__law_paper.F.kp E__law_paper.b z0y (dv 1) (pv 0) (z0a z0d (z0a z0d z0e))))
   (z0b (z0p (i:=3) sc_law.nd rfl (Or.inl rfl) (z8c G__law_draws (hr.mono (by decide)) rfl E__law_draws.g E__law_draws.F.kp E__law_draws.b z0y (pv 0) (z0a z0d (z0a z0d z0e))))
   (z0b (z0p (i:=4) sc_law.nd rfl (Or.inl rfl) (z0m z3n z3i (z3v ["_law_name_here","_law_pattern_here"] ["_law_script","_law_form_here","_law_paper_here","_law_draws_here","_law_names","_law_k","_law_at","_law_row","_law_due","_law_handed","_law_found","_law_told","_law_path"] rfl (show CScopeG (z0c s_law) ["_law_script","_law_form_here","_law_paper_here","_law_draws_here","_law_names","_law_k","_law_at","_law_row","_law_due","_law_handed","_law_found","_law_told","_law_path"] ["_law_name_here","_law_pattern_here"] _ _ from ⟨rfl,by decide +kernel,by decide +kernel,by decide +kernel,by decide +kernel⟩) (z1l (z0g z0j z0v (pv 1) z0d (fun _ _=>rfl))) (fun _ _ _ _ _=>(dgn_tup (m:=2) rfl (z4b (z1s (i:=0) (by decide) (show List.Nodup (["_law_name_here","_law_pattern_here","_law_script","_law_form_here","_law_paper_here","_law_draws_here","_law_names","_law_k","_law_at","_law_row","_law_due","_law_handed","_law_found","_law_told","_law_path"]:List Str) from by decide +kernel) rfl (Or.inl rfl)) (z4b (z1s (i:=1) (by decide) (show List.Nodup (["_law_name_here","_law_pattern_here","_law_script","_law_form_here","_law_paper_here","_law_draws_here","_law_names","_law_k","_law_at","_law_row","_law_due","_law_handed","_law_found","_law_told","_law_path"]:List Str) from by decide +kernel) rfl (Or.inl rfl)) z9u)))) (fun _ _ _ _ _=>z5v) (fun _ _ _ _ _=>(dv 0))) (z1f (z0a z0z z0e))))
   (z0b (z2t PassesOwn.never rfl (z4c rfl T.z_range (z0a (z0m z1q z1p (z0g z2j z1z (pv 3) z0d (fun _ _=>rfl)) z0d) z0e)) (z1n (i:=5) sc_law.nd rfl (Or.inl rfl)) (z0b (z0p (i:=6) sc_law.nd rfl (Or.inl rfl) (z1f (z0a (z0m z2h z2n z0d (z0m z1q z1p (z0g z2j z1z (pv 3) (z0m z2h z2n z0d (dv 5)) (fun _ _=>rfl)) (z1r cs_max2 (call_max2 rfl) rfl T.z_max PyProof.Rows.boot_max (z0a z0d (z0a (z0s G__law_parts (hr.mono (by decide)) rfl E__law_parts.g E__law_parts.F.kp E__law_parts.b z0y (z0a (z0g z0j z0v (pv 2) z0d (fun _ _=>rfl)) z0e)) z0e))))) z0e)))
   (z0b (z0p (i:=7) sc_law.nd rfl (Or.inl rfl) (z2e (i:=6) G__law_bent_row (hr.mono (by decide)) rfl E__law_bent_row.g E__law_bent_row.F.kp E__law_bent_row.b z0y (da_v (z0g z0j z0v (pv 2) z0d (fun _ _=>rfl)) (da_o (pv 6) (da_v (z0m z1q z1p (z0g z2j z1z (pv 3) (z0m z2h z2n z0d (dv 5)) (fun _ _=>rfl)) z0d) (da_v (z0g z2j z1z (pv 4) (z0m z1q z1p (z0g z2j z1z (pv 3) (z0m z2h z2n z0d (dv 5)) (fun _ _=>rfl)) (z1u z3o z1i rfl T.z_len PySem.boot_len (pv 4))) (fun _ _=>rfl)) z4q))))))
   (z0f (z0p (i:=2) sc_law.nd rfl (Or.inl rfl) (z2a (z0a (z0g z0j z0v (pv 2) z0d (fun _ _=>rfl)) (z0a (dv 7) z0e))))))))
   (z0b (z1m (z1c z3d z3a (z0m z1q z1p (z0g z2j z1z (pv 3) z0d (fun _ _=>rfl)) z0d) z0d (z1a _)) (z0f (z0p (i:=2) sc_law.nd rfl (Or.inl rfl) (z2a (z0a (z0g z2j z1z (pv 4) (z0m z1q z1p (z0m z3b z2d (z0g z2j z1z (pv 3) z0d (fun _ _=>rfl)) z0d) (z1u z3o z1i rfl T.z_len PySem.boot_len (pv 4))) (fun _ _=>rfl)) (z0a (z0g z0j z0v (pv 2) z0d (fun _ _=>rfl)) z0e))))) z0t)
   (z0b (z0p (i:=2) sc_law.nd rfl (Or.inl rfl) (z2a (z0a (z0g z0j z0v (pv 2) z0d (fun _ _=>rfl)) (z0a (z0s G__law_copy_row (hr.mono (by decide)) rfl E__law_copy_row.g E__law_copy_row.F.kp E__law_copy_row.b z0y (z0a (z0g z0j z0v (pv 2) z0d (fun _ _=>rfl)) z0e)) z0e))))
   (z0b (z0p (i:=8) sc_law.nd rfl (Or.inl rfl) (z0s G__law_all_faults (hr.mono (by decide)) rfl E__law_all_faults.g E__law_all_faults.F.kp E__law_all_faults.b z0y (z0a (dv 1) (z0a (dv 2) z0e))))
   (z0b (z0p (i:=9) sc_law.nd rfl (Or.inl rfl) (z1f (z0a (z0s G__law_copy_form (hr.mono (by decide)) rfl E__law_copy_form.g E__law_copy_form.F.kp E__law_copy_form.b z0y (z0a (dv 1) z0e)) (z0a (z2a (z0a (z0g z0j z0v (pv 2) z0d (fun _ _=>rfl)) (z0a (z0s G__law_copy_row (hr.mono (by decide)) rfl E__law_copy_row.g E__law_copy_row.F.kp E__law_copy_row.b z0y (z0a (z0g z0j z0v (pv 2) z0d (fun _ _=>rfl)) z0e)) z0e))) z0e))))
   (dss_heap1 dTurn8 (z7p PassesOwn.never rfl (pi_range1 rfl T.z_range (z0k z3j z1g)) (z4o (i:=5) sc_law.nd rfl (Or.inl rfl)) (z1o (z5k (i:=10) sc_law.nd rfl (Or.inl rfl) (z1t G_faults (hr.mono (by decide)) rfl E_faults.g E_faults.F.kp E_faults.b .nil z0y (z0k (z5z z1z (pv 9) z3j (fun _ _=>rfl)) (z0k (z5z z1z (pv 9) z3j (fun _ _=>rfl)) z1g))))
   (z1o (z5k (i:=11) sc_law.nd rfl (Or.inl rfl) (z1t G_is_paper (hr.mono (by decide)) rfl E_is_paper.g E_is_paper.F.kp E_is_paper.b .nil z0y (z0k (z5z z1z (pv 9) z3j (fun _ _=>rfl)) (z0k (z5z z1z (pv 9) z3j (fun _ _=>rfl)) z1g))))
   (z1o (ps_if (PW.pt (pw_or (pt_not (y2j (z1t G__law_alike (hr.mono (by decide)) rfl E__law_alike.g E__law_alike.F.kp E__law_alike.b .nil z0y (z0k (pv 10) (z0k (pv 8) z1g))))) (pw_or (pt_not (y2j (z9y (z1d (K:=K) rfl) rfl T.z_isinstance PyProof.Rows.boot_isinstance (z0k (pv 11) (z0k (pe_bltn (v:=.ty "bool") rfl T.z_bool PyProof.Rows.boot_bool rfl) z1g))))) (pw_or1 (z8s op_ne (pv 11) (z8l z5a (pv 8) (z5y z1g) (z1a _)) (z1a _)))))) (z2m (ps_ret pe_bl)) y0t)
   (z1o (z7p PassesOwn.never rfl (z5n (pv 10)) (z4o (i:=12) sc_law.nd rfl (Or.inl rfl)) (z2m (z4e (pe_lm PySem.F.slot_list_append PySem.F.type_list_append z1j (pv 12) (z0k z3j z1g)))))
   (z2m (z4e (pe_lm PySem.F.slot_list_append PySem.F.type_list_append z1j (pv 10) (z0k (z5y (z0k z3j z1g)) z1g)))))))))
   (z0f (z0n (de_cmpV (os_eqL hu) z5a (pv 9) (z1f (z0a (dv 1) (z0a (dv 2) z0e))) (z1a _)))) ?five)))))))))),?_⟩
  case five =>
   intro t st io H0 F0 F δ σ H E Ed I q S
   obtain ⟨K',ns',root,rules,n,ps,x3,x4,x6,x7,b8,rfl,ok,hdp,hsz,q⟩:=q
   have sz:=z0x
   obtain ⟨F',J,sJ⟩:∃ F',EI io H0 F0 F' [.sc K' ns',.fz (z3f root rules),.fz (pD (.tup n ps)),x3,x4,.no,x6,x7,.fz (.lst (z2o (allF root rules n ps))),.fz (.lst [z3f root rules,pD (.tup n ps)]),.no,.no,.no] σ H∧Same F F':=by
    obtain ⟨F1,J1,s1⟩:∃ F1,EI io H0 F0 F1 [.sc K' ns',.fz (z3f root rules),.fz (pD (.tup n ps)),x3,x4,.no,x6,x7,.fz (.lst (z2o (allF root rules n ps))),.ob false (.lst [z3f root rules,pD (.tup n ps)]),.no,.no,.no] σ H∧Same F F1:=by
     cases b8 with
     |false=>exact ⟨F,I,Same.refl _⟩
     |true =>
      obtain ⟨F',a,s,I',_⟩:=I.freeze (i:=8) rfl
      exact ⟨F',I',s⟩
    obtain ⟨F2,a,s2,J2,_⟩:=J1.freeze (i:=9) rfl
    exact ⟨F2,J2,s1.trans s2⟩
   obtain ⟨l0,l1,l2,l3,l4,l5,l6,l7,l8,l9,l10,l11,l12,rfl⟩:∃ l0 l1 l2 l3 l4 l5 l6 l7 l8 l9 l10 l11 l12,σ=[l0,l1,l2,l3,l4,l5,l6,l7,l8,l9,l10,l11,l12]:=by
    have hl:=J.len.symm
    obtain ⟨l0,t0,d0,g0⟩:=lenSS hl
    obtain ⟨l1,t1,d1,g1⟩:=lenSS g0
    obtain ⟨l2,t2,d2,g2⟩:=lenSS g1
    obtain ⟨l3,t3,d3,g3⟩:=lenSS g2
    obtain ⟨l4,t4,d4,g4⟩:=lenSS g3
    obtain ⟨l5,t5,d5,g5⟩:=lenSS g4
    obtain ⟨l6,t6,d6,g6⟩:=lenSS g5
    obtain ⟨l7,t7,d7,g7⟩:=lenSS g6
    obtain ⟨l8,t8,d8,g8⟩:=lenSS g7
    obtain ⟨l9,t9,d9,g9⟩:=lenSS g8
    obtain ⟨l10,t10,d10,g10⟩:=lenSS g9
    obtain ⟨l11,t11,d11,g11⟩:=lenSS g10
    obtain ⟨l12,t12,d12,g12⟩:=lenSS g11
    exact ⟨l0,l1,l2,l3,l4,l5,l6,l7,l8,l9,l10,l11,l12,by rw [d0,d1,d2,d3,d4,d5,d6,d7,d8,d9,d10,d11,d12,List.eq_nil_of_length_eq_zero g12]⟩
   obtain ⟨v8,e8,r8⟩:=J.get 8 _ rfl
   obtain ⟨v9,e9,r9⟩:=J.get 9 _ rfl
   cases (show l8=some v8 from e8)
   cases (show l9=some v9 from e9)
   obtain ⟨a9,us,rfl,h9,vf,r1,rfl,rf,vp,r2,rfl,rp,r3⟩:=r9
   cases (show r2=[] from r3)
   obtain ⟨a8,us8,rfl,h8,rs8⟩:=id r8
   have al:=allF_len root rules n ps
   have ap:=allF_path root rules n ps
   generalize hal:allF root rules n ps=qs at *
   have ok1:=okA_paths qs fun q hq=>by have:=ap q hq;omega
   have pl:(z2o qs).length=qs.length:=by simp [z2o]
   walk_at "rs"
   refine ⟨by decide,by decide,loopR (fun i σ H'=>∃ x5 x10 x11 x12,σ=[l0,l1,l2,l3,l4,x5,l6,l7,some (.ref a8),some (.ref a9),x10,x11,x12]∧Same H H') ⟨_,_,_,_,rfl,Same.refl _⟩ ?_ ?_⟩
   ·rintro i σ H1 hi ⟨x5,x10,x11,x12,rfl,s1⟩
    have sF1:Same F' H1:=J.sub.trans s1
    walk_at "rs"
    refine ⟨_,sF1 _ _ h9,_,atI0,_,sF1 _ _ h9,_,atI1,root,rules,n,ps,vf,vp,rfl,Rep.mono sF1 _ _ rf,Rep.mono sF1 _ _ rp,ok,by omega,by omega,fun r pv H2 hr0 s2 hr2 a2=>?_⟩
    rw [hal] at a2
    have sF2:=sF1.trans s2
    refine ⟨_,sF2 _ _ h9,_,atI0,_,sF2 _ _ h9,_,atI1,root,rules,n,ps,vf,vp,rfl,Rep.mono sF2 _ _ rf,Rep.mono sF2 _ _ rp,ok,by omega,by omega,fun H3 s3=>ifS ?_⟩
    rw [hal]
    have sF3:=sF2.trans s3
    show y1x (spD (R_alike 10)) [] E0 _ _ H3 _
    refine ⟨_,rfl,_,rfl,?_⟩
    show spD (R_alike 10) [.ref r,.ref a8] H3 _ E0
    refine z2s (ds:=[.lst (z2o qs),.lst (z2o qs)]) (Qd:=fun b d _=>d = .bl true) ⟨_,_,rfl,⟨r,pv,rfl,s3 _ _ hr2,flt_reps s3 a2⟩,_,_,rfl,Rep.mono sF3 _ _ r8,rfl⟩ ⟨_,rfl,by simp only [dep];omega,by simp only [okA,ok1.1,pl];simp;omega,rfl⟩ fun b1 d1 δ1 v1 H4 s4 ed1 rd1=>?_
    subst ed1
    cases (show v1 = .bl true from rd1)
    refine ⟨true,rfl,iteF ?_⟩
    refine ⟨_,rfl,_,"bool",rfl,_,.bl _,true,ktb,true,rfl,iteF ?_⟩
    have sF4:=sF3.trans s4
    refine ⟨_,rfl,_,rfl,(by show 0≤sizeLine;omega),fun z hz=>?_⟩
    have s5:Same H4 (upd H4 z (HO.lst [])):=Same.of_new hz
    have h8':(upd H4 z (HO.lst [])) a8=some (.lst us8):=s5 _ _ (sF4 _ _ h8)
    have l8:=rs8.len
    refine ⟨a8,rfl,z,rfl,us8,h8',[],z0l,Nat.lt_of_le_of_lt (Nat.le_add_right _ 100) hu,?_⟩
    generalize upd H4 z (HO.lst [])=H5 at s5 h8' ⊢
    have go:∀ b:Bool,b=decide (qs=[])→scal (V.bl (decide (qs=[]))) (V.bl b)=true∧(!decide (V.bl (decide (qs=[]))=V.bl b))=false:=fun b e=>by subst e;exact ⟨rfl,by simp⟩
    have sH5:Same H2 H5:=(s3.trans s4).trans s5
    by_cases hq:qs=[]
    ·refine .inr ⟨?_,⟨0,fun i x y e1 e2=>?_,Nat.lt_of_le_of_lt (by omega) hu⟩,(go true (by simp [hq])).1,false,congrArg V.bl (go true (by simp [hq])).2,iteF ?_⟩
     ·rw [← l8,pl,hq];rfl
     ·simp at e2
     ·exact tail8 (by omega) (fun q hq=>by have:=ap q hq;omega) s2 sH5 hr0 hr2 a2 fun x H' s=>⟨_,_,_,_,rfl,s1.trans s⟩
    ·refine .inl ⟨?_,(go false (by simp [hq])).1,false,congrArg V.bl (go false (by simp [hq])).2,iteF ?_⟩
     ·rw [← l8,pl]
      intro z
      exact hq (List.length_eq_zero_iff.mp z)
     ·exact tail8 (by omega) (fun q hq=>by have:=ap q hq;omega) s2 sH5 hr0 hr2 a2 fun x H' s=>⟨_,_,_,_,rfl,s1.trans s⟩
   ·rintro σ H1 ⟨x5,x10,x11,x12,rfl,s1⟩
    have J1:EI io H0 F0 F' [.sc K' ns',.fz (z3f root rules),.fz (pD (.tup n ps)),x3,x4,.no,x6,x7,.fz (.lst (z2o qs)),.fz (.lst [z3f root rules,pD (.tup n ps)]),.no,.no,.no] [l0,l1,l2,l3,l4,l5,l6,l7,some (.ref a8),some (.ref a9),l10,l11,l12] H1:=by
     refine J.back0 (Same.refl _) s1 (J.sub.trans s1) fun b o e1 e2=>?_
     rw [e1] at e2;cases e2
    exact st io H0 F0 _ _ _ H1 E Ed (EI.junk (i:=12) (o:=x12) (EI.junk (i:=11) (o:=x11) (EI.junk (i:=10) (o:=x10) (EI.junk (i:=5) (o:=x5) J1 rfl) rfl) rfl) rfl) q (S.mono sJ)
  have sz:=z0x
  walk_at "vd"
  refine ⟨ns,0,rfl,?_⟩
  walk_at "vd"
  refine ⟨_,rfl,fun m hm1 hm2=>?_⟩
  walk_at "vd"
  refine ⟨ns,2,m,rfl,by omega,hm1,hm2,fun root rules ok=>?_⟩
  have hrl:=ok.len
  walk_at "vd"
  refine ⟨root,rules,ns,200,rfl,ok,by omega,fun ps0 hs0 hd0=>?_⟩
  simp only [z3f,pD]
  walk_at "vd"
  refine ⟨ns,500,8,rfl,by omega,by omega,fun ms hms=>?_⟩
  walk_at "vd"
  refine comp2x (fun r=>.str r.1) (by omega) (fun r hr P hP=>?_) ?_
  ·walk_at "vd"
   exact hP
  ·have em:rules.map (fun r=>D.str r.1)=(rules.map (·.1)).map D.str:=by rw [List.map_map];rfl
   rw [em]
   walk_at "vd"
   obtain ⟨x0,e0⟩:=z4t (ns:=ms) (i:=0) (by decide) (by rw [hms];decide)
   refine ⟨by omega,by simp;omega,_,e0,?_⟩
   walk_at "vd"
   have b1:=z2y (a:=x0) (b:=3) (by decide)
   have b2:=z3c (a:=x0) (b:=3) (by decide)
   have em2:List.map D.str (List.map (fun x=>x.fst) rules) ++ [D.str (Str.ofString "zzzzzzzzzzzz")]=(rules.map (·.1) ++ [("zzzzzzzzzzzz":Str)]).map D.str:=by rw [List.map_append];rfl
   rw [em2]
   have zl:0 < (rules.map (·.1) ++ [("zzzzzzzzzzzz":Str)]).length:=by simp
   have zl2:(rules.map (·.1) ++ [("zzzzzzzzzzzz":Str)]).length≤9:=by simp;omega
   generalize rules.map (·.1) ++ [("zzzzzzzzzzzz":Str)]=zs at zl zl2 ⊢
   have zat:∀ x:Int,∃ z,atI (zs.map D.str) (x % ((zs.map D.str).length:Int))=some (.str z):=fun x=>by
    have h0:(0:Int) < ((zs.map D.str).length:Int):=by rw [List.length_map];omega
    obtain ⟨d,hd,e⟩:=atI_ex (xs:=zs.map D.str) (i:=x % ((zs.map D.str).length:Int)) (z2y h0) (z3c h0)
    obtain ⟨z,_,rfl⟩:=List.mem_map.mp hd
    exact ⟨z,e⟩
   refine ⟨by decide,by omega,by omega,loopN [5,6,7] (fun i δ=>∃ ps:List Part,z0w ps≤2 ^ i * 200030∧dpL ps≤9+i∧δ=[.sc K ns,.fz (z3f root rules),.fz (.tup [.str root,.lst (pDs ps)]),.ob false (.lst (ms.map .int)),.ob false (.lst (zs.map .str)),.no,.no,.no,.no,.no,.no,.no,.no]) ⟨ps0,by omega,by omega,rfl⟩ ?_ ?_⟩
   ·rintro i δ hi ⟨ps,h1,h2,rfl⟩
    have hi2:i < 2:=by omega
    have pw:2 ^ i≤2:=by
     rcases (show i=0∨i=1 by omega) with rfl|rfl <;> decide
    obtain ⟨y1,g1⟩:=z4t (ns:=ms) (i:=1+(i:Int)) (by omega) (by rw [hms];omega)
    obtain ⟨y3,g3⟩:=z4t (ns:=ms) (i:=3+(i:Int)) (by omega) (by rw [hms];omega)
    obtain ⟨y5,g5⟩:=z4t (ns:=ms) (i:=5+(i:Int)) (by omega) (by rw [hms];omega)
    have hs':z0w ps≤400060:=Nat.le_trans h1 (by omega)
    walk_at "vd"
    refine ⟨_,g1,ps,rfl,by omega,?_⟩
    walk_at "vd"
    refine ⟨by split <;> omega,by omega,_,g3,?_⟩
    walk_at "vd"
    obtain ⟨z,ez⟩:=zat y5
    have h0:(0:Int) < ((zs.map D.str).length:Int):=by rw [List.length_map];omega
    refine ⟨by decide,_,g5,?_⟩
    walk_at "vd"
    refine ⟨h0,_,ez,ps,_,_,z,rfl,by omega,by omega,fun qs a' k1 k2=>?_⟩
    walk_at "vd"
    refine ⟨by omega,qs,?_,by omega,rfl⟩
    rw [Nat.pow_succ]
    omega
   ·rintro δ ⟨ps,h1,h2,rfl⟩
    have pw:2 ^ (x0 % 3).toNat≤4:=by
     rcases (show (x0 % 3).toNat=0∨(x0 % 3).toNat=1∨(x0 % 3).toNat=2 by omega) with h|h|h <;> rw [h] <;> decide
    have hs':z0w ps≤800120:=Nat.le_trans h1 (by omega)
    obtain ⟨y7,g7⟩:=z4t (ns:=ms) (i:=7) (by decide) (by rw [hms];decide)
    walk_at "vd"
    refine ⟨_,g7,?_⟩
    walk_at "vd"
    have h0:(0:Int) < ((zs.map D.str).length:Int):=by rw [List.length_map];omega
    obtain ⟨z,ez⟩:=zat (y7 / 8)
    refine ⟨by decide,ite2 (fun _=>⟨_,g7,?_⟩) fun _=>?_⟩
    ·walk_at "vd"
     refine ⟨⟨by decide,by decide⟩,h0,_,ez,by omega,?_⟩
     refine ⟨ps,rfl,by omega,by omega,by omega,?_⟩
     walk_at "vd"
     refine ⟨root,rules,z,ps,rfl,ok,by omega,by omega,by omega,fun b8=>?_⟩
     walk_at "vd"
     refine ⟨root,rules,rfl,ok,?_⟩
     walk_at "vd"
     refine ⟨ps,rfl,by omega,by omega,?_⟩
     walk_at "vd"
     refine ⟨by omega,by omega,K,ns,root,rules,z,ps,_,_,_,_,b8,rfl,ok,by omega,by omega,?_⟩
     simp only [z3f,pD]
     walk_at "vd"
     have dr:=z8o rules fun r hr=>(ok.pat r hr).dp
     have er:=z8v rules
     have dq:=z9w ps
     have eq:=z9p ps
     refine ⟨by omega,_,_,rfl,rfl,.inr ⟨rfl,?_,?_,q⟩⟩
     ·simp only [eqbL,eqb,er,eq];rfl
     ·simp only [depL,dep];omega
    ·refine ⟨ps,rfl,by omega,by omega,by omega,?_⟩
     walk_at "vd"
     refine ⟨root,rules,root,ps,rfl,ok,by omega,by omega,by omega,fun b8=>?_⟩
     walk_at "vd"
     refine ⟨root,rules,rfl,ok,?_⟩
     walk_at "vd"
     refine ⟨ps,rfl,by omega,by omega,?_⟩
     walk_at "vd"
     refine ⟨by omega,by omega,K,ns,root,rules,root,ps,_,_,_,_,b8,rfl,ok,by omega,by omega,?_⟩
     simp only [z3f,pD]
     walk_at "vd"
     have dr:=z8o rules fun r hr=>(ok.pat r hr).dp
     have er:=z8v rules
     have dq:=z9w ps
     have eq:=z9p ps
     refine ⟨by omega,_,_,rfl,rfl,.inr ⟨rfl,?_,?_,q⟩⟩
     ·simp only [eqbL,eqb,er,eq];rfl
     ·simp only [depL,dep];omega
end
open PySem L2 VL PyProof.Rows
@[elab_as_elim] theorem lnS {α:Type _}{P:List α→Prop}{n:Nat}(us:List α) (h:us.length=n+1) (k:∀ a r,r.length=n→P (a::r)):P us:=by
 cases us with
 |nil=>cases h
 |cons a r=>exact k a r (Nat.succ.inj h)
@[elab_as_elim] theorem ln0 {α:Type _}{P:List α→Prop}(us:List α) (h:us.length=0) (k:P []):P us:=by
 cases us with
 |nil=>exact k
 |cons a r=>cases h
@[elab_as_elim] theorem ln1 {α:Type _}{P:List α→Prop}(us:List α) (h:us.length=1) (k:∀ a,P [a]):P us :=
 lnS us h fun a r h=>ln0 (P:=fun r=>P (a::r)) r h (k a)
@[elab_as_elim] theorem ln2 {α:Type _}{P:List α→Prop}(us:List α) (h:us.length=2) (k:∀ a b,P [a,b]):P us :=
 lnS us h fun a r h=>ln1 (P:=fun r=>P (a::r)) r h (k a)
@[elab_as_elim] theorem ln3 {α:Type _}{P:List α→Prop}(us:List α) (h:us.length=3) (k:∀ a b c,P [a,b,c]):P us :=
 lnS us h fun a r h=>ln2 (P:=fun r=>P (a::r)) r h (k a)
@[elab_as_elim] theorem ln4 {α:Type _}{P:List α→Prop}(us:List α) (h:us.length=4) (k:∀ a b c d,P [a,b,c,d]):P us :=
 lnS us h fun a r h=>ln3 (P:=fun r=>P (a::r)) r h (k a)
@[elab_as_elim] theorem ln5 {α:Type _}{P:List α→Prop}(us:List α) (h:us.length=5) (k:∀ a b c d e,P [a,b,c,d,e]):P us :=
 lnS us h fun a r h=>ln4 (P:=fun r=>P (a::r)) r h (k a)
set_option maxHeartbeats 0 in
theorem all_mk {K:PySem.W.Frag}{h:Heap}{mg:Str→Option Value}{tk_TEXT_SIGN:Tok}(X:K.In h) (G:h.Ns mainGlobals mg) {f1 f2 f3 f4 f5 f6 f7 f8 f9 f10 f11 f12 f13 f14 f15 f16 f17 f18 f19 f20 f21 f22 f23 f24 f25 f26 f27 f28 f29 f30 f31 f32 f33 f34 f35 f36 f37 f38 f39 f40 f41 f42 f43 f44 f45 f46 f47:Addr}{od1 an1 od2 an2 od3 an3 od4 an4 od5 an5 od6 an6 od7 an7 od8 an8 od9 an9 od10 an10 od11 an11 od12 an12 od13 an13 od14 an14 od15 an15 od16 an16 od17 an17 od18 an18 od19 an19 od20 an20 od21 an21 od22 an22 od23 an23 od24 an24 od25 an25 od26 an26 od27 an27 od28 an28 od29 an29 od30 an30 od31 an31 od32 an32 od33 an33 od34 an34 od35 an35 od36 an36 od37 an37 od38 an38 od39 an39 od40 an40 od41 an41 od42 an42 od43 an43 od44 an44 od45 an45 od46 an46 od47 an47:Option Addr}{sl1 sl2 sl3 sl4 sl5 sl6 sl7 sl8 sl9 sl10 sl11 sl12 sl13 sl14 sl15 sl16 sl17 sl18 sl19 sl20 sl21 sl22 sl23 sl24 sl25 sl26 sl27 sl28 sl29 sl30 sl31 sl32 sl33 sl34 sl35 sl36 sl37 sl38 sl39 sl40 sl41 sl42 sl43 sl44 sl45 sl46 sl47:Array (Option Value)}{oc1 kV1 dc1 pm1 cd1 ct1 oc2 kV2 dc2 pm2 cd2 ct2 oc3 kV3 dc3 pm3 cd3 ct3 oc4 kV4 dc4 pm4 cd4 ct4 oc5 kV5 dc5 pm5 cd5 ct5 oc6 kV6 dc6 pm6 cd6 ct6 oc7 kV7 dc7 pm7 cd7 ct7 oc8 kV8 dc8 pm8 cd8 ct8 oc9 kV9 dc9 pm9 cd9 ct9 oc10 kV10 dc10 pm10 cd10 ct10 oc11 kV11 dc11 pm11 cd11 ct11 oc12 kV12 dc12 pm12 cd12 ct12 oc13 kV13 dc13 pm13 cd13 ct13 oc14 kV14 dc14 pm14 cd14 ct14 oc15 kV15 dc15 pm15 cd15 ct15 oc16 kV16 dc16 pm16 cd16 ct16 oc17 kV17 dc17 pm17 cd17 ct17 oc18 kV18 dc18 pm18 cd18 ct18 oc19 kV19 dc19 pm19 cd19 ct19 oc20 kV20 dc20 pm20 cd20 ct20 oc21 kV21 dc21 pm21 cd21 ct21 oc22 kV22 dc22 pm22 cd22 ct22 oc23 kV23 dc23 pm23 cd23 ct23 oc24 kV24 dc24 pm24 cd24 ct24 oc25 kV25 dc25 pm25 cd25 ct25 oc26 kV26 dc26 pm26 cd26 ct26 oc27 kV27 dc27 pm27 cd27 ct27 oc28 kV28 dc28 pm28 cd28 ct28 oc29 kV29 dc29 pm29 cd29 ct29 oc30 kV30 dc30 pm30 cd30 ct30 oc31 kV31 dc31 pm31 cd31 ct31 oc32 kV32 dc32 pm32 cd32 ct32 oc33 kV33 dc33 pm33 cd33 ct33 oc34 kV34 dc34 pm34 cd34 ct34 oc35 kV35 dc35 pm35 cd35 ct35 oc36 kV36 dc36 pm36 cd36 ct36 oc37 kV37 dc37 pm37 cd37 ct37 oc38 kV38 dc38 pm38 cd38 ct38 oc39 kV39 dc39 pm39 cd39 ct39 oc40 kV40 dc40 pm40 cd40 ct40 oc41 kV41 dc41 pm41 cd41 ct41 oc42 kV42 dc42 pm42 cd42 ct42 oc43 kV43 dc43 pm43 cd43 ct43 oc44 kV44 dc44 pm44 cd44 ct44 oc45 kV45 dc45 pm45 cd45 ct45 oc46 kV46 dc46 pm46 cd46 ct46 oc47 kV47 dc47 pm47 cd47 ct47:Value}
  (a1:PySem.W.nsIn K mainGlobals "tuples_beneath" = some (some (.ref f1))) (l1:K.lookup f1=some ⟨oc1,od1,.func (PySem.W.fnOf "tuples_beneath" "tuples_beneath" (z0q s_tuples_beneath) (z0o s_tuples_beneath) (z0c s_tuples_beneath) .none kV1 dc1 pm1 an1 cd1 ct1),sl1⟩) (c1:PySem.W.codeIn K cd1 "tuples_beneath" = true) (k1:PySem.W.keepIn K (.ref f1)=true)
  (a2:PySem.W.nsIn K mainGlobals "tuples_with_paths" = some (some (.ref f2))) (l2:K.lookup f2=some ⟨oc2,od2,.func (PySem.W.fnOf "tuples_with_paths" "tuples_with_paths" (z0q s_tuples_with_paths) (z0o s_tuples_with_paths) (z0c s_tuples_with_paths) .none kV2 dc2 pm2 an2 cd2 ct2),sl2⟩) (c2:PySem.W.codeIn K cd2 "tuples_with_paths" = true) (k2:PySem.W.keepIn K (.ref f2)=true)
  (a3:PySem.W.nsIn K mainGlobals "sign_of" = some (some (.ref f3))) (l3:K.lookup f3=some ⟨oc3,od3,.func (PySem.W.fnOf "sign_of" "sign_of" (z0q s_sign_of) (z0o s_sign_of) (z0c s_sign_of) .none kV3 dc3 pm3 an3 cd3 ct3),sl3⟩) (c3:PySem.W.codeIn K cd3 "sign_of" = true) (k3:PySem.W.keepIn K (.ref f3)=true)
  (a4:PySem.W.nsIn K mainGlobals "word" = some (some (.ref f4))) (l4:K.lookup f4=some ⟨oc4,od4,.func (PySem.W.fnOf "word" "word" (z0q s_word) (z0o s_word) (z0c s_word) .none kV4 dc4 pm4 an4 cd4 ct4),sl4⟩) (c4:PySem.W.codeIn K cd4 "word" = true) (k4:PySem.W.keepIn K (.ref f4)=true)
  (a5:PySem.W.nsIn K mainGlobals "patterns_within" = some (some (.ref f5))) (l5:K.lookup f5=some ⟨oc5,od5,.func (PySem.W.fnOf "patterns_within" "patterns_within" (z0q s_patterns_within) (z0o s_patterns_within) (z0c s_patterns_within) .none kV5 dc5 pm5 an5 cd5 ct5),sl5⟩) (c5:PySem.W.codeIn K cd5 "patterns_within" = true) (k5:PySem.W.keepIn K (.ref f5)=true)
  (a6:PySem.W.nsIn K mainGlobals "signs" = some (some (.ref f6))) (l6:K.lookup f6=some ⟨oc6,od6,.func (PySem.W.fnOf "signs" "signs" (z0q s_signs) (z0o s_signs) (z0c s_signs) .none kV6 dc6 pm6 an6 cd6 ct6),sl6⟩) (c6:PySem.W.codeIn K cd6 "signs" = true) (k6:PySem.W.keepIn K (.ref f6)=true)
  (a7:PySem.W.nsIn K mainGlobals "bare" = some (some (.ref f7))) (l7:K.lookup f7=some ⟨oc7,od7,.func (PySem.W.fnOf "bare" "bare" (z0q s_bare) (z0o s_bare) (z0c s_bare) .none kV7 dc7 pm7 an7 cd7 ct7),sl7⟩) (c7:PySem.W.codeIn K cd7 "bare" = true) (k7:PySem.W.keepIn K (.ref f7)=true)
  (a8:PySem.W.nsIn K mainGlobals "firsts" = some (some (.ref f8))) (l8:K.lookup f8=some ⟨oc8,od8,.func (PySem.W.fnOf "firsts" "firsts" (z0q s_firsts) (z0o s_firsts) (z0c s_firsts) .none kV8 dc8 pm8 an8 cd8 ct8),sl8⟩) (c8:PySem.W.codeIn K cd8 "firsts" = true) (k8:PySem.W.keepIn K (.ref f8)=true)
  (a9:PySem.W.nsIn K mainGlobals "lasts" = some (some (.ref f9))) (l9:K.lookup f9=some ⟨oc9,od9,.func (PySem.W.fnOf "lasts" "lasts" (z0q s_lasts) (z0o s_lasts) (z0c s_lasts) .none kV9 dc9 pm9 an9 cd9 ct9),sl9⟩) (c9:PySem.W.codeIn K cd9 "lasts" = true) (k9:PySem.W.keepIn K (.ref f9)=true)
  (a10:PySem.W.nsIn K mainGlobals "link" = some (some (.ref f10))) (l10:K.lookup f10=some ⟨oc10,od10,.func (PySem.W.fnOf "link" "link" (z0q s_link) (z0o s_link) (z0c s_link) .none kV10 dc10 pm10 an10 cd10 ct10),sl10⟩) (c10:PySem.W.codeIn K cd10 "link" = true) (k10:PySem.W.keepIn K (.ref f10)=true)
  (a11:PySem.W.nsIn K mainGlobals "link_row" = some (some (.ref f11))) (l11:K.lookup f11=some ⟨oc11,od11,.func (PySem.W.fnOf "link_row" "link_row" (z0q s_link_row) (z0o s_link_row) (z0c s_link_row) .none kV11 dc11 pm11 an11 cd11 ct11),sl11⟩) (c11:PySem.W.codeIn K cd11 "link_row" = true) (k11:PySem.W.keepIn K (.ref f11)=true)
  (a12:PySem.W.nsIn K mainGlobals "link_all" = some (some (.ref f12))) (l12:K.lookup f12=some ⟨oc12,od12,.func (PySem.W.fnOf "link_all" "link_all" (z0q s_link_all) (z0o s_link_all) (z0c s_link_all) .none kV12 dc12 pm12 an12 cd12 ct12),sl12⟩) (c12:PySem.W.codeIn K cd12 "link_all" = true) (k12:PySem.W.keepIn K (.ref f12)=true)
  (a13:PySem.W.nsIn K mainGlobals "nexts" = some (some (.ref f13))) (l13:K.lookup f13=some ⟨oc13,od13,.func (PySem.W.fnOf "nexts" "nexts" (z0q s_nexts) (z0o s_nexts) (z0c s_nexts) .none kV13 dc13 pm13 an13 cd13 ct13),sl13⟩) (c13:PySem.W.codeIn K cd13 "nexts" = true) (k13:PySem.W.keepIn K (.ref f13)=true)
  (a14:PySem.W.nsIn K mainGlobals "table" = some (some (.ref f14))) (l14:K.lookup f14=some ⟨oc14,od14,.func (PySem.W.fnOf "table" "table" (z0q s_table) (z0o s_table) (z0c s_table) .none kV14 dc14 pm14 an14 cd14 ct14),sl14⟩) (c14:PySem.W.codeIn K cd14 "table" = true) (k14:PySem.W.keepIn K (.ref f14)=true)
  (a15:PySem.W.nsIn K mainGlobals "agrees" = some (some (.ref f15))) (l15:K.lookup f15=some ⟨oc15,od15,.func (PySem.W.fnOf "agrees" "agrees" (z0q s_agrees) (z0o s_agrees) (z0c s_agrees) .none kV15 dc15 pm15 an15 cd15 ct15),sl15⟩) (c15:PySem.W.codeIn K cd15 "agrees" = true) (k15:PySem.W.keepIn K (.ref f15)=true)
  (a16:PySem.W.nsIn K mainGlobals "look_twice" = some (some (.ref f16))) (l16:K.lookup f16=some ⟨oc16,od16,.func (PySem.W.fnOf "look_twice" "look_twice" (z0q s_look_twice) (z0o s_look_twice) (z0c s_look_twice) .none kV16 dc16 pm16 an16 cd16 ct16),sl16⟩) (c16:PySem.W.codeIn K cd16 "look_twice" = true) (k16:PySem.W.keepIn K (.ref f16)=true)
  (a17:PySem.W.nsIn K mainGlobals "look_names" = some (some (.ref f17))) (l17:K.lookup f17=some ⟨oc17,od17,.func (PySem.W.fnOf "look_names" "look_names" (z0q s_look_names) (z0o s_look_names) (z0c s_look_names) .none kV17 dc17 pm17 an17 cd17 ct17),sl17⟩) (c17:PySem.W.codeIn K cd17 "look_names" = true) (k17:PySem.W.keepIn K (.ref f17)=true)
  (a18:PySem.W.nsIn K mainGlobals "look" = some (some (.ref f18))) (l18:K.lookup f18=some ⟨oc18,od18,.func (PySem.W.fnOf "look" "look" (z0q s_look) (z0o s_look) (z0c s_look) .none kV18 dc18 pm18 an18 cd18 ct18),sl18⟩) (c18:PySem.W.codeIn K cd18 "look" = true) (k18:PySem.W.keepIn K (.ref f18)=true)
  (a19:PySem.W.nsIn K mainGlobals "tables" = some (some (.ref f19))) (l19:K.lookup f19=some ⟨oc19,od19,.func (PySem.W.fnOf "tables" "tables" (z0q s_tables) (z0o s_tables) (z0c s_tables) .none kV19 dc19 pm19 an19 cd19 ct19),sl19⟩) (c19:PySem.W.codeIn K cd19 "tables" = true) (k19:PySem.W.keepIn K (.ref f19)=true)
  (a20:PySem.W.nsIn K mainGlobals "holds" = some (some (.ref f20))) (l20:K.lookup f20=some ⟨oc20,od20,.func (PySem.W.fnOf "holds" "holds" (z0q s_holds) (z0o s_holds) (z0c s_holds) .none kV20 dc20 pm20 an20 cd20 ct20),sl20⟩) (c20:PySem.W.codeIn K cd20 "holds" = true) (k20:PySem.W.keepIn K (.ref f20)=true)
  (a21:PySem.W.nsIn K mainGlobals "faults" = some (some (.ref f21))) (l21:K.lookup f21=some ⟨oc21,od21,.func (PySem.W.fnOf "faults" "faults" (z0q s_faults) (z0o s_faults) (z0c s_faults) .none kV21 dc21 pm21 an21 cd21 ct21),sl21⟩) (c21:PySem.W.codeIn K cd21 "faults" = true) (k21:PySem.W.keepIn K (.ref f21)=true)
  (a22:PySem.W.nsIn K mainGlobals "is_paper" = some (some (.ref f22))) (l22:K.lookup f22=some ⟨oc22,od22,.func (PySem.W.fnOf "is_paper" "is_paper" (z0q s_is_paper) (z0o s_is_paper) (z0c s_is_paper) .none kV22 dc22 pm22 an22 cd22 ct22),sl22⟩) (c22:PySem.W.codeIn K cd22 "is_paper" = true) (k22:PySem.W.keepIn K (.ref f22)=true)
  (a23:PySem.W.nsIn K mainGlobals "_law_cell_at" = some (some (.ref f23))) (l23:K.lookup f23=some ⟨oc23,od23,.func (PySem.W.fnOf "_law_cell_at" "_law_cell_at" (z0q s__law_cell_at) (z0o s__law_cell_at) (z0c s__law_cell_at) .none kV23 dc23 pm23 an23 cd23 ct23),sl23⟩) (c23:PySem.W.codeIn K cd23 "_law_cell_at" = true) (k23:PySem.W.keepIn K (.ref f23)=true)
  (a24:PySem.W.nsIn K mainGlobals "_law_draws" = some (some (.ref f24))) (l24:K.lookup f24=some ⟨oc24,od24,.func (PySem.W.fnOf "_law_draws" "_law_draws" (z0q s__law_draws) (z0o s__law_draws) (z0c s__law_draws) .none kV24 dc24 pm24 an24 cd24 ct24),sl24⟩) (c24:PySem.W.codeIn K cd24 "_law_draws" = true) (k24:PySem.W.keepIn K (.ref f24)=true)
  (a25:PySem.W.nsIn K mainGlobals "_law_pop" = some (some (.ref f25))) (l25:K.lookup f25=some ⟨oc25,od25,.func (PySem.W.fnOf "_law_pop" "_law_pop" (z0q s__law_pop) (z0o s__law_pop) (z0c s__law_pop) .none kV25 dc25 pm25 an25 cd25 ct25),sl25⟩) (c25:PySem.W.codeIn K cd25 "_law_pop" = true) (k25:PySem.W.keepIn K (.ref f25)=true)
  (a26:PySem.W.nsIn K mainGlobals "_law_alike" = some (some (.ref f26))) (l26:K.lookup f26=some ⟨oc26,od26,.func (PySem.W.fnOf "_law_alike" "_law_alike" (z0q s__law_alike) (z0o s__law_alike) (z0c s__law_alike) .none kV26 dc26 pm26 an26 cd26 ct26),sl26⟩) (c26:PySem.W.codeIn K cd26 "_law_alike" = true) (k26:PySem.W.keepIn K (.ref f26)=true)
  (a27:PySem.W.nsIn K mainGlobals "_law_name" = some (some (.ref f27))) (l27:K.lookup f27=some ⟨oc27,od27,.func (PySem.W.fnOf "_law_name" "_law_name" (z0q s__law_name) (z0o s__law_name) (z0c s__law_name) .none kV27 dc27 pm27 an27 cd27 ct27),sl27⟩) (c27:PySem.W.codeIn K cd27 "_law_name" = true) (k27:PySem.W.keepIn K (.ref f27)=true)
  (a28:PySem.W.nsIn K mainGlobals "_law_wrapped" = some (some (.ref f28))) (l28:K.lookup f28=some ⟨oc28,od28,.func (PySem.W.fnOf "_law_wrapped" "_law_wrapped" (z0q s__law_wrapped) (z0o s__law_wrapped) (z0c s__law_wrapped) .none kV28 dc28 pm28 an28 cd28 ct28),sl28⟩) (c28:PySem.W.codeIn K cd28 "_law_wrapped" = true) (k28:PySem.W.keepIn K (.ref f28)=true)
  (a29:PySem.W.nsIn K mainGlobals "_law_pattern" = some (some (.ref f29))) (l29:K.lookup f29=some ⟨oc29,od29,.func (PySem.W.fnOf "_law_pattern" "_law_pattern" (z0q s__law_pattern) (z0o s__law_pattern) (z0c s__law_pattern) .none kV29 dc29 pm29 an29 cd29 ct29),sl29⟩) (c29:PySem.W.codeIn K cd29 "_law_pattern" = true) (k29:PySem.W.keepIn K (.ref f29)=true)
  (a30:PySem.W.nsIn K mainGlobals "_law_signs" = some (some (.ref f30))) (l30:K.lookup f30=some ⟨oc30,od30,.func (PySem.W.fnOf "_law_signs" "_law_signs" (z0q s__law_signs) (z0o s__law_signs) (z0c s__law_signs) .none kV30 dc30 pm30 an30 cd30 ct30),sl30⟩) (c30:PySem.W.codeIn K cd30 "_law_signs" = true) (k30:PySem.W.keepIn K (.ref f30)=true)
  (a31:PySem.W.nsIn K mainGlobals "_law_form" = some (some (.ref f31))) (l31:K.lookup f31=some ⟨oc31,od31,.func (PySem.W.fnOf "_law_form" "_law_form" (z0q s__law_form) (z0o s__law_form) (z0c s__law_form) .none kV31 dc31 pm31 an31 cd31 ct31),sl31⟩) (c31:PySem.W.codeIn K cd31 "_law_form" = true) (k31:PySem.W.keepIn K (.ref f31)=true)
  (a32:PySem.W.nsIn K mainGlobals "_law_text" = some (some (.ref f32))) (l32:K.lookup f32=some ⟨oc32,od32,.func (PySem.W.fnOf "_law_text" "_law_text" (z0q s__law_text) (z0o s__law_text) (z0c s__law_text) .none kV32 dc32 pm32 an32 cd32 ct32),sl32⟩) (c32:PySem.W.codeIn K cd32 "_law_text" = true) (k32:PySem.W.keepIn K (.ref f32)=true)
  (a33:PySem.W.nsIn K mainGlobals "_law_word" = some (some (.ref f33))) (l33:K.lookup f33=some ⟨oc33,od33,.func (PySem.W.fnOf "_law_word" "_law_word" (z0q s__law_word) (z0o s__law_word) (z0c s__law_word) .none kV33 dc33 pm33 an33 cd33 ct33),sl33⟩) (c33:PySem.W.codeIn K cd33 "_law_word" = true) (k33:PySem.W.keepIn K (.ref f33)=true)
  (a34:PySem.W.nsIn K mainGlobals "_law_grown" = some (some (.ref f34))) (l34:K.lookup f34=some ⟨oc34,od34,.func (PySem.W.fnOf "_law_grown" "_law_grown" (z0q s__law_grown) (z0o s__law_grown) (z0c s__law_grown) .none kV34 dc34 pm34 an34 cd34 ct34),sl34⟩) (c34:PySem.W.codeIn K cd34 "_law_grown" = true) (k34:PySem.W.keepIn K (.ref f34)=true)
  (a35:PySem.W.nsIn K mainGlobals "_law_more" = some (some (.ref f35))) (l35:K.lookup f35=some ⟨oc35,od35,.func (PySem.W.fnOf "_law_more" "_law_more" (z0q s__law_more) (z0o s__law_more) (z0c s__law_more) .none kV35 dc35 pm35 an35 cd35 ct35),sl35⟩) (c35:PySem.W.codeIn K cd35 "_law_more" = true) (k35:PySem.W.keepIn K (.ref f35)=true)
  (a36:PySem.W.nsIn K mainGlobals "_law_ends" = some (some (.ref f36))) (l36:K.lookup f36=some ⟨oc36,od36,.func (PySem.W.fnOf "_law_ends" "_law_ends" (z0q s__law_ends) (z0o s__law_ends) (z0c s__law_ends) .none kV36 dc36 pm36 an36 cd36 ct36),sl36⟩) (c36:PySem.W.codeIn K cd36 "_law_ends" = true) (k36:PySem.W.keepIn K (.ref f36)=true)
  (a37:PySem.W.nsIn K mainGlobals "_law_fits" = some (some (.ref f37))) (l37:K.lookup f37=some ⟨oc37,od37,.func (PySem.W.fnOf "_law_fits" "_law_fits" (z0q s__law_fits) (z0o s__law_fits) (z0c s__law_fits) .none kV37 dc37 pm37 an37 cd37 ct37),sl37⟩) (c37:PySem.W.codeIn K cd37 "_law_fits" = true) (k37:PySem.W.keepIn K (.ref f37)=true)
  (a38:PySem.W.nsIn K mainGlobals "_law_faults" = some (some (.ref f38))) (l38:K.lookup f38=some ⟨oc38,od38,.func (PySem.W.fnOf "_law_faults" "_law_faults" (z0q s__law_faults) (z0o s__law_faults) (z0c s__law_faults) .none kV38 dc38 pm38 an38 cd38 ct38),sl38⟩) (c38:PySem.W.codeIn K cd38 "_law_faults" = true) (k38:PySem.W.keepIn K (.ref f38)=true)
  (a39:PySem.W.nsIn K mainGlobals "_law_all_faults" = some (some (.ref f39))) (l39:K.lookup f39=some ⟨oc39,od39,.func (PySem.W.fnOf "_law_all_faults" "_law_all_faults" (z0q s__law_all_faults) (z0o s__law_all_faults) (z0c s__law_all_faults) .none kV39 dc39 pm39 an39 cd39 ct39),sl39⟩) (c39:PySem.W.codeIn K cd39 "_law_all_faults" = true) (k39:PySem.W.keepIn K (.ref f39)=true)
  (a40:PySem.W.nsIn K mainGlobals "_law_paper" = some (some (.ref f40))) (l40:K.lookup f40=some ⟨oc40,od40,.func (PySem.W.fnOf "_law_paper" "_law_paper" (z0q s__law_paper) (z0o s__law_paper) (z0c s__law_paper) .none kV40 dc40 pm40 an40 cd40 ct40),sl40⟩) (c40:PySem.W.codeIn K cd40 "_law_paper" = true) (k40:PySem.W.keepIn K (.ref f40)=true)
  (a41:PySem.W.nsIn K mainGlobals "_law_bent_row" = some (some (.ref f41))) (l41:K.lookup f41=some ⟨oc41,od41,.func (PySem.W.fnOf "_law_bent_row" "_law_bent_row" (z0q s__law_bent_row) (z0o s__law_bent_row) (z0c s__law_bent_row) .none kV41 dc41 pm41 an41 cd41 ct41),sl41⟩) (c41:PySem.W.codeIn K cd41 "_law_bent_row" = true) (k41:PySem.W.keepIn K (.ref f41)=true)
  (a42:PySem.W.nsIn K mainGlobals "_law_parts" = some (some (.ref f42))) (l42:K.lookup f42=some ⟨oc42,od42,.func (PySem.W.fnOf "_law_parts" "_law_parts" (z0q s__law_parts) (z0o s__law_parts) (z0c s__law_parts) .none kV42 dc42 pm42 an42 cd42 ct42),sl42⟩) (c42:PySem.W.codeIn K cd42 "_law_parts" = true) (k42:PySem.W.keepIn K (.ref f42)=true)
  (a43:PySem.W.nsIn K mainGlobals "_law_copy_pattern" = some (some (.ref f43))) (l43:K.lookup f43=some ⟨oc43,od43,.func (PySem.W.fnOf "_law_copy_pattern" "_law_copy_pattern" (z0q s__law_copy_pattern) (z0o s__law_copy_pattern) (z0c s__law_copy_pattern) .none kV43 dc43 pm43 an43 cd43 ct43),sl43⟩) (c43:PySem.W.codeIn K cd43 "_law_copy_pattern" = true) (k43:PySem.W.keepIn K (.ref f43)=true)
  (a44:PySem.W.nsIn K mainGlobals "_law_copy_form" = some (some (.ref f44))) (l44:K.lookup f44=some ⟨oc44,od44,.func (PySem.W.fnOf "_law_copy_form" "_law_copy_form" (z0q s__law_copy_form) (z0o s__law_copy_form) (z0c s__law_copy_form) .none kV44 dc44 pm44 an44 cd44 ct44),sl44⟩) (c44:PySem.W.codeIn K cd44 "_law_copy_form" = true) (k44:PySem.W.keepIn K (.ref f44)=true)
  (a45:PySem.W.nsIn K mainGlobals "_law_copy_row" = some (some (.ref f45))) (l45:K.lookup f45=some ⟨oc45,od45,.func (PySem.W.fnOf "_law_copy_row" "_law_copy_row" (z0q s__law_copy_row) (z0o s__law_copy_row) (z0c s__law_copy_row) .none kV45 dc45 pm45 an45 cd45 ct45),sl45⟩) (c45:PySem.W.codeIn K cd45 "_law_copy_row" = true) (k45:PySem.W.keepIn K (.ref f45)=true)
  (a46:PySem.W.nsIn K mainGlobals "_law_many" = some (some (.ref f46))) (l46:K.lookup f46=some ⟨oc46,od46,.func (PySem.W.fnOf "_law_many" "_law_many" (z0q s__law_many) (z0o s__law_many) (z0c s__law_many) .none kV46 dc46 pm46 an46 cd46 ct46),sl46⟩) (c46:PySem.W.codeIn K cd46 "_law_many" = true) (k46:PySem.W.keepIn K (.ref f46)=true)
  (a47:PySem.W.nsIn K mainGlobals "law" = some (some (.ref f47))) (l47:K.lookup f47=some ⟨oc47,od47,.func (PySem.W.fnOf "law" "law" (z0q s_law) (z0o s_law) (z0c s_law) .none kV47 dc47 pm47 an47 cd47 ct47),sl47⟩) (c47:PySem.W.codeIn K cd47 "law" = true) (k47:PySem.W.keepIn K (.ref f47)=true)
  (z_list:PySem.W.nsIn K mainGlobals "list" = some none)
  (z_reversed:PySem.W.nsIn K mainGlobals "reversed" = some none)
  (z_isinstance:PySem.W.nsIn K mainGlobals "isinstance" = some none)
  (z_str:PySem.W.nsIn K mainGlobals "str" = some none)
  (z_len:PySem.W.nsIn K mainGlobals "len" = some none)
  (z_int:PySem.W.nsIn K mainGlobals "int" = some none)
  (z_bool:PySem.W.nsIn K mainGlobals "bool" = some none)
  (z_range:PySem.W.nsIn K mainGlobals "range" = some none)
  (z_all:PySem.W.nsIn K mainGlobals "all" = some none)
  (z_any:PySem.W.nsIn K mainGlobals "any" = some none)
  (z_zip:PySem.W.nsIn K mainGlobals "zip" = some none)
  (z_tuple:PySem.W.nsIn K mainGlobals "tuple" = some none)
  (z_dict:PySem.W.nsIn K mainGlobals "dict" = some none)
  (z_set:PySem.W.nsIn K mainGlobals "set" = some none)
  (z_enumerate:PySem.W.nsIn K mainGlobals "enumerate" = some none)
  (z_max:PySem.W.nsIn K mainGlobals "max" = some none)
  (g_TEXT_SIGN:PySem.W.nsIn K mainGlobals "TEXT_SIGN" = some (some (.str "#" tk_TEXT_SIGN)))
  (kit:KitOk K) (kts:PySem.W.kitOne K (.type "bool") (.type "bool")=some true) :
  AllE K mg∧∃ f fd,Ent K mg "law" s_law ["_law_script"] f fd:=by
 have T:Zs K mg:=⟨PySem.W.mg_none_of X G z_list,PySem.W.mg_none_of X G z_reversed,PySem.W.mg_none_of X G z_isinstance,PySem.W.mg_none_of X G z_str,PySem.W.mg_none_of X G z_len,PySem.W.mg_none_of X G z_int,PySem.W.mg_none_of X G z_bool,PySem.W.mg_none_of X G z_range,PySem.W.mg_none_of X G z_all,PySem.W.mg_none_of X G z_any,PySem.W.mg_none_of X G z_zip,PySem.W.mg_none_of X G z_tuple,PySem.W.mg_none_of X G z_dict,PySem.W.mg_none_of X G z_set,PySem.W.mg_none_of X G z_enumerate,PySem.W.mg_none_of X G z_max,⟨tk_TEXT_SIGN,PySem.W.mg_of X G g_TEXT_SIGN⟩,kit⟩
 exact ⟨⟨T,kts,z1h (st:=s_tuples_beneath) (ps:=["path","part"]) X G (fun _ _ _ _ _ _ us hl=>ln2 us hl fun _ _=>rfl) a1 l1 c1 k1,z1h (st:=s_tuples_with_paths) (ps:=["paper"]) X G (fun _ _ _ _ _ _ us hl=>ln1 us hl fun _=>rfl) a2 l2 c2 k2,z1h (st:=s_sign_of) (ps:=["part"]) X G (fun _ _ _ _ _ _ us hl=>ln1 us hl fun _=>rfl) a3 l3 c3 k3,z1h (st:=s_word) (ps:=["row"]) X G (fun _ _ _ _ _ _ us hl=>ln1 us hl fun _=>rfl) a4 l4 c4 k4,z1h (st:=s_patterns_within) (ps:=["pattern"]) X G (fun _ _ _ _ _ _ us hl=>ln1 us hl fun _=>rfl) a5 l5 c5 k5,z1h (st:=s_signs) (ps:=["pattern"]) X G (fun _ _ _ _ _ _ us hl=>ln1 us hl fun _=>rfl) a6 l6 c6 k6,z1h (st:=s_bare) (ps:=["pattern"]) X G (fun _ _ _ _ _ _ us hl=>ln1 us hl fun _=>rfl) a7 l7 c7 k7,z1h (st:=s_firsts) (ps:=["pattern"]) X G (fun _ _ _ _ _ _ us hl=>ln1 us hl fun _=>rfl) a8 l8 c8 k8,z1h (st:=s_lasts) (ps:=["pattern"]) X G (fun _ _ _ _ _ _ us hl=>ln1 us hl fun _=>rfl) a9 l9 c9 k9,z1h (st:=s_link) (ps:=["ends","begins","followers"]) X G (fun _ _ _ _ _ _ us hl=>ln3 us hl fun _ _ _=>rfl) a10 l10 c10 k10,z1h (st:=s_link_row) (ps:=["patterns","followers"]) X G (fun _ _ _ _ _ _ us hl=>ln2 us hl fun _ _=>rfl) a11 l11 c11 k11,z1h (st:=s_link_all) (ps:=["pattern","followers"]) X G (fun _ _ _ _ _ _ us hl=>ln2 us hl fun _ _=>rfl) a12 l12 c12 k12,z1h (st:=s_nexts) (ps:=["pattern"]) X G (fun _ _ _ _ _ _ us hl=>ln1 us hl fun _=>rfl) a13 l13 c13 k13,z1h (st:=s_table) (ps:=["pattern"]) X G (fun _ _ _ _ _ _ us hl=>ln1 us hl fun _=>rfl) a14 l14 c14 k14,z1h (st:=s_agrees) (ps:=["told","word"]) X G (fun _ _ _ _ _ _ us hl=>ln2 us hl fun _ _=>rfl) a15 l15 c15 k15,z1h (st:=s_look_twice) (ps:=["rules"]) X G (fun _ _ _ _ _ _ us hl=>ln1 us hl fun _=>rfl) a16 l16 c16 k16,z1h (st:=s_look_names) (ps:=["root","rules"]) X G (fun _ _ _ _ _ _ us hl=>ln2 us hl fun _ _=>rfl) a17 l17 c17 k17,z1h (st:=s_look) (ps:=["form"]) X G (fun _ _ _ _ _ _ us hl=>ln1 us hl fun _=>rfl) a18 l18 c18 k18,z1h (st:=s_tables) (ps:=["rules"]) X G (fun _ _ _ _ _ _ us hl=>ln1 us hl fun _=>rfl) a19 l19 c19 k19,z1h (st:=s_holds) (ps:=["part","known"]) X G (fun _ _ _ _ _ _ us hl=>ln2 us hl fun _ _=>rfl) a20 l20 c20 k20,z1h (st:=s_faults) (ps:=["form","paper"]) X G (fun _ _ _ _ _ _ us hl=>ln2 us hl fun _ _=>rfl) a21 l21 c21 k21,z1h (st:=s_is_paper) (ps:=["form","paper"]) X G (fun _ _ _ _ _ _ us hl=>ln2 us hl fun _ _=>rfl) a22 l22 c22 k22,z1h (st:=s__law_cell_at) (ps:=["_law_script","_law_k"]) X G (fun _ _ _ _ _ _ us hl=>ln2 us hl fun _ _=>rfl) a23 l23 c23 k23,z1h (st:=s__law_draws) (ps:=["_law_script","_law_turn","_law_many_here"]) X G (fun _ _ _ _ _ _ us hl=>ln3 us hl fun _ _ _=>rfl) a24 l24 c24 k24,z1h (st:=s__law_pop) (ps:=["_law_draws_here"]) X G (fun _ _ _ _ _ _ us hl=>ln1 us hl fun _=>rfl) a25 l25 c25 k25,z1h (st:=s__law_alike) (ps:=["_law_found","_law_due"]) X G (fun _ _ _ _ _ _ us hl=>ln2 us hl fun _ _=>rfl) a26 l26 c26 k26,z1h (st:=s__law_name) (ps:=["_law_k","_law_draw"]) X G (fun _ _ _ _ _ _ us hl=>ln2 us hl fun _ _=>rfl) a27 l27 c27 k27,z1h (st:=s__law_wrapped) (ps:=["_law_pattern_here","_law_number"]) X G (fun _ _ _ _ _ _ us hl=>ln2 us hl fun _ _=>rfl) a28 l28 c28 k28,z1h (st:=s__law_pattern) (ps:=["_law_some","_law_draws_here"]) X G (fun _ _ _ _ _ _ us hl=>ln2 us hl fun _ _=>rfl) a29 l29 c29 k29,z1h (st:=s__law_signs) (ps:=["_law_names","_law_number"]) X G (fun _ _ _ _ _ _ us hl=>ln2 us hl fun _ _=>rfl) a30 l30 c30 k30,z1h (st:=s__law_form) (ps:=["_law_script","_law_turn","_law_many_here"]) X G (fun _ _ _ _ _ _ us hl=>ln3 us hl fun _ _ _=>rfl) a31 l31 c31 k31,z1h (st:=s__law_text) (ps:=["_law_number"]) X G (fun _ _ _ _ _ _ us hl=>ln1 us hl fun _=>rfl) a32 l32 c32 k32,z1h (st:=s__law_word) (ps:=["_law_pattern_here","_law_draws_here"]) X G (fun _ _ _ _ _ _ us hl=>ln2 us hl fun _ _=>rfl) a33 l33 c33 k33,z1h (st:=s__law_grown) (ps:=["_law_table","_law_name_here","_law_draws_here","_law_left","_law_deep"]) X G (fun _ _ _ _ _ _ us hl=>ln5 us hl fun _ _ _ _ _=>rfl) a34 l34 c34 k34,z1h (st:=s__law_more) (ps:=["_law_pattern_here","_law_signs_met","_law_starts"]) X G (fun _ _ _ _ _ _ us hl=>ln3 us hl fun _ _ _=>rfl) a35 l35 c35 k35,z1h (st:=s__law_ends) (ps:=["_law_pattern_here","_law_signs_met","_law_starts"]) X G (fun _ _ _ _ _ _ us hl=>ln3 us hl fun _ _ _=>rfl) a36 l36 c36 k36,z1h (st:=s__law_fits) (ps:=["_law_pattern_here","_law_row"]) X G (fun _ _ _ _ _ _ us hl=>ln2 us hl fun _ _=>rfl) a37 l37 c37 k37,z1h (st:=s__law_faults) (ps:=["_law_table","_law_part","_law_path"]) X G (fun _ _ _ _ _ _ us hl=>ln3 us hl fun _ _ _=>rfl) a38 l38 c38 k38,z1h (st:=s__law_all_faults) (ps:=["_law_form_here","_law_paper_here"]) X G (fun _ _ _ _ _ _ us hl=>ln2 us hl fun _ _=>rfl) a39 l39 c39 k39,z1h (st:=s__law_paper) (ps:=["_law_form_here","_law_script","_law_turn","_law_many_here"]) X G (fun _ _ _ _ _ _ us hl=>ln4 us hl fun _ _ _ _=>rfl) a40 l40 c40 k40,z1h (st:=s__law_bent_row) (ps:=["_law_row","_law_at","_law_turn","_law_name_here"]) X G (fun _ _ _ _ _ _ us hl=>ln4 us hl fun _ _ _ _=>rfl) a41 l41 c41 k41,z1h (st:=s__law_parts) (ps:=["_law_row"]) X G (fun _ _ _ _ _ _ us hl=>ln1 us hl fun _=>rfl) a42 l42 c42 k42,z1h (st:=s__law_copy_pattern) (ps:=["_law_pattern_here"]) X G (fun _ _ _ _ _ _ us hl=>ln1 us hl fun _=>rfl) a43 l43 c43 k43,z1h (st:=s__law_copy_form) (ps:=["_law_form_here"]) X G (fun _ _ _ _ _ _ us hl=>ln1 us hl fun _=>rfl) a44 l44 c44 k44,z1h (st:=s__law_copy_row) (ps:=["_law_row"]) X G (fun _ _ _ _ _ _ us hl=>ln1 us hl fun _=>rfl) a45 l45 c45 k45,z1h (st:=s__law_many) (ps:=["_law_cell"]) X G (fun _ _ _ _ _ _ us hl=>ln1 us hl fun _=>rfl) a46 l46 c46 k46⟩,z1h (st:=s_law) (ps:=["_law_script"]) X G (fun _ _ _ _ _ _ us hl=>ln1 us hl fun _=>rfl) a47 l47 c47 k47⟩
theorem law_fn {l:PySem.W.OpenLaw}{w:World}{K:PySem.W.Frag}{mg:Str→Option Value}{fa:Addr}(Z:AllE K mg∧∃ f fd,Ent K mg "law" s_law ["_law_script"] f fd) (hmg:mg "law" = some (.ref fa)) :
  ∃ fd:FuncData,(∀ (s:Shared) (u:Value),BindsTo s fd ⟨[u],[]⟩ [("_law_script",u)])∧∀ base:Heap,K.In base→base.Ns mainGlobals mg→FnOk l.prog w K mg base CX0 80 fa fd ["_law_script"] (spD (R_law K)):=by
 obtain ⟨L,f,fd,E⟩:=Z
 have e:=hmg.symm.trans E.g
 cases e
 obtain ⟨oc,od,kV,doc,pm,an,cdv,ct,osl,rfl,lk,hcd⟩:=E.F.ex
 exact ⟨_,fun s u=>.of_eq rfl,fun base _ _=>ok_law E L⟩
theorem law_sp {K:PySem.W.Frag}{H:Hp}{a:Addr}{ns:List Int}{E:XK}(hS:SqL K H a (ns.map V.int)):spD (R_law K) [.ref a] H (fun v _=>v = .bl true) E:=by
 refine ⟨H,[none],H,[.sc K ns],fun b d _=>d = .bl true,fun p a e=>by cases p <;> simp at e,(y2h (ds:=[]) (vs:=[]) (Same.refl _) rfl).push (s:=.sc K ns) (v:=.ref a) ⟨a,rfl,hS⟩ (fun b c a e=>by cases e),⟨ns,rfl,rfl⟩,fun b d v δ' F' H' I q=>?_⟩
 obtain ⟨F2,s,I2,rv⟩:=I.fr
 cases q
 exact rv
end K04
open PySem PySem.W PyProof.Rows
set_option maxRecDepth 100000 in
set_option maxHeartbeats 0 in
theorem PySem.Challenge.cw_formferry_k08_faults_holds : PySem.Challenge.rw_formferry_k08_faults.Holds := by
 w_on;o_law;k_head;(case hw=>w_witness2)
 k_fill
 refine L2.walk_ofK (l:=PySem.Challenge.rw_formferry_k08_faults) (n:=63) (k:=80) (x:="_law_script") (CX:=L2.CX0) (sp:=fun K=>VL.spD (K04.R_law K)) rfl (by decide) rfl ⟨rfl,by decide,by decide⟩ (fun w h Y=>PySem.W.kIn_of Y) ?F (fun K H a ns hl hO hS=>K04.law_sp hS) (fun _ _ _ _ z=>z)
 case F =>
  intro w mg fa h KX G hmg
  have Z:=by
   refine' K04.all_mk KX G ?a1 ?l1 ?c1 ?k1 ?a2 ?l2 ?c2 ?k2 ?a3 ?l3 ?c3 ?k3 ?a4 ?l4 ?c4 ?k4 ?a5 ?l5 ?c5 ?k5 ?a6 ?l6 ?c6 ?k6 ?a7 ?l7 ?c7 ?k7 ?a8 ?l8 ?c8 ?k8 ?a9 ?l9 ?c9 ?k9 ?a10 ?l10 ?c10 ?k10 ?a11 ?l11 ?c11 ?k11 ?a12 ?l12 ?c12 ?k12 ?a13 ?l13 ?c13 ?k13 ?a14 ?l14 ?c14 ?k14 ?a15 ?l15 ?c15 ?k15 ?a16 ?l16 ?c16 ?k16 ?a17 ?l17 ?c17 ?k17 ?a18 ?l18 ?c18 ?k18 ?a19 ?l19 ?c19 ?k19 ?a20 ?l20 ?c20 ?k20 ?a21 ?l21 ?c21 ?k21 ?a22 ?l22 ?c22 ?k22 ?a23 ?l23 ?c23 ?k23 ?a24 ?l24 ?c24 ?k24 ?a25 ?l25 ?c25 ?k25 ?a26 ?l26 ?c26 ?k26 ?a27 ?l27 ?c27 ?k27 ?a28 ?l28 ?c28 ?k28 ?a29 ?l29 ?c29 ?k29 ?a30 ?l30 ?c30 ?k30 ?a31 ?l31 ?c31 ?k31 ?a32 ?l32 ?c32 ?k32 ?a33 ?l33 ?c33 ?k33 ?a34 ?l34 ?c34 ?k34 ?a35 ?l35 ?c35 ?k35 ?a36 ?l36 ?c36 ?k36 ?a37 ?l37 ?c37 ?k37 ?a38 ?l38 ?c38 ?k38 ?a39 ?l39 ?c39 ?k39 ?a40 ?l40 ?c40 ?k40 ?a41 ?l41 ?c41 ?k41 ?a42 ?l42 ?c42 ?k42 ?a43 ?l43 ?c43 ?k43 ?a44 ?l44 ?c44 ?k44 ?a45 ?l45 ?c45 ?k45 ?a46 ?l46 ?c46 ?k46 ?a47 ?l47 ?c47 ?k47 ?z_list ?z_reversed ?z_isinstance ?z_str ?z_len ?z_int ?z_bool ?z_range ?z_all ?z_any ?z_zip ?z_tuple ?z_dict ?z_set ?z_enumerate ?z_max ?g_TEXT_SIGN ?kit ?kts
   (case a1=>k_is)
   (case l1=>k_is)
   (case c1=>k_is)
   (case k1=>k_is)
   (case a2=>k_is)
   (case l2=>k_is)
   (case c2=>k_is)
   (case k2=>k_is)
   (case a3=>k_is)
   (case l3=>k_is)
   (case c3=>k_is)
   (case k3=>k_is)
   (case a4=>k_is)
   (case l4=>k_is)
   (case c4=>k_is)
   (case k4=>k_is)
   (case a5=>k_is)
   (case l5=>k_is)
   (case c5=>k_is)
   (case k5=>k_is)
   (case a6=>k_is)
   (case l6=>k_is)
   (case c6=>k_is)
   (case k6=>k_is)
   (case a7=>k_is)
   (case l7=>k_is)
   (case c7=>k_is)
   (case k7=>k_is)
   (case a8=>k_is)
   (case l8=>k_is)
   (case c8=>k_is)
   (case k8=>k_is)
   (case a9=>k_is)
   (case l9=>k_is)
   (case c9=>k_is)
   (case k9=>k_is)
   (case a10=>k_is)
   (case l10=>k_is)
   (case c10=>k_is)
   (case k10=>k_is)
   (case a11=>k_is)
   (case l11=>k_is)
   (case c11=>k_is)
   (case k11=>k_is)
   (case a12=>k_is)
   (case l12=>k_is)
   (case c12=>k_is)
   (case k12=>k_is)
   (case a13=>k_is)
   (case l13=>k_is)
   (case c13=>k_is)
   (case k13=>k_is)
   (case a14=>k_is)
   (case l14=>k_is)
   (case c14=>k_is)
   (case k14=>k_is)
   (case a15=>k_is)
   (case l15=>k_is)
   (case c15=>k_is)
   (case k15=>k_is)
   (case a16=>k_is)
   (case l16=>k_is)
   (case c16=>k_is)
   (case k16=>k_is)
   (case a17=>k_is)
   (case l17=>k_is)
   (case c17=>k_is)
   (case k17=>k_is)
   (case a18=>k_is)
   (case l18=>k_is)
   (case c18=>k_is)
   (case k18=>k_is)
   (case a19=>k_is)
   (case l19=>k_is)
   (case c19=>k_is)
   (case k19=>k_is)
   (case a20=>k_is)
   (case l20=>k_is)
   (case c20=>k_is)
   (case k20=>k_is)
   (case a21=>k_is)
   (case l21=>k_is)
   (case c21=>k_is)
   (case k21=>k_is)
   (case a22=>k_is)
   (case l22=>k_is)
   (case c22=>k_is)
   (case k22=>k_is)
   (case a23=>k_is)
   (case l23=>k_is)
   (case c23=>k_is)
   (case k23=>k_is)
   (case a24=>k_is)
   (case l24=>k_is)
   (case c24=>k_is)
   (case k24=>k_is)
   (case a25=>k_is)
   (case l25=>k_is)
   (case c25=>k_is)
   (case k25=>k_is)
   (case a26=>k_is)
   (case l26=>k_is)
   (case c26=>k_is)
   (case k26=>k_is)
   (case a27=>k_is)
   (case l27=>k_is)
   (case c27=>k_is)
   (case k27=>k_is)
   (case a28=>k_is)
   (case l28=>k_is)
   (case c28=>k_is)
   (case k28=>k_is)
   (case a29=>k_is)
   (case l29=>k_is)
   (case c29=>k_is)
   (case k29=>k_is)
   (case a30=>k_is)
   (case l30=>k_is)
   (case c30=>k_is)
   (case k30=>k_is)
   (case a31=>k_is)
   (case l31=>k_is)
   (case c31=>k_is)
   (case k31=>k_is)
   (case a32=>k_is)
   (case l32=>k_is)
   (case c32=>k_is)
   (case k32=>k_is)
   (case a33=>k_is)
   (case l33=>k_is)
   (case c33=>k_is)
   (case k33=>k_is)
   (case a34=>k_is)
   (case l34=>k_is)
   (case c34=>k_is)
   (case k34=>k_is)
   (case a35=>k_is)
   (case l35=>k_is)
   (case c35=>k_is)
   (case k35=>k_is)
   (case a36=>k_is)
   (case l36=>k_is)
   (case c36=>k_is)
   (case k36=>k_is)
   (case a37=>k_is)
   (case l37=>k_is)
   (case c37=>k_is)
   (case k37=>k_is)
   (case a38=>k_is)
   (case l38=>k_is)
   (case c38=>k_is)
   (case k38=>k_is)
   (case a39=>k_is)
   (case l39=>k_is)
   (case c39=>k_is)
   (case k39=>k_is)
   (case a40=>k_is)
   (case l40=>k_is)
   (case c40=>k_is)
   (case k40=>k_is)
   (case a41=>k_is)
   (case l41=>k_is)
   (case c41=>k_is)
   (case k41=>k_is)
   (case a42=>k_is)
   (case l42=>k_is)
   (case c42=>k_is)
   (case k42=>k_is)
   (case a43=>k_is)
   (case l43=>k_is)
   (case c43=>k_is)
   (case k43=>k_is)
   (case a44=>k_is)
   (case l44=>k_is)
   (case c44=>k_is)
   (case k44=>k_is)
   (case a45=>k_is)
   (case l45=>k_is)
   (case c45=>k_is)
   (case k45=>k_is)
   (case a46=>k_is)
   (case l46=>k_is)
   (case c46=>k_is)
   (case k46=>k_is)
   (case a47=>k_is)
   (case l47=>k_is)
   (case c47=>k_is)
   (case k47=>k_is)
   (case z_list=>k_is)
   (case z_reversed=>k_is)
   (case z_isinstance=>k_is)
   (case z_str=>k_is)
   (case z_len=>k_is)
   (case z_int=>k_is)
   (case z_bool=>k_is)
   (case z_range=>k_is)
   (case z_all=>k_is)
   (case z_any=>k_is)
   (case z_zip=>k_is)
   (case z_tuple=>k_is)
   (case z_dict=>k_is)
   (case z_set=>k_is)
   (case z_enumerate=>k_is)
   (case z_max=>k_is)
   (case g_TEXT_SIGN=>k_is)
   (case kit =>
    intro t ht T hT
    simp only [List.mem_cons,List.not_mem_nil,or_false] at ht hT
    rcases ht with rfl|rfl|rfl|rfl|rfl|rfl|rfl <;> rcases hT with rfl|rfl|rfl|rfl|rfl|rfl <;> rfl)
   (case kts=>rfl)
  exact K04.law_fn Z hmg
#print axioms PySem.Challenge.cw_formferry_k08_faults_holds

