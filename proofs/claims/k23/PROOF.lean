import PyProof.Rows.All
import Wide.All
import OpenK.AllK
import Wide.FinOn
import Lean
import PyProof.EqAt
import PyProof.EqKinds
import PyProof.TupleCall
import KE.KRevIter
import PyProof.AttrMissHeap
import KE.KDictOf
import KE.KxText
import PyProof.DictIter
import PyProof.DictWalks
import PyProof.EnumMake
import PyProof.EnumFor
import PyProof.Rows.SetFrom
import PyProof.SetRoads
import PyProof.DictStraight
import KE.KRevSl
import KE.KDictList
import PyProof.NeKinds
import PyProof.Rows.EqBoolInt
import PyProof.ExcClass3
import PyProof.ExcQuiet
import PyProof.ExcAttrAll.ValueError
import PyProof.ExcArgsOwn
import PyProof.RaisesMany
import PyProof.InstStoreFacts
import PyProof.InstLoad
import PyProof.ExcInit
import OpenK.KOwn
import PyProof.AssignAttr
import PyProof.RulesAs
import PyProof.RulesDel
import PyProof.IsiBase
import KE.KLam
import KE.KMinKey
import OpenK.KTop
import PyProof.FString5
import PyProof.StrWalks
import PyProof.Rows.StrNews2
import PyProof.Rows.CallKwBuiltin
import PySem.Challenge.RW_formferry_k23_form_rows_looked_at
set_option Elab.async false
set_option linter.all false
set_option maxRecDepth 100000
set_option compiler.extract_closed false
set_option compiler.postponeCompile true
set_option bootstrap.genMatcherCode false
set_option genSizeOfSpec false
noncomputable section
namespace PySem.W.Fast
def tw10005194961111906706:=()
def tw10193226513645461603:=()
def tw10210829707344366760:=()
def tw10302970420509909578:=()
def tw10303585165761018785:=()
def tw10321473711829839975:=()
def tw10348170622969164147:=()
def tw10363353319092212571:=()
def tw10429336070536842675:=()
def tw10483578517135761431:=()
def tw10649009520605521879:=()
def tw10653338509217378006:=()
def tw10741310742343384705:=()
def tw107698456929492720:=()
def tw10800853360439229293:=()
def tw10908793289609796823:=()
def tw10947000653432611005:=()
def tw11025486558809406825:=()
def tw11117871425059251900:=()
def tw11123944484911566891:=()
def tw11193918670080454972:=()
def tw11279535521051627415:=()
def tw11287384127755994903:=()
def tw11459155694938920099:=()
def tw11527813242331616834:=()
def tw11606810019066875285:=()
def tw11635427667816542038:=()
def tw11642578795839187909:=()
def tw11679618663242625676:=()
def tw11679713360374015197:=()
def tw11723795390815950766:=()
def tw11725515634846612188:=()
def tw11731433053074661195:=()
def tw1175391161428842327:=()
def tw11785483420184038768:=()
def tw1182373348924792406:=()
def tw11840439292590508632:=()
def tw11854038821273993470:=()
def tw11935360852718587276:=()
def tw12088729967341584641:=()
def tw12368208998635244939:=()
def tw12457007478165361859:=()
def tw12461385102984274898:=()
def tw12463156303773564982:=()
def tw12599699880919773405:=()
def tw12640687325023984238:=()
def tw12668607279403502983:=()
def tw12728583471419245840:=()
def tw1278211531981265295:=()
def tw12793809928573733779:=()
def tw12835606203908498447:=()
def tw12900555428127699922:=()
def tw12902587071576666224:=()
def tw13018343396216897981:=()
def tw13135772468389696564:=()
def tw13153557241691208678:=()
def tw13287099838874111104:=()
def tw13313309610510656812:=()
def tw13526602622864918684:=()
def tw13592195698151597111:=()
def tw13683229533947584149:=()
def tw13766237510626111216:=()
def tw13775350854146444275:=()
def tw14057428288561588583:=()
def tw14105607130357481558:=()
def tw14134294061761993408:=()
def tw14228906799529386570:=()
def tw14333802355723047395:=()
def tw14359341755509620148:=()
def tw14456475581580013831:=()
def tw14512046156629731728:=()
def tw14631264468521383004:=()
def tw14643017393233946041:=()
def tw14830918111764400405:=()
def tw15203690116964333037:=()
def tw1529689720041049792:=()
def tw15340971319857552280:=()
def tw15364657238692236086:=()
def tw1537812457661981004:=()
def tw15416136833450476780:=()
def tw15478524305511006377:=()
def tw15531509614407085210:=()
def tw15603505438498878683:=()
def tw1564126375620928024:=()
def tw15694626166630444065:=()
def tw15783690577101088745:=()
def tw15964598032883501283:=()
def tw15990879826980568770:=()
def tw1608285508915689600:=()
def tw16084083577352421271:=()
def tw16164084759333300766:=()
def tw16190068331855440566:=()
def tw16327349621681035979:=()
def tw16330590831588568201:=()
def tw16369520549134709366:=()
def tw16386957065678801757:=()
def tw16471230912266902428:=()
def tw16479468860645663902:=()
def tw16666103548058337964:=()
def tw16671025471892162648:=()
def tw16706611166434297016:=()
def tw16715314752064269237:=()
def tw167273239121188705:=()
def tw16735081393383708506:=()
def tw16750566298132199521:=()
def tw16767021927111782187:=()
def tw16971907504993301643:=()
def tw16987014435313971319:=()
def tw17054767997923767775:=()
def tw17209449125072917690:=()
def tw17231452287270413422:=()
def tw17268266454357604066:=()
def tw17294512228940173134:=()
def tw17456217373724876866:=()
def tw17490864442143200295:=()
def tw17562599127814386754:=()
def tw17680288932856425986:=()
def tw17765078673129021969:=()
def tw17813420438391682255:=()
def tw17857699023507144233:=()
def tw17884558468865395359:=()
def tw17891212587170646297:=()
def tw17952025378570583527:=()
def tw17976081886129658995:=()
def tw18013230543761079299:=()
def tw18048232342970342439:=()
def tw18063717983682006081:=()
def tw18082913879147391637:=()
def tw18091343147332373344:=()
def tw18111441187825025350:=()
def tw18154537472261990486:=()
def tw18309226268312017939:=()
def tw18318578738909455236:=()
def tw18336246026428939399:=()
def tw18350581968302450499:=()
def tw1835880168040250274:=()
def tw1837394122863868363:=()
def tw18415569407247286482:=()
def tw1884086961344726500:=()
def tw2121818954992358604:=()
def tw2155141282037977367:=()
def tw2193107831244945196:=()
def tw2206271998123757251:=()
def tw2235926758382507583:=()
def tw2265467908434768392:=()
def tw2267394019270167530:=()
def tw2276166333105015418:=()
def tw2393882185297244466:=()
def tw249493440783134099:=()
def tw2528160993554646217:=()
def tw2556187288756094272:=()
def tw2590907520886934372:=()
def tw2667434676639346284:=()
def tw2727997821932965578:=()
def tw2822454329211881012:=()
def tw2853954883598942982:=()
def tw2867672709373012018:=()
def tw2902759367033514906:=()
def tw2985533635586386140:=()
def tw3024129517253753175:=()
def tw3253764657955395743:=()
def tw3321494192543807975:=()
def tw3338118179842575327:=()
def tw3338460477116742284:=()
def tw3409205225692994678:=()
def tw345725933289940005:=()
def tw3675017633033721322:=()
def tw368233414051124635:=()
def tw3705976409659862528:=()
def tw3764792854952806362:=()
def tw3847409563331193024:=()
def tw3901130411769092299:=()
def tw3970205886021507374:=()
def tw411240919024923511:=()
def tw411957984473773625:=()
def tw4125261438099405084:=()
def tw4176658915023655165:=()
def tw4393716080386000259:=()
def tw4632671344025951544:=()
def tw4651132232508457842:=()
def tw4723725262429112677:=()
def tw4754906973453834966:=()
def tw4796075498761458078:=()
def tw4921165962011320041:=()
def tw492669918516270441:=()
def tw4949959458861895547:=()
def tw5050074113260635968:=()
def tw5092402488758691958:=()
def tw5252232036054976475:=()
def tw5294647456623472930:=()
def tw5323165179738313626:=()
def tw5370651364994810766:=()
def tw54591331435808074:=()
def tw5562026162039453205:=()
def tw5578015243317579551:=()
def tw5586220174195696136:=()
def tw5592413749593800259:=()
def tw5649324277885177442:=()
def tw5671726396948617764:=()
def tw567508812773503860:=()
def tw5796219316934563707:=()
def tw5806300854119317206:=()
def tw5814385782839633439:=()
def tw581441286574118850:=()
def tw5864860812929087340:=()
def tw5881009212704449873:=()
def tw5885522577533012828:=()
def tw5962193519003615896:=()
def tw6105465448672203227:=()
def tw6118920288315015595:=()
def tw621148508388466705:=()
def tw6549251142133172538:=()
def tw6551331573615839381:=()
def tw6702668405170972700:=()
def tw6866934490536985732:=()
def tw7058368834769567659:=()
def tw7070766495540467431:=()
def tw7328628078092081918:=()
def tw73562512748024353:=()
def tw7399476241905219855:=()
def tw7417007692875316987:=()
def tw7438488496790434084:=()
def tw7450135335970574274:=()
def tw7450659719992867983:=()
def tw753523691846323177:=()
def tw7650555158011502623:=()
def tw7766401513205899906:=()
def tw7806704268101134673:=()
def tw7956639388389201174:=()
def tw7963366092115006010:=()
def tw7963392126896375517:=()
def tw802409236682797196:=()
def tw809087269190134470:=()
def tw8091813028296142197:=()
def tw8099008399588740662:=()
def tw8248998318344538210:=()
def tw825623076696400768:=()
def tw8300135624155760165:=()
def tw8331756559577883127:=()
def tw834963507652767595:=()
def tw8412687112724894467:=()
def tw8416046246334292681:=()
def tw8483742243518143588:=()
def tw8539908676909053359:=()
def tw8603058900733720997:=()
def tw8681913105281511035:=()
def tw8697779168978300915:=()
def tw8735407456133852970:=()
def tw873965524043691797:=()
def tw8767634213320638440:=()
def tw8909653900722141301:=()
def tw8931473784649668115:=()
def tw8956666442850717992:=()
def tw902029316135396371:=()
def tw9100358942145751589:=()
def tw929743376106953245:=()
def tw9306201364265213969:=()
def tw9308897269664527809:=()
def tw9410581456992543388:=()
def tw9470670599386473418:=()
def tw9472237881971533133:=()
def tw9596409914085367291:=()
def tw9657116330736298968:=()
def tw9739961187172265457:=()
def tw9790542899969606770:=()
def tw9836661545356052749:=()
def tw9869694227487411139:=()
def tw9878377504354857975:=()
def tw9960950271358140750:=()
def tw9982044810491163935:=()
end PySem.W.Fast
set_option maxHeartbeats 800000
open Bool (and_eq_true or_eq_true)
open Int (emod_lt_of_pos emod_nonneg natAbs)
open List (all_cons all_eq_true all_map any_cons any_map append_assoc append_nil cons_append contains_cons drop dropLast_concat dropWhile_sublist drop_drop drop_eq_getElem_cons drop_left drop_length drop_of_length_le drop_zero eq_nil_of_length_eq_zero filter_cons find? find?_cons flatMap flatMap_append foldl_cons getD_cons_succ getD_eq_getElem?_getD getElem?_append_left getElem?_append_right getElem?_eq_getElem getElem?_map getElem?_replicate getElem?_set getElem?_set_ne getElem?_set_self getElem_mem length_append length_cons length_drop length_map length_nil length_singleton length_take lookup_cons map_append map_cons map_drop map_map map_nil map_take mem_append mem_append_left mem_append_right mem_cons mem_cons_of_mem mem_cons_self mem_filter mem_filterMap mem_flatMap mem_map mem_of_getElem? mem_of_mem_drop mem_of_mem_take mem_range mem_singleton nil_append nodup_append nodup_cons not_mem_nil of_mem_zip range replicate reverse_cons singleton_append size_toArray sum_cons take takeWhile_cons takeWhile_sublist take_append_drop take_of_length_le take_zero)
open Nat (le_add_right le_of_eq le_of_lt le_refl le_succ le_succ_of_le le_trans lt_irrefl lt_of_le_of_lt lt_of_lt_of_le lt_trans min_eq_left min_eq_right ne_of_gt ne_of_lt not_lt_zero sub_zero zero_le)
open Option (bind_some getD_none isNone isSome_iff_exists isSome_map map_eq_some_iff)
open PyProof.Rows (boot_all boot_bool boot_dict boot_enumerate boot_int boot_isinstance boot_list boot_set boot_str boot_tuple joinOk_of_weight join_ones)
open PySem.F (called_set plainAttrs_str slot_list_pop slot_str_partition type_list_pop type_str_partition)
open PySem.Heap (get?_push_at get?_push_of_some get?_push_size get?_update_other get?_update_self lt_size size_push)
open PySem.StrLaws (glued_eq_join occ_head partition_sum subAt_eq)
open PySem.Txt (join partition slice_le)
open PySem.W (callWith_K cellsFrom_some codeIn findIn fnOf instObj isFn kIn_of keepIn kia_one kitOne kitx_dict kitx_list kitx_none lookIn methodObj mg_none_of mg_of mroIn nsOkIn plainGet specialIn)
namespace L2
noncomputable def lamP:Option Nat:=none
noncomputable def lamL:Int:=145
noncomputable def lamC:Int:=65
noncomputable def lamQ:PySem.Str:="cheaper.<locals>.<lambda>"
open PySem PySem.Spec PyProof.Rows
abbrev Key:=Sum Int Str
noncomputable def x4b:Key->Value->Bool
 |.inl k,v=>Value.isInt k v
 |.inr x,v=>Value.isStrOf x v
noncomputable def keyH (w:World):Key->Int
 |.inl k=>hashInt k
 |.inr x=>hashStr w x
theorem z2k:∀{k:Key}{v:Value},x4b k v=true->(∃i t,k=Sum.inl i/\v=Value.int i t)\/(∃x t,k=Sum.inr x/\v=Value.str x t)
 |.inl i,v,h=>by
  obtain⟨t,e⟩:=Value.isInt_shape (k:=i) (v:=v) h;exact .inl ⟨i,t,rfl,e⟩
 |.inr x,v,h=>by
  obtain⟨t,e⟩:=Value.isStrOf_shape (x:=x) (v:=v) h;exact .inr ⟨x,t,rfl,e⟩
theorem q0g (i:Int)(t:Tok):x4b (.inl i) (.int i t)=true:=by simp[x4b,Value.isInt]
theorem q0f (x:Str)(t:Tok):x4b (.inr x) (.str x t)=true:=by simp[x4b,Value.isStrOf]
theorem j4i (a b:Int):decide ((Sum.inl a:Key)=Sum.inl b)=(a == b):=by
 by_cases e:a=b
 ·subst e;simp
 ·have h:¬(Sum.inl a:Key)=Sum.inl b:=fun q=>e (Sum.inl.inj q);rw[decide_eq_false h];exact(beq_eq_false_iff_ne.mpr e).symm
theorem j5q (a b:Str):decide ((Sum.inr a:Key)=Sum.inr b)=decide (a=b):=by
 by_cases e:a=b
 ·subst e;simp
 ·have h:¬(Sum.inr a:Key)=Sum.inr b:=fun q=>e (Sum.inr.inj q);rw[decide_eq_false h,decide_eq_false e]
theorem j6s (a:Int)(b:Str):decide ((Sum.inl a:Key)=Sum.inr b)=false:=decide_eq_false (fun q=>nomatch q)
theorem j7i (a:Str)(b:Int):decide ((Sum.inr a:Key)=Sum.inl b)=false:=decide_eq_false (fun q=>nomatch q)
def z2c (prog:Program)(w:World):PySem.KeyKind prog w Key where
 is:=x4b
 hash:=keyH w
 inj:=fun v a b ha hb=>by
  rcases z2k ha with ⟨i,t,rfl,rfl⟩|⟨x,t,rfl,rfl⟩
  ·rcases z2k hb with ⟨j,u,rfl,e⟩|⟨y,u,rfl,e⟩
   ·injection e with e1 _;rw[e1]
   ·exact nomatch e
  ·rcases z2k hb with ⟨j,u,rfl,e⟩|⟨y,u,rfl,e⟩
   ·exact nomatch e
   ·injection e with e1 _;rw[e1]
 byValue:=fun k v h=>by
  rcases z2k h with ⟨i,t,rfl,rfl⟩|⟨x,t,rfl,rfl⟩<;>rfl
 pyHash:=fun hv h=>by
  rcases z2k hv with ⟨i,t,rfl,rfl⟩|⟨x,t,rfl,rfl⟩
  ·exact wpAny_pyHash_int h
  ·exact wpAny_pyHash_str h
 eqBool:=fun hu hv h=>by
  rcases z2k hu with ⟨i,t,rfl,rfl⟩|⟨x,t,rfl,rfl⟩
  ·rcases z2k hv with ⟨j,u,rfl,rfl⟩|⟨y,u,rfl,rfl⟩
   ·rw[j4i]at h;exact wpAny_eqBool_int h
   ·rw[j6s]at h;exact SeqAt.EqAt.int_str i t y u _ _ _ _ h
  ·rcases z2k hv with ⟨j,u,rfl,rfl⟩|⟨y,u,rfl,rfl⟩
   ·rw[j7i]at h;exact SeqAt.EqAt.str_int x t j u _ _ _ _ h
   ·rw[j5q]at h;exact wpAny_eqBool_str h
 «strs»:=fun k x t v h=>by
  rcases z2k h with ⟨i,u,rfl,e⟩|⟨y,u,rfl,e⟩
  ·exact nomatch e
  ·injection e with e1 _;subst e1;cases v<;>rfl
theorem y9m (prog:Program)(w:World)(i:Int)(t:Tok):(z2c prog w).is (.inl i) (.int i t)=true:=q0g i t
theorem y9r (prog:Program)(w:World)(x:Str)(t:Tok):(z2c prog w).is (.inr x) (.str x t)=true:=q0f x t
inductive V where
 |non|bl (b:Bool)|int (i:Int)|str (x:Str)|byt (b:Array UInt8)|flt (b:UInt64)|ref (a:Addr)|ty (n:String)
 deriving DecidableEq
def RelV:V->Value->Prop
 |.non,u=>u=Value.none
 |.bl b,u=>u=Value.bool b
 |.int i,u=>∃t,u=Value.int i t
 |.str x,u=>∃t,u=Value.str x t
 |.byt b,u=>∃t,u=Value.bytes b t
 |.flt b,u=>∃t,u=Value.float b t
 |.ref a,u=>u=Value.ref a
 |.ty n,u=>u=Value.type n
abbrev Vals:List V->List Value->Prop:=Paired RelV
theorem Vals.length {xs:List V}{us:List Value}(r:Vals xs us):xs.length=us.length:=Paired.length r
theorem Vals.get:∀{xs:List V}{us:List Value}{i:Nat}{x:V},Vals xs us->xs[i]? = some x->∃u,us[i]? = some u/\RelV x u
 |_,_,_,_,.nil,e=>by simp at e
 |_,_,0,_,.cons r _,e=>by simp at e;subst e;exact⟨_,rfl,r⟩
 |_,_,i+1,x,.cons _ t,e=>by
  obtain⟨u,h1,h2⟩:=Vals.get (i:=i) (x:=x) t (by simpa using e);exact⟨u,by simpa using h1,h2⟩
theorem Vals.set {x:V}{u:Value}(r:RelV x u):∀{xs:List V}{us:List Value}(i:Nat),Vals xs us->Vals (xs.set i x) (us.set i u)
 |_,_,_,.nil=>.nil
 |_,_,0,.cons _ t=>.cons r t
 |_,_,i+1,.cons q t=>.cons q (Vals.set r i t)
theorem Vals.append:∀{xs ys:List V}{us ws:List Value},Vals xs us->Vals ys ws->Vals (xs++ys) (us++ws)
 |_,_,_,_,.nil,s=>s
 |_,_,_,_,.cons r t,s=>.cons r (Vals.append t s)
theorem Vals.take:∀{xs:List V}{us:List Value}(n:Nat),Vals xs us->Vals (xs.take n) (us.take n)
 |_,_,0,_=>.nil
 |_,_,_+1,.nil=>.nil
 |_,_,n+1,.cons r t=>.cons r (Vals.take n t)
theorem Vals.drop:∀{xs:List V}{us:List Value}(n:Nat),Vals xs us->Vals (xs.drop n) (us.drop n)
 |_,_,0,r=>r
 |_,_,_+1,.nil=>.nil
 |_,_,n+1,.cons _ t=>Vals.drop n t
theorem Vals.none_of:∀{xs:List V}{us:List Value}{i:Nat},Vals xs us->xs[i]? = none->us[i]? = none:=fun {xs us i} r e=>by
 have h1:=r.length;have h2:xs.length<=i:=List.getElem?_eq_none_iff.mp e;exact List.getElem?_eq_none_iff.mpr (by omega)
def RelO:Option V->Option Value->Prop
 |some v,some u=>RelV v u
 |none,none=>True
 |_,_=>False
def KV {κ:Type}:List (κ×V)->List (κ×Value)->Prop:=Paired fun(p:κ×V)(q:κ×Value)=>p.1=q.1/\RelV p.2 q.2
noncomputable def kV:Key->V
 |.inl i=>.int i
 |.inr x=>.str x
inductive HO where
 |lst (xs:List V)
 |tup (xs:List V)
 |dK (kvs:List (Key×V))|dT (kvs:List (List Key×V))
 |set (S:Int->Bool)(n:Nat)
 |ins (C dx:Addr)(fs:List (Str×V))
 |own (x:Addr)
 |xd (fs:List (Str×V))
 |met (f x:Addr)
 |rng (lo hi:Int)
 |frz (o:Obj)(u:HO)
 |lam
 |ext (φ:Heap->Prop)
abbrev Hp:=Addr->Option HO
def j0y (H:Hp):Prop:=∀p,lamP=some p->H p=some .lam
noncomputable def upd (H:Hp)(a:Addr)(o:HO):Hp:=fun b=>if b=a then some o else H b
theorem z0g {H:Hp}{a:Addr}{o:HO}:upd H a o a=some o:=by unfold upd;rw[if_pos rfl]
theorem z0j {H:Hp}{a b:Addr}{o:HO}(h:b≠a):upd H a o b=H b:=by unfold upd;rw[if_neg h]
theorem x6d {H:Hp}{a:Addr}{o u:HO}:upd (upd H a o) a u=upd H a u:=by
 funext b;unfold upd;split<;>rfl
theorem ne_of {H:Hp}{a b:Addr}{o u:HO}(h:H a=some o)(h':H b=some u)(d:o≠u):a≠b:=by
 intro e;subst e;rw[h]at h';exact d (Option.some.inj h')
theorem z0s {H:Hp}{a b:Addr}{o:HO}(h:H a=some o)(h':H b=none):a≠b:=by
 intro e;subst e;rw[h]at h';cases h'
section
variable (P:Program)(w:World)
def ObjOk (H:Hp)(h:Heap)(a:Addr):HO->Prop
 |.lst xs=>xs.length<=sizeLine/\∃(its:List Value)(n:Nat),Vals xs its/\h.get? a=some { cls:=.type "list",data:=.seq its.toArray n }
 |.tup xs=>xs.length<=sizeLine/\∃its:List Value,Vals xs its/\IsTup h a its.toArray
 |.dK kvs=>kvs.length<=sizeLine/\(a == sysModules)=false/\∃vs,KV kvs vs/\h.DictOf (z2c P w) a vs
 |.dT kvs=>kvs.length<=sizeLine/\(a == sysModules)=false/\∃xs:List (List Key×Addr×Value),
   Paired (fun(p:List Key×V)(q:List Key×Addr×Value)=>p.1=q.1/\H q.2.1=some (.tup (p.1.map kV))/\RelV p.2 q.2.2) kvs xs /\
   ∃o es ep,h.get? a=some o/\o.ExactDict/\o.data=.dict es ep/\es.toList=xs.map (entryOfKey (tupleKind (z2c P w)))/\(xs.map (·.1)).Nodup
 |.set S n=>h.SetOf (intKind P w) a S n
 |.ins C dx fs=>H dx=some (.own a)/\fs.length<=1000/\dx≠a/\h.get? a=some (instObj C dx) /\
   ∃mA,h.Ns1 dx mA/\(∀f,RelO (fs.lookup f) (mA f))/\PySem.Within mA (fs.map (·.1))
 |.own _=>∃o,h.get? a=some o
 |.xd fs=>∃mA,h.Ns1 a mA/\∀f,RelO (fs.lookup f) (mA f)
 |.rng lo hi=>∃t u v,h.get? a=some { cls:=.type "range",data:=.fields #[.int lo t,.int hi u,.int 1 v] }
 |.frz o u=>h.get? a=some o/\ObjOk H h a u
 |.lam=>∃ps:Array Value,h.get? a=some { cls:=.none,data:=.fields ps }/\(ps = #[] \/ ∃c',ps = #[rawInt lamL,rawInt lamC,.ref c']/\H c' = some (.own a)/\h.CodeRec (.ref c') lamQ)
 |.met f x=>h.get? a=some (methodObj (.ref f) (.ref x))
 |.ext φ=>φ h/\(∃o,h.get? a=some o)/\∀h1 h2:Heap,φ h1->(∀o,h1.get? a=some o->h2.get? a=some o)->φ h2
def HOk (H:Hp)(h:Heap):Prop:=∀a o,H a=some o->ObjOk P w H h a o
end
section
variable {P:Program}{w:World}{H H':Hp}{h h':Heap}{a:Addr}{o:HO}
theorem ObjOk.lt (x:ObjOk P w H h a o):a<h.objs.size:=by
 cases o with
 |lst xs=>obtain⟨_,_,_,_,e⟩:=x;exact lt_size e
 |tup xs=>obtain⟨_,_,_,p⟩:=x;exact p.lt
 |dK kvs=>obtain⟨_,_,_,_,o,_,_,e,_⟩:=x;exact lt_size e
 |dT kvs=>obtain⟨_,_,_,_,o,_,_,e,_⟩:=x;exact lt_size e
 |set S n=>obtain⟨o,_,_,_,e,_⟩:=x;exact lt_size e
 |ins C dx fs=>obtain⟨_,_,_,e,_⟩:=x;exact lt_size e
 |own y=>obtain⟨_,e⟩:=x;exact lt_size e
 |xd fs=>obtain⟨_,⟨_,_,_,e,_⟩,_⟩:=x;exact lt_size e
 |rng lo hi=>obtain⟨_,_,_,e⟩:=x;exact lt_size e
 |frz ob u=>obtain⟨e,_⟩:=x;exact lt_size e
 |lam=>obtain⟨_,e,_⟩:=x;exact lt_size e
 |met f y=>exact lt_size (show h.get? a=some _ from x)
 |ext φ=>obtain⟨_,⟨_,e⟩,_⟩:=x;exact lt_size e
theorem Paired.mapP {α β:Type}{F G:α->β->Prop}:∀{l₁:List α}{l₂:List β},Paired F l₁ l₂->(∀a b,F a b->G a b)->Paired G l₁ l₂
 |_,_,.nil,_=>.nil
 |_,_,.cons r t,f=>.cons (f _ _ r) (Paired.mapP t f)
theorem ObjOk.stay (x:ObjOk P w H h a o)(k:∀b u,(b=a\/H b=some (.own a))->h.get? b=some u->h'.get? b=some u)
  (ho:∀b,H b=some (.own a)->H' b=some (.own a))(ht:∀b xs,H b=some (.tup xs)->H' b=some (.tup xs)):ObjOk P w H' h' a o:=by
 induction o with
 |lst xs=>obtain⟨z,its,n,r,e⟩:=x;exact⟨z,its,n,r,k _ _ (.inl rfl) e⟩
 |tup xs=>obtain⟨z,its,r,ob,e,c⟩:=x;exact⟨z,its,r,ob,k _ _ (.inl rfl) e,c⟩
 |dK kvs=>obtain⟨z,y,vs,r,ob,es,ep,e,c⟩:=x;exact⟨z,y,vs,r,ob,es,ep,k _ _ (.inl rfl) e,c⟩
 |dT kvs =>
  obtain⟨z,y,xs,r,ob,es,ep,e,c⟩:=x;exact⟨z,y,xs,Paired.mapP r fun p q z=>⟨z.1,ht _ _ z.2.1,z.2.2⟩,ob,es,ep,k _ _ (.inl rfl) e,c⟩
 |set S n=>obtain⟨ob,es,ep,t,e,c⟩:=x;exact⟨ob,es,ep,t,k _ _ (.inl rfl) e,c⟩
 |ins C dx fs =>
  obtain⟨d,z,ne,e,mA,⟨od,es,ep,e2,c⟩,r⟩:=x;exact⟨ho _ d,z,ne,k _ _ (.inl rfl) e,mA,⟨od,es,ep,k _ _ (.inr d) e2,c⟩,r⟩
 |own y=>obtain⟨ob,e⟩:=x;exact⟨ob,k _ _ (.inl rfl) e⟩
 |xd fs=>obtain⟨mA,⟨od,es,ep,e,c⟩,r⟩:=x;exact⟨mA,⟨od,es,ep,k _ _ (.inl rfl) e,c⟩,r⟩
 |rng lo hi=>obtain⟨t,u,v,e⟩:=x;exact⟨t,u,v,k _ _ (.inl rfl) e⟩
 |frz ob u ih=>obtain⟨e,q⟩:=x;exact⟨k _ _ (.inl rfl) e,ih q⟩
 |lam =>
  obtain⟨ps,e,r⟩:=x;refine⟨ps,k a _ (.inl rfl) e,r.imp id fun zq=>?_⟩;obtain⟨c',e1,e2,c,o,vs,t,q,e3,e4⟩:=zq;cases q;exact⟨c',e1,ho _ e2,c',o,vs,t,rfl,k _ _ (.inr e2) e3,e4⟩
 |met f y =>
  have e:h.get? a=some (methodObj (.ref f) (.ref y)):=x;show h'.get? a=some (methodObj (.ref f) (.ref y));exact k a _ (.inl rfl) e
 |ext φ=>obtain⟨p,⟨o,e⟩,st⟩:=x;exact⟨st _ _ p fun o q=>k _ _ (.inl rfl) q,⟨o,k _ _ (.inl rfl) e⟩,st⟩
theorem HOk.lt (x:HOk P w H h)(e:H a=some o):a<h.objs.size:=(x a o e).lt
theorem HOk.fresh (x:HOk P w H h)(e:h.objs.size<=a):H a=none:=by
 cases q:H a with
 |none=>rfl
 |some u=>exact absurd (lt_of_lt_of_le (x.lt q) e) (lt_irrefl _)
theorem HOk.kept (x:HOk P w H h)(k:∀b u,h.get? b=some u->h'.get? b=some u):HOk P w H h':=fun a o e =>
 (x a o e).stay (fun b u _ q=>k b u q) (fun _ q=>q) fun _ _ q=>q
theorem HOk.laid (x:HOk P w H h)(k:∀b u,h.get? b=some u->h'.get? b=some u)(hp:h.objs.size<=a)(new:ObjOk P w (upd H a o) h' a o):HOk P w (upd H a o) h':=fun b u e=>by
 have hn:=x.fresh hp;by_cases hb:b=a
 ·subst hb;rw[z0g]at e;cases e;exact new
 ·rw[z0j hb]at e;exact(x b u e).stay (fun c v _ q=>k c v q) (fun c q=>by rw[z0j (z0s q hn)];exact q) fun c xs q=>by rw[z0j (z0s q hn)];exact q
def Rd (H:Hp)(a:Addr)(u:HO):Prop:=H a=some u \/ ∃o,H a=some (.frz o u)
theorem Rd.ok {P:Program}{w:World}{H:Hp}{h:Heap}{a:Addr}{u:HO}(r:Rd H a u)(x:HOk P w H h):ObjOk P w H h a u:=by
 rcases r with r|⟨o,r⟩
 ·exact x a u r
 ·obtain⟨_,q⟩:=x a _ r;exact q
def Mut:Option HO->Prop
 |some (.lst _)=>True
 |some (.dK _)=>True
 |some (.dT _)=>True
 |some (.set _ _)=>True
 |some (.ins _ _ _)=>True
 |some (.ext _)=>True
 |_=>False
variable {x e:Addr}{o':HO}
theorem HOk.write (ok:HOk P w H h)(mu:Mut (H x))(he:e=x\/H e=some (.own x))(k:∀b u,b≠e->h.get? b=some u->h'.get? b=some u)(heo:∃u,h'.get? e=some u)
  (new:ObjOk P w (upd H x o') h' x o'):HOk P w (upd H x o') h':=fun b u q=>by
 have nown:∀c y,H c=some (.own y)->c≠x:=fun c y r z=>by subst z;rw[r]at mu;exact mu
 have ntup:∀c xs,H c=some (.tup xs)->c≠x:=fun c xs r z=>by subst z;rw[r]at mu;exact mu
 by_cases hb:b=x
 ·subst hb;rw[z0g]at q;cases q;exact new
 ·rw[z0j hb]at q;by_cases hbe:b=e
  ·have q':H b=some (.own x):=by
    rcases he with z|z
    ·exact absurd (hbe.trans z) hb
    ·rw[hbe];exact z
   rw[q]at q';cases q';obtain⟨v,hv⟩:=heo;exact⟨v,by rw[hbe];exact hv⟩
  ·refine(ok b u q).stay (fun c v hc r=>k c v ?_ r) (fun c r=>by rw[z0j (nown c b r)];exact r) fun c xs r=>by rw[z0j (ntup c xs r)];exact r
   rcases hc with rfl|hc
   ·exact hbe
   ·rintro rfl;rcases he with z|z
    ·exact nown c b hc z
    ·rw[hc]at z;cases z;exact hb rfl
structure Un (fs ex:List Addr)(H H':Hp)(h h':Heap):Prop where
 keep:∀b o,h.get? b=some o->H b=none->b∉fs->b∉ex->h'.get? b=some o
 slot:∀b o,h.get? b=some o->H b=none->b∈fs->b∉ex->∃sl,h'.get? b=some { o with slots:=sl }
 free:∀b o,h.get? b=some o->H b=none->b∉ex->H' b=none
 there:∀b o,h.get? b=some o->b∉ex->∃o',h'.get? b=some o'
 tups:∀b xs,H b=some (.tup xs)->H' b=some (.tup xs)
 frzs:∀b o u,H b=some (.frz o u)->H' b=some (.frz o u)
 tbls:∀b,H b=some .lam->H' b=some .lam
variable {fs fs' ex ex':List Addr}{H1 H2:Hp}{h1 h2:Heap}
theorem Un.any (u:Un fs ex H H1 h h1){b:Addr}{ob:Obj}(q:h.get? b=some ob)(n:H b=none)(hx:b∉ex):∃sl,h1.get? b=some { ob with slots:=sl }:=by
 by_cases hb:b∈fs
 ·exact u.slot b ob q n hb hx
 ·exact⟨ob.slots,u.keep b ob q n hb hx⟩
theorem Un.kept (k:∀b u,h.get? b=some u->h'.get? b=some u):Un fs ex H H h h' :=
 ⟨fun b ob q _ _ _=>k b ob q,fun b ob q _ _ _=>⟨ob.slots,k b ob q⟩,fun _ _ _ n _=>n,fun b ob q _=>⟨ob,k b ob q⟩,fun _ _ q=>q,fun _ _ _ q=>q,fun _ q=>q⟩
theorem Un.refl:Un fs ex H H h h:=Un.kept fun _ _ q=>q
theorem Un.laid (k:∀b u,h.get? b=some u->h'.get? b=some u)(hp:h.objs.size<=a)(hn:H a=none):Un fs ex H (upd H a o) h h' where
 keep:=fun b u q _ _ _=>k b u q
 slot:=fun b u q _ _ _=>⟨u.slots,k b u q⟩
 free:=fun b u q n _=>by rw[z0j (ne_of_lt (lt_of_lt_of_le (lt_size q) hp))];exact n
 there:=fun b u q _=>⟨u,k b u q⟩
 tups:=fun b xs q=>by rw[z0j (z0s q hn)];exact q
 frzs:=fun b u xs q=>by rw[z0j (z0s q hn)];exact q
 tbls:=fun b q=>by rw[z0j (z0s q hn)];exact q
theorem Un.write (mu:Mut (H x))(he:e=x\/H e=some (.own x))(k:∀b u,b≠e->h.get? b=some u->h'.get? b=some u)(heo:∃u,h'.get? e=some u):Un fs ex H (upd H x o) h h':=by
 have hx:∀b,H b=none->b≠x:=fun b n z=>by subst z;rw[n]at mu;exact mu
 have hb:∀b,H b=none->b≠e:=fun b n z=>by
  subst z;rcases he with r|r
  ·exact hx b n r
  ·rw[n]at r;cases r
 have hm:∀b u,H b=some u->¬Mut (some u)->b≠x:=fun b u q nm z=>by subst z;rw[q]at mu;exact nm mu
 refine⟨fun b u q n _ _=>k b u (hb b n) q,fun b u q n _ _=>⟨u.slots,k b u (hb b n) q⟩,fun b u q n _=>by rw[z0j (hx b n)];exact n,fun b u q _=>?_,
  fun b xs q=>by rw[z0j (hm b _ q fun z=>z)];exact q,fun b u xs q=>by rw[z0j (hm b _ q fun z=>z)];exact q,fun b q=>by rw[z0j (hm b _ q fun z=>z)];exact q⟩
 by_cases hbe:b=e
 ·subst hbe;exact heo
 ·exact⟨u,k b u hbe q⟩
noncomputable def trk (h:Heap)(H:Hp):List Addr:=(range h.objs.size).filter fun a=>(H a).isSome
noncomputable def hidT (h:Heap)(H:Hp):Heap:=W.hideAll h (trk h H)
theorem x5r (h:Heap)(H:Hp):(hidT h H).objs.size=h.objs.size:=W.hideAll_size _ _
theorem q2t {h:Heap}{H:Hp}{b:Addr}{o:Obj}(e:h.get? b=some o)(n:H b=none):(hidT h H).get? b=some o :=
 W.hideAll_get _ e fun hm=>by
  have q:(H b).isSome=true:=(mem_filter.mp hm).2;rw[n]at q;simp at q
theorem j0f {h:Heap}{H:Hp}{b:Addr}{o:Obj}(e:(hidT h H).get? b=some o):h.get? b=some o/\H b=none:=by
 have e':h.get? b=some o:=W.of_hideAll (trk h H) e;refine⟨e',?_⟩;cases q:H b with
 |none=>rfl
 |some x =>
  have hm:b∈trk h H:=mem_filter.mpr ⟨mem_range.mpr (lt_size e'),by simp[q]⟩;have z:(hidT h H).get? b=none:=W.hideAll_none (trk h H) hm;rw[z]at e;cases e
noncomputable def q8t (g h:Heap)(L:Addr):List (Addr×Obj):=(range h.objs.size).filterMap fun a=>if a=L\/(g.get? a).isSome=true then none else(h.get? a).map fun o=>(a,o)
noncomputable def rest (g h:Heap)(L d:Addr):List (Addr×Obj):=(q8t g h L).filter fun p=>decide (p.1≠d)
structure Mod (K:W.Frag)(mg:Str->Option Value)(base:Heap):Prop where
 kin:K.In base
 glob:base.Ns mainGlobals mg
 blt:∃mb,base.Ns builtinsNs mb/\∀x:Str,x ≠ "__name__"->mb x=bootBuiltins x
 nolimit:base.NoLimit
 bmain:∃bm ob,mg "__builtins__" = some (.ref bm)/\bm≠builtinsNs/\base.get? bm=some ob/\ob.cls=.type "module"/\ob.dict=some builtinsNs/\ob.data=.plain
end
section
structure Cx where
 prog:Program
 w:World
 K:W.Frag
 mg:Str->Option Value
 base:Heap
 A:Around
 N:List Str
 s₀:Shared
 H₀:Hp
 env:Env
 outer:List Env
 stack:List Env
 ex:List Addr
 fn:Str->Bool
 calm:Bool
 pn:List (Addr×Obj)
 xe:Value->Shared->Prop
noncomputable def frs (l:List Env):List Addr:=l.filterMap (·.frame)
noncomputable abbrev Cx.fs (X:Cx):List Addr:=frs X.outer
def Vis (sc:Scope)(x:Str):Prop:=sc.names.lookup x=some .local\/sc.names.lookup x=some .cell\/sc.names.lookup x=some .free
def Loc (sc:Scope)(x:Str):Prop:=sc.names.lookup x=some .local\/sc.names.lookup x=some .cell
def Look (env:Env)(h:Heap)(m:Str->Option Value)(x:Str)(u:Value):Prop :=
 (env.kindOf x=some .local/\m x=some u)\/((env.kindOf x=some .cell\/env.kindOf x=some .free)/\∃c,env.cells.lookup x=some c/\h.IsCell c (some u))
structure Cx.Ok (X:Cx):Prop where
 mod:Mod X.K X.mg X.base
 kind:X.env.scope.kind=.function
 glob:X.env.globals=mainGlobals
 blt:X.env.builtins=builtinsNs
 above:X.s₀.heap.objs.size<=X.env.locals
 inj:∀x y c,X.env.cells.lookup x=some c->X.env.cells.lookup y=some c->x=y
 has:∀x,(X.env.kindOf x=some .cell\/X.env.kindOf x=some .free)->∃c,X.env.cells.lookup x=some c
 cab:∀x c,X.fn x=true->X.env.cells.lookup x=some c->X.s₀.heap.objs.size<=c
 hd:X.calm=true->X.A.handled=none
 frames:X.A.frames=some X.stack
 stk:X.stack=X.outer\/(X.stack=X.env::X.outer/\X.env.frame=some X.env.locals)
 exf:∀b∈X.ex,b≠X.env.locals/\∀x c,X.env.cells.lookup x=some c->c≠b
 bs:∀b o,X.base.get? b=some o->X.s₀.heap.get? b=some o/\X.H₀ b=none
 bsz:X.base.objs.size<=X.s₀.heap.objs.size
 noex:∀b o,X.base.get? b=some o->b∉X.ex
 exfs:∀b∈X.ex,b∉X.fs
 funs:X.s₀.heap.FunFrames X.base X.outer
 frf:∀b∈X.fs,X.H₀ b=none
 lam:j0y X.H₀
structure Inv (X:Cx)(pins:List (Addr×Obj))(σ:List (Option V))(H:Hp)(s:Shared):Prop where
 ok:X.Ok
 os:s.os=X.s₀.os
 bare:AllBare s.gens
 base:Un X.fs X.ex X.H₀ H X.s₀.heap s.heap
 loc:∃m,s.heap.Ns X.env.locals m/\∀(i:Nat)(x:Str)(v:V),X.N[i]? = some x->σ[i]? = some (some v)->Vis X.env.scope x->∃u,RelV v u/\Look X.env s.heap m x u
 cell:∀x c,X.env.cells.lookup x=some c->∃v,s.heap.IsCell c v
 free:H X.env.locals=none
 freeC:∀x c,X.env.cells.lookup x=some c->H c=none
 pin:∀p∈X.pn++pins,s.heap.get? p.1=some p.2/\H p.1=none/\p.1≠X.env.locals/\p.1∉X.fs/\∀v,p.2.data≠.cell v
 hok:HOk X.prog X.w H s.heap
 len:σ.length=X.N.length
variable {X:Cx}{pins:List (Addr×Obj)}{σ:List (Option V)}{H H':Hp}{s:Shared}{h':Heap}
theorem Cx.Ok.nofr (ok:X.Ok){b:Addr}{o:Obj}(e:X.base.get? b=some o):b∉X.fs:=fun hb=>by
 have:=(ok.funs.mem hb).1;rw[e]at this;cases this
theorem Inv.bs (I:Inv X pins σ H s):∀b o,X.base.get? b=some o->s.heap.get? b=some o/\H b=none:=fun b o e =>
 ⟨I.base.keep b o (I.ok.bs b o e).1 (I.ok.bs b o e).2 (I.ok.nofr e) (I.ok.noex b o e),I.base.free b o (I.ok.bs b o e).1 (I.ok.bs b o e).2 (I.ok.noex b o e)⟩
theorem Inv.bk (I:Inv X pins σ H s):∀b o,X.base.get? b=some o->s.heap.get? b=some o:=fun b o e=>(I.bs b o e).1
theorem Inv.mod (I:Inv X pins σ H s):Mod X.K X.mg X.base:=I.ok.mod
theorem Inv.kIn (I:Inv X pins σ H s):X.K.In s.heap:=I.ok.mod.kin.keeps I.bk
theorem Inv.fr (I:Inv X pins σ H s):∃m,Fr X.base X.env.locals s.heap m :=
 let ⟨m,hn,_⟩:=I.loc
 ⟨m,hn,I.bk,le_trans I.ok.bsz I.ok.above⟩
theorem Inv.lt (I:Inv X pins σ H s):X.env.locals<s.heap.objs.size:=let ⟨_,hn,_⟩:=I.loc;hn.lt
theorem Inv.sz (I:Inv X pins σ H s):X.s₀.heap.objs.size<=s.heap.objs.size:=le_trans I.ok.above (le_of_lt I.lt)
theorem Inv.nofs (I:Inv X pins σ H s){a:Addr}(h:s.heap.objs.size<=a):a∉X.fs:=fun hb=>by
 obtain⟨_,o,ho,_⟩:=I.ok.funs.mem hb;exact absurd (lt_of_lt_of_le (lt_size ho) (le_trans I.sz h)) (lt_irrefl _)
theorem Inv.cne (I:Inv X pins σ H s):∀x c,X.env.cells.lookup x=some c->c≠X.env.locals:=fun x c e z=>by
 obtain⟨v,o,ho,hd⟩:=I.cell x c e;obtain⟨m,⟨o',es,ep,ho',hd',_⟩,_⟩:=I.loc;rw[z,ho']at ho;cases ho;rw[hd']at hd;cases hd
theorem Inv.funs (I:Inv X pins σ H s):s.heap.FunFrames X.base X.outer:=by
 have all:∀(l:List Env),(∀b∈frs l,b∈X.fs)->X.s₀.heap.FunFrames X.base l->s.heap.FunFrames X.base l:=by
  intro l;induction l with
  |nil=>intro _ _;trivial
  |cons env r ih =>
   intro hs hl;obtain⟨hk,⟨L,o,hf,hn,ho,hd⟩,hr⟩:=hl;have hL:L∈X.fs:=hs L (by unfold frs;rw[List.filterMap_cons,hf];exact mem_cons_self);obtain⟨sl,e⟩:=I.base.slot L o ho (I.ok.frf L hL) hL fun z=>I.ok.exfs L z hL;exact⟨hk,⟨L,_,hf,hn,e,hd⟩,ih (fun b hb=>hs b (by unfold frs;rw[List.filterMap_cons,hf];exact mem_cons_of_mem _ hb)) hr⟩
 exact all X.outer (fun _ hb=>hb) I.ok.funs
theorem Inv.stack (I:Inv X pins σ H s):s.heap.FunFrames X.base X.stack:=by
 rcases I.ok.stk with e|⟨e,hf⟩
 ·rw[e];exact I.funs
 ·rw[e];obtain⟨m,hn,_⟩:=I.loc;refine .cons (by rw[I.ok.kind];decide) hf hn ?_ I.funs;exact Heap.get?_none_of_le (le_trans I.ok.bsz I.ok.above)
theorem Inv.stkSub (I:Inv X pins σ H s):∀b∈frs X.stack,b∈X.env.locals::X.fs:=fun b hb=>by
 rcases I.ok.stk with e|⟨e,hf⟩
 ·rw[e]at hb;exact mem_cons_of_mem _ hb
 ·rw[e]at hb;unfold frs at hb;rw[List.filterMap_cons,hf]at hb;exact hb
theorem Inv.stkFree (I:Inv X pins σ H s):∀b∈frs X.stack,H b=none:=fun b hb=>by
 rcases mem_cons.mp (I.stkSub b hb) with e|hb
 ·rw[e];exact I.free
 ·obtain⟨_,o,ho,_⟩:=I.ok.funs.mem hb;exact I.base.free b o ho (I.ok.frf b hb) fun z=>I.ok.exfs b z hb
theorem Inv.step {g':Array GenState}{t':Nat}{d':Drawn}{ch:List Addr}(I:Inv X pins σ H s)
  (hch:∀b∈ch,(b∈X.ex\/X.s₀.heap.objs.size<=b)/\b≠X.env.locals/\(∀x c,X.env.cells.lookup x=some c->c≠b)/\∀p∈X.pn++pins,p.1≠b)
  (keep:∀b o,b≠X.env.locals->b∉X.fs->b∉ch->s.heap.get? b=some o->H b=none->h'.get? b=some o)
  (slot:∀b o,b≠X.env.locals->b∈X.fs->b∉ch->s.heap.get? b=some o->H b=none->∃sl,h'.get? b=some { o with slots:=sl })(free:∀b o,b∉ch->s.heap.get? b=some o->H b=none->H' b=none)
  (there:∀b o,b∉ch->s.heap.get? b=some o->∃o',h'.get? b=some o')
  (tups:∀b xs,H b=some (.tup xs)->H' b=some (.tup xs))(frzs:∀b o u,H b=some (.frz o u)->H' b=some (.frz o u))(tbls:∀b,H b=some .lam->H' b=some .lam)
  (ns:∀m,s.heap.Ns X.env.locals m->h'.Ns X.env.locals m)(hok:HOk X.prog X.w H' h')(hg:AllBare g') :
  Inv X pins σ H' { s with heap:=h',gens:=g',drawn:=d',toks:=t' }:=by
 have neL:∀b o,X.s₀.heap.get? b=some o->b≠X.env.locals:=fun b o e=>ne_of_lt (lt_of_lt_of_le (lt_size e) I.ok.above);have neC:∀b o,X.s₀.heap.get? b=some o->b∉X.ex->b∉ch:=fun b o e hx hb=>by
  rcases(hch b hb).1 with z|z
  ·exact hx z
  ·exact absurd (lt_of_lt_of_le (lt_size e) z) (lt_irrefl _)
 have cellK:∀x c,X.env.cells.lookup x=some c->∀v,s.heap.IsCell c v->h'.IsCell c v:=fun x c e v ⟨o,ho,hd⟩=>by
  have nch:c∉ch:=fun z=>(hch c z).2.2.1 x c e rfl;by_cases hc:c∈X.fs
  ·obtain⟨sl,q⟩:=slot c o (I.cne x c e) hc nch ho (I.freeC x c e);exact⟨_,q,hd⟩
  ·exact⟨o,keep c o (I.cne x c e) hc nch ho (I.freeC x c e),hd⟩
 refine⟨I.ok,I.os,hg,⟨fun b o e n hb hx=>?_,fun b o e n hb hx=>?_,fun b o e n hx=>?_,fun b o e hx=>?_,fun b xs e=>tups b xs (I.base.tups b xs e),fun b o xs e=>frzs b o xs (I.base.frzs b o xs e),fun b e=>tbls b (I.base.tbls b e)⟩,?_,fun x c e=>?_,?_,fun x c e=>?_,fun p hp=>?_,hok,I.len⟩
 ·exact keep b o (neL b o e) hb (neC b o e hx) (I.base.keep b o e n hb hx) (I.base.free b o e n hx)
 ·obtain⟨sl,e1⟩:=I.base.slot b o e n hb hx;obtain⟨sl',e2⟩:=slot b _ (neL b o e) hb (neC b o e hx) e1 (I.base.free b o e n hx);exact⟨sl',e2⟩
 ·obtain⟨o',e1⟩:=I.base.there b o e hx;exact free b o' (neC b o e hx) e1 (I.base.free b o e n hx)
 ·obtain⟨o',e1⟩:=I.base.there b o e hx;exact there b o' (neC b o e hx) e1
 ·obtain⟨m,hn,hl⟩:=I.loc;refine⟨m,ns m hn,fun i x v e1 e2 e3=>?_⟩;obtain⟨u,r,l⟩:=hl i x v e1 e2 e3;refine⟨u,r,?_⟩;rcases l with l|⟨k,c,e,z⟩
  ·exact .inl l
  ·exact .inr ⟨k,c,e,cellK x c e _ z⟩
 ·obtain⟨v,z⟩:=I.cell x c e;exact⟨v,cellK x c e v z⟩
 ·obtain⟨m,⟨o,_,_,ho,_⟩,_⟩:=I.loc;exact free _ o (fun z=>(hch _ z).2.1 rfl) ho I.free
 ·obtain⟨v,o,ho,hd⟩:=I.cell x c e;exact free c o (fun z=>(hch c z).2.2.1 x c e rfl) ho (I.freeC x c e)
 ·obtain⟨e,n,ne,nf,d⟩:=I.pin p hp;have nch:p.1∉ch:=fun z=>(hch p.1 z).2.2.2 p hp rfl;exact⟨keep p.1 p.2 ne nf nch e n,free p.1 p.2 nch e n,ne,nf,d⟩
theorem Inv.un {t':Nat}(I:Inv X pins σ H s)(u:Un X.fs [] H H' s.heap h')(hok:HOk X.prog X.w H' h'):Inv X pins σ H' { s with heap:=h',toks:=t' }:=by
 obtain⟨m,⟨o,es,ep,ho,r⟩,_⟩:=id I.loc;obtain⟨sl,hL⟩:=u.any ho I.free (by simp);exact I.step (g':=s.gens) (d':=s.drawn) (ch:=[]) (fun _ z=>nomatch z) (fun b o _ hb _ e n=>u.keep b o e n hb (by simp)) (fun b o _ hb _ e n=>u.slot b o e n hb (by simp)) (fun b o _ e n=>u.free b o e n (by simp)) (fun b o _ e=>u.there b o e (by simp)) u.tups u.frzs u.tbls (fun m' hm=>by
  obtain⟨o',es',ep',ho',r'⟩:=hm;rw[ho]at ho';cases ho';exact⟨_,es',ep',hL,r'⟩) hok I.bare
theorem Inv.call {g':Array GenState}{t':Nat}{d':Drawn}{ch:List Addr}(I:Inv X pins σ H s)(u:Un (frs X.stack) ch H H' s.heap h')(hok:HOk X.prog X.w H' h')(hg:AllBare g')
  (hch:∀b∈ch,(b∈X.ex\/X.s₀.heap.objs.size<=b)/\b≠X.env.locals/\(∀x c,X.env.cells.lookup x=some c->c≠b)/\∀p∈X.pn++pins,p.1≠b) :
  Inv X pins σ H' { s with heap:=h',gens:=g',drawn:=d',toks:=t' }:=by
 obtain⟨m,⟨o,es,ep,ho,r⟩,_⟩:=id I.loc;obtain⟨sl,hL⟩:=u.any ho I.free fun z=>(hch _ z).2.1 rfl;exact I.step (ch:=ch) hch (fun b o hL hb hc e n=>u.keep b o e n (fun z=>(mem_cons.mp (I.stkSub b z)).elim hL hb) hc) (fun b o _ _ hc e n=>u.any e n hc) (fun b o hc e n=>u.free b o e n hc) (fun b o hc e=>u.there b o e hc) u.tups u.frzs u.tbls (fun m' hm=>by
  obtain⟨o',es',ep',ho',r'⟩:=hm;rw[ho]at ho';cases ho';exact⟨_,es',ep',hL,r'⟩) hok hg
theorem Inv.turned {t':Nat}{it:Addr}(I:Inv X pins σ H s)(k:∀b o,b≠it->s.heap.get? b=some o->h'.get? b=some o)(hn:H it=none)(hL:it≠X.env.locals)
  (h1:it∈X.ex\/X.s₀.heap.objs.size<=it)(h2:∀x c,X.env.cells.lookup x=some c->c≠it)(h3:∀p∈X.pn++pins,p.1≠it):Inv X pins σ H { s with heap:=h',toks:=t' }:=by
 have nit:∀b u,H b=some u->b≠it:=fun b u e z=>by rw[z,hn]at e;cases e
 refine I.step (g':=s.gens) (d':=s.drawn) (ch:=[it]) (fun b hb=>?_) (fun b o _ _ hc e _=>k b o (fun z=>hc (by simp[z])) e) (fun b o _ _ hc e _=>⟨o.slots,k b o (fun z=>hc (by simp[z])) e⟩) (fun _ _ _ _ n=>n)
  (fun b o hc e=>⟨o,k b o (fun z=>hc (by simp[z])) e⟩) (fun _ _ e=>e) (fun _ _ _ e=>e) (fun b e=>e) (fun m hm=>?_) (fun b u e=>?_) I.bare
 ·have e:b=it:=by simpa using hb
  subst e;exact⟨h1,hL,h2,h3⟩
 ·obtain⟨o,es,ep,ho,r⟩:=hm;exact⟨o,es,ep,k _ o (Ne.symm hL) ho,r⟩
 ·refine(I.hok b u e).stay (fun c v hc q=>k c v ?_ q) (fun _ q=>q) fun _ _ q=>q;rcases hc with z|z
  ·rw[z];exact nit b u e
  ·exact nit c _ z
theorem Inv.tok (I:Inv X pins σ H s)(t:Nat):Inv X pins σ H { s with toks:=t }:=I.un (h':=s.heap) (t':=t) Un.refl I.hok
theorem Inv.kept {t':Nat}(I:Inv X pins σ H s)(k:∀b u,s.heap.get? b=some u->h'.get? b=some u):Inv X pins σ H { s with heap:=h',toks:=t' }:=I.un (Un.kept k) (I.hok.kept k)
theorem Inv.laid {a:Addr}{o:HO}{t':Nat}(I:Inv X pins σ H s)(k:∀b u,s.heap.get? b=some u->h'.get? b=some u)(hp:s.heap.objs.size<=a)(new:ObjOk X.prog X.w (upd H a o) h' a o) :
  Inv X pins σ (upd H a o) { s with heap:=h',toks:=t' }:=I.un (Un.laid k hp (I.hok.fresh hp)) (I.hok.laid k hp new)
theorem Inv.write {x e:Addr}{o:HO}{t':Nat}(I:Inv X pins σ H s)(mu:Mut (H x))(he:e=x\/H e=some (.own x))(k:∀b u,b≠e->s.heap.get? b=some u->h'.get? b=some u)(heo:∃u,h'.get? e=some u)
  (new:ObjOk X.prog X.w (upd H x o) h' x o):Inv X pins σ (upd H x o) { s with heap:=h',toks:=t' }:=I.un (Un.write mu he k heo) (I.hok.write mu he k heo new)
theorem Inv.pins_of {pins':List (Addr×Obj)}(I:Inv X pins σ H s)(h:∀p∈pins',s.heap.get? p.1=some p.2/\H p.1=none/\p.1≠X.env.locals/\p.1∉X.fs/\∀v,p.2.data≠.cell v):Inv X pins' σ H s :=
 ⟨I.ok,I.os,I.bare,I.base,I.loc,I.cell,I.free,I.freeC,fun p hp=>(mem_append.mp hp).elim (fun z=>I.pin p (mem_append_left _ z)) (h p),I.hok,I.len⟩
theorem y6j {N:List Str}(hN:N.Nodup){i j:Nat}{x:Str}(a:N[i]? = some x)(b:N[j]? = some x):i=j:=by
 obtain⟨h1,e1⟩:=List.getElem?_eq_some_iff.mp a;obtain⟨h2,e2⟩:=List.getElem?_eq_some_iff.mp b;exact(List.getElem_inj hN).mp (e1.trans e2.symm)
theorem y8d {M:Model}{A:Around}{E:Value->Shared->Prop}{i:Nat}{x:Str}{v:V}{u:Value}{Q:Unit->Shared->Prop}(I:Inv X pins σ H s)(hN:X.N.Nodup)(hi:X.N[i]? = some x)(hx:Loc X.env.scope x)(r:RelV v u)
  (h:∀s',Inv X pins (σ.set i (some v)) H s'->(∃a,Heap.SameBut a s.heap s'.heap/\(a=X.env.locals\/X.env.cells.lookup x=some a))->Q () s')(hf:X.fn x=true\/X.env.scope.names.lookup x=some .local:=by first|exact .inl rfl|exact .inr rfl|assumption):wpAny M A (storeName X.env x u) Q E s:=by
 obtain⟨m,hn,hl⟩:=id I.loc;have hcls:(X.env.scope.kind == .class||(X.env.scope.kind == .module&&X.env.locals != X.env.globals))=false:=by rw[I.ok.kind];rfl
 have hiσ:i<σ.length:=by rw[I.len];exact(List.getElem?_eq_some_iff.mp hi).1
 have cne:=I.cne;have tracked:∀{a:Addr}{h':Heap},(∃o,s.heap.get? a=some o/\H a=none)->Heap.SameBut a s.heap h'->HOk X.prog X.w H h':=fun {a h'} ha hs b ob e=>by
  obtain⟨_,_,hfree⟩:=ha;refine(I.hok b ob e).stay (fun c w' hc q=>(hs.2 c ?_).trans q) (fun _ q=>q) fun _ _ q=>q;rintro rfl;rcases hc with rfl|hc
  ·rw[hfree]at e;cases e
  ·rw[hfree]at hc;cases hc
 rcases hx with hk|hk
 ·refine wpAny_storeName_local hk hn (fun h' hn' hs=>?_) hcls;obtain⟨oL,_,_,hoL,_⟩:=id hn;refine h _ ⟨I.ok,I.os,I.bare,⟨fun b o e n hb hx=>?_,fun b o e n hb hx=>?_,I.base.free,fun b o e hx=>?_,I.base.tups,I.base.frzs,I.base.tbls⟩,⟨_,hn',fun j y v' e1 e2 e3=>?_⟩,fun y c e=>?_,I.free,I.freeC,fun p hp=>?_,tracked ⟨oL,hoL,I.free⟩ hs,by simpa using I.len⟩ ⟨_,hs,.inl rfl⟩
  ·exact(hs.2 b (ne_of_lt (lt_of_lt_of_le (lt_size e) I.ok.above))).trans (I.base.keep b o e n hb hx)
  ·obtain⟨sl,e1⟩:=I.base.slot b o e n hb hx;exact⟨sl,(hs.2 b (ne_of_lt (lt_of_lt_of_le (lt_size e) I.ok.above))).trans e1⟩
  ·obtain⟨o',e1⟩:=I.base.there b o e hx;exact⟨o',(hs.2 b (ne_of_lt (lt_of_lt_of_le (lt_size e) I.ok.above))).trans e1⟩
  ·by_cases hj:j=i
   ·subst hj;rw[hi]at e1;cases e1;rw[getElem?_set_self hiσ]at e2;cases e2;exact⟨u,r,.inl ⟨hk,by simp⟩⟩
   ·rw[getElem?_set_ne (Ne.symm hj)]at e2;obtain⟨u',r',q⟩:=hl j y v' e1 e2 e3;refine⟨u',r',?_⟩;rcases q with ⟨k,e⟩|⟨k,c,e,z⟩
    ·refine .inl ⟨k,?_⟩;have:y≠x:=fun e=>hj (y6j hN e1 (e ▸ hi));simp[this,e]
    ·exact .inr ⟨k,c,e,z.sameBut hs (cne y c e)⟩
  ·obtain⟨w',z⟩:=I.cell y c e;exact⟨w',z.sameBut hs (cne y c e)⟩
  ·obtain⟨e,n,ne,nf,d⟩:=I.pin p hp;exact⟨(hs.2 p.1 ne).trans e,n,ne,nf,d⟩
 ·have hfn:X.fn x=true:=by
   rcases hf with z|z
   ·exact z
   ·rw[z]at hk;cases hk
  obtain⟨c,hc⟩:=I.ok.has x (.inl hk);obtain⟨w',z⟩:=I.cell x c hc;refine wpAny_storeName_cell I.ok.kind hk hc z (fun h' hc' hs=>?_);obtain⟨oc,hoc,hocd⟩:=id z;refine h { s with heap:=h' } ⟨I.ok,I.os,I.bare,⟨fun b o e n hb hx=>?_,fun b o e n hb hx=>?_,I.base.free,fun b o e hx=>?_,I.base.tups,I.base.frzs,I.base.tbls⟩,⟨m,hn.sameBut hs (Ne.symm (cne x c hc)),fun j y v' e1 e2 e3=>?_⟩,fun y c' e=>?_,I.free,I.freeC,fun p hp=>?_,tracked ⟨oc,hoc,I.freeC x c hc⟩ hs,by simpa using I.len⟩ ⟨c,hs,.inr hc⟩
  ·exact(hs.2 b (ne_of_lt (lt_of_lt_of_le (lt_size e) (I.ok.cab x c hfn hc)))).trans (I.base.keep b o e n hb hx)
  ·obtain⟨sl,e1⟩:=I.base.slot b o e n hb hx;exact⟨sl,(hs.2 b (ne_of_lt (lt_of_lt_of_le (lt_size e) (I.ok.cab x c hfn hc)))).trans e1⟩
  ·obtain⟨o',e1⟩:=I.base.there b o e hx;exact⟨o',(hs.2 b (ne_of_lt (lt_of_lt_of_le (lt_size e) (I.ok.cab x c hfn hc)))).trans e1⟩
  ·by_cases hj:j=i
   ·subst hj;rw[hi]at e1;cases e1;rw[getElem?_set_self hiσ]at e2;cases e2;exact⟨u,r,.inr ⟨.inl hk,c,hc,hc'⟩⟩
   ·rw[getElem?_set_ne (Ne.symm hj)]at e2;obtain⟨u',r',q⟩:=hl j y v' e1 e2 e3;refine⟨u',r',?_⟩;rcases q with q|⟨k,c',e,z'⟩
    ·exact .inl q
    ·refine .inr ⟨k,c',e,z'.sameBut hs ?_⟩;rintro rfl;exact hj (y6j hN e1 (I.ok.inj _ _ _ e hc ▸ hi))
  ·by_cases hcc:c' = c
   ·subst hcc;exact⟨_,hc'⟩
   ·obtain⟨w2,z2⟩:=I.cell y c' e;exact⟨w2,z2.sameBut hs hcc⟩
  ·obtain⟨e,n,ne,nf,d⟩:=I.pin p hp;refine⟨(hs.2 p.1 ?_).trans e,n,ne,nf,d⟩;intro q;rw[q,hoc]at e;have q':oc=p.2:=Option.some.inj e;exact d w' (by rw[<-q'];exact hocd)
theorem z9f {M:Model}{A:Around}{E:Value->Shared->Prop}{i:Nat}{x:Str}{v:V}{u:Value}{Q:Unit->Shared->Prop}(I:Inv X pins σ H s)(hN:X.N.Nodup)(hi:X.N[i]? = some x)(hx:Loc X.env.scope x)(r:RelV v u)
  (h:∀s',Inv X pins (σ.set i (some v)) H s'->Q () s')(hf:X.fn x=true\/X.env.scope.names.lookup x=some .local:=by first|exact .inl rfl|exact .inr rfl|assumption):wpAny M A (storeName X.env x u) Q E s :=
 y8d I hN hi hx r (fun s' I' _=>h s' I') hf
theorem Inv.call' {s':Shared}{ch:List Addr}(I:Inv X pins σ H s)(ho:s'.os=s.os)(u:Un (frs X.stack) ch H H' s.heap s'.heap)(hok:HOk X.prog X.w H' s'.heap)(hg:AllBare s'.gens)
  (hch:∀b∈ch,(b∈X.ex\/X.s₀.heap.objs.size<=b)/\b≠X.env.locals/\(∀x c,X.env.cells.lookup x=some c->c≠b)/\∀p∈X.pn++pins,p.1≠b):Inv X pins σ H' s':=by
 obtain⟨h',g',d',t',o'⟩:=s';have e:o' = s.os:=ho;subst e;exact I.call (g':=g') (t':=t') (d':=d') u hok hg hch
abbrev XK:=Value->Option Addr->Hp->Prop
abbrev St:=List (Option V)
abbrev VK:=V->Hp->Prop
abbrev TE:=St->Hp->VK->Prop
abbrev TT:=St->Hp->(Bool->Hp->Prop)->Prop
abbrev TA:=St->Hp->(List V->Hp->Prop)->Prop
structure Ends where
 nx:St->Hp->Prop
 rt:VK
 bk:St->Hp->Prop:=fun _ _=>False
 ct:St->Hp->Prop:=fun _ _=>False
abbrev TS:=Ends->St->Hp->Prop
def EP (X:Cx)(pins:List (Addr×Obj))(σ:St)(Q:VK)(u:Value)(s':Shared):Prop:=∃v H',Inv X pins σ H' s'/\RelV v u/\Q v H'
def TP (X:Cx)(pins:List (Addr×Obj))(σ:St)(Q:Bool->Hp->Prop)(b:Bool)(s':Shared):Prop:=∃H',Inv X pins σ H' s'/\Q b H'
def AP (X:Cx)(pins:List (Addr×Obj))(σ:St)(Q:List V->Hp->Prop)(us:List Value)(s':Shared):Prop:=∃vs H',Inv X pins σ H' s'/\Vals vs us/\Q vs H'
def SP (X:Cx)(pins:List (Addr×Obj))(D:Ends)(f:Flow)(s':Shared):Prop :=
 match f with
 |.next=>∃σ' H',Inv X pins σ' H' s'/\D.nx σ' H'
 |.brk=>∃σ' H',Inv X pins σ' H' s'/\D.bk σ' H'
 |.cont=>∃σ' H',Inv X pins σ' H' s'/\D.ct σ' H'
 |.ret u=>∃v σ' H',Inv X pins σ' H' s'/\RelV v u/\D.rt v H'
def PE (X:Cx)(e:Expr)(t:TE):Prop :=
 ∀(pins:List (Addr×Obj))(s:Shared)(σ:St)(H:Hp)(Q:VK),Inv X pins σ H s->t σ H Q->wpAny (model X.prog X.w) X.A (eval e X.env) (EP X pins σ Q) X.xe s
def PT (X:Cx)(e:Expr)(t:TT):Prop :=
 ∀(pins:List (Addr×Obj))(s:Shared)(σ:St)(H:Hp)(Q:Bool->Hp->Prop),Inv X pins σ H s->t σ H Q->wpAny (model X.prog X.w) X.A (isTrue e X.env (eval e X.env)) (TP X pins σ Q) X.xe s
def PW (X:Cx)(e:Expr)(t:TT):Prop :=
 ∀(whole:Sem Value)(pins:List (Addr×Obj))(s:Shared)(σ:St)(H:Hp)(Q:Bool->Hp->Prop),Inv X pins σ H s->t σ H Q->wpAny (model X.prog X.w) X.A (isTrue e X.env whole) (TP X pins σ Q) X.xe s
theorem PW.pt {X:Cx}{e:Expr}{t:TT}(h:PW X e t):PT X e t:=h _
def PA (X:Cx)(es:List Expr)(t:TA):Prop :=
 ∀(pos:Pos)(pins:List (Addr×Obj))(s:Shared)(σ:St)(H:Hp)(Q:List V->Hp->Prop),Inv X pins σ H s->t σ H Q->wpAny (model X.prog X.w) X.A (spliced (backTo pos (starEach es X.env))) (AP X pins σ Q) X.xe s
def PS (X:Cx)(st:Stmt)(t:TS):Prop :=
 ∀(pins:List (Addr×Obj))(s:Shared)(σ:St)(H:Hp)(D:Ends),Inv X pins σ H s->t D σ H->wpAny (model X.prog X.w) X.A (exec st X.env) (SP X pins D) X.xe s
def PSs (X:Cx)(st:List Stmt)(t:TS):Prop :=
 ∀(pins:List (Addr×Obj))(s:Shared)(σ:St)(H:Hp)(D:Ends),Inv X pins σ H s->t D σ H->wpAny (model X.prog X.w) X.A (execs st X.env) (SP X pins D) X.xe s
theorem thn {α:Type}{t:Sem α}{Q Q':α->Shared->Prop}{M:Model}{A:Around}{E:Value->Shared->Prop}{s:Shared}(h:wpAny M A t Q E s)(hQ:∀a s,Q a s->Q' a s):wpAny M A t Q' E s:=wpAny_mono h hQ fun _ _ x=>x
def tVar (i:Nat):TE:=fun σ H Q=>∃v,σ[i]? = some (some v)/\Q v H
def tC (v:V):TE:=fun _ H Q=>Q v H
theorem y2n {i:Nat}{x:Str}{pos:Pos}(hN:X.N[i]? = some x)(hv:Vis X.env.scope x)(hd:(x == ("__debug__":Str))=false:=by decide)(hcd:(x == ("__classdict__":Str))=false:=by decide):PE X (.Name x pos) (tVar i):=by
 intro pins s σ H Q I h;obtain⟨v,e,h⟩:=h;obtain⟨m,hn,hl⟩:=I.loc;obtain⟨u,r,l⟩:=hl i x v hN e hv;have fin:EP X pins σ Q u s:=⟨v,H,I,r,h⟩;rcases l with ⟨hk,hm⟩|⟨hk,c,hc,hcell⟩
 ·exact wpAny_Name (wpAny_loadName_local I.ok.kind hk hn hm fin) hd
 ·rcases hk with hk|hk
  ·exact wpAny_Name (wpAny_loadName_cell I.ok.kind hk hc hcell fin) hd
  ·exact wpAny_Name (wpAny_loadName_free I.ok.kind hk hc hcell fin hcd) hd
theorem z2q {i j pos}:PE X (.Constant (.int i) j pos) (tC (.int i)):=fun _ _ _ H _ I h=>wpAny_Constant_int ⟨.int i,H,I.tok _,⟨_,rfl⟩,h⟩
theorem y7i {b j pos}:PE X (.Constant (.bool b) j pos) (tC (.bl b)):=fun _ _ _ H _ I h=>Constant_bool ⟨.bl b,H,I,rfl,h⟩
theorem z6v {j pos}:PE X (.Constant .none j pos) (tC .non):=fun _ _ _ H _ I h=>Constant_none ⟨.non,H,I,rfl,h⟩
theorem z3b {x j pos}:PE X (.Constant (.str x) j pos) (tC (.str x)):=fun _ _ _ H _ I h=>Calls.Constant_str ⟨.str x,H,I.tok _,⟨_,rfl⟩,h⟩
def Gl (X:Cx)(x:Str):Prop:=X.env.kindOf x=some .globalImplicit
theorem z8l {E:Value->Shared->Prop}{pins:List (Addr×Obj)}{s:Shared}{σ:St}{H:Hp}{x:Str}{u:Value}{pos:Pos}{Q:Value->Shared->Prop}(I:Inv X pins σ H s)(hg:Gl X x)(hm:X.mg x=some u)(h:Q u s)
  (hd:(x == ("__debug__":Str))=false:=by decide):wpAny (model X.prog X.w) X.A (eval (.Name x pos) X.env) Q E s :=
 Calls.Name_function_global I.ok.kind hg (Calls.loadGlobal_global (by rw[I.ok.glob];exact I.mod.glob.keeps I.bk) hm h) hd
theorem z9k {E:Value->Shared->Prop}{pins:List (Addr×Obj)}{s:Shared}{σ:St}{H:Hp}{x:Str}{u:Value}{pos:Pos}{Q:Value->Shared->Prop}(I:Inv X pins σ H s)(hg:Gl X x)(hm:X.mg x=none)(hv:bootBuiltins x=some u)(h:Q u s)
  (hn:x ≠ "__name__":=by decide)(hd:(x == ("__debug__":Str))=false:=by decide):wpAny (model X.prog X.w) X.A (eval (.Name x pos) X.env) Q E s:=by
 obtain⟨mb,h1,h2⟩:=I.mod.blt;exact Calls.Name_function_global I.ok.kind hg (Calls.loadGlobal_builtin (by rw[I.ok.glob];exact I.mod.glob.keeps I.bk) hm (by rw[I.ok.blt];exact h1.keeps I.bk) ((h2 x hn).trans hv) h) hd
theorem y6i {x:Str}{v:V}{u:Value}{pos:Pos}(hg:Gl X x)(hm:X.mg x=some u)(r:RelV v u)(hd:(x == ("__debug__":Str))=false:=by decide):PE X (.Name x pos) (tC v) :=
 fun _ _ _ H _ I h=>z8l I hg hm ⟨v,H,I,r,h⟩ hd
theorem x6e {x:Str}{v:V}{u:Value}{pos:Pos}(hg:Gl X x)(hm:X.mg x=none)(hv:bootBuiltins x=some u)(r:RelV v u)(hn:x ≠ "__name__":=by decide)(hd:(x == ("__debug__":Str))=false:=by decide):PE X (.Name x pos) (tC v) :=
 fun _ _ _ H _ I h=>z9k I hg hm hv ⟨v,H,I,r,h⟩ hn hd
variable {a b:Expr}{ta tb:TE}{pos:Pos}
def PC (X:Cx)(op:CmpOp)(a b:Expr)(t:TE):Prop :=
 ∀(pins:List (Addr×Obj))(s:Shared)(σ:St)(H:Hp)(Q:VK),Inv X pins σ H s->t σ H Q ->
  wpAny (model X.prog X.w) X.A (eval a X.env) (fun v s₁=>wpAny (model X.prog X.w) X.A (eval b X.env) (fun u s₂=>wpAny (model X.prog X.w) X.A (compareOp op v u) (EP X pins σ Q) X.xe s₂) X.xe s₁) X.xe s
theorem q1f (b:Expr){op:CmpOp}(h:op≠.In)(h2:op≠.NotIn):behindInMarks op b=false:=by
 have e1:(op == CmpOp.In)=false:=by cases op<;>first|rfl|exact absurd rfl h
 have e2:(op == CmpOp.NotIn)=false:=by cases op<;>first|rfl|exact absurd rfl h2
 cases b<;>simp[behindInMarks,e1,e2]
def tB (t:TE):TT:=fun σ H Q=>t σ H fun x H1=>∃c,x=.bl c/\Q c H1
theorem q0e {op:CmpOp}{t:TE}(h:PC X op a b t)(h1:behindInMarks op b=false:=by first|exact q1f _ (by decide) (by decide)|rfl):PT X (.Compare a [op] [b] pos) (tB t):=by
 intro pins s σ H Q I hw;refine wpAny_isTrue_Compare1 (thn (h pins s σ H _ I hw) fun v s1 h1=>thn h1 fun u s2 h2=>thn h2 fun c s3 ⟨x,H1,I1,r1,q1⟩=>?_) h1;obtain⟨d,rfl,q⟩:=q1;cases r1;exact wpAny_truthy_bool ⟨H1,I1,q⟩
theorem z5x {e:Expr}{t:TE}(h:PE X e t)(he:∀whole,isTrue e X.env whole=(do let v <-whole;standAt e.pos;holding [v] (truthy v)):=by intro _;rfl):PT X e (tB t):=by
 intro pins s σ H Q I hw;refine isTrue_plain (thn (h pins s σ H _ I hw) fun v s1 ⟨x,H1,I1,r1,q1⟩=>?_) (he _);obtain⟨d,rfl,q⟩:=q1;cases r1;exact wpAny_truthy_bool ⟨H1,I1,q⟩
variable {tA tB':TT}{rest:List Expr}
def tAnd (t u:TT):TT:=fun σ H Q=>t σ H fun c H1=>if c=true then u σ H1 Q else Q false H1
def tOr (t u:TT):TT:=fun σ H Q=>t σ H fun c H1=>if c=true then Q true H1 else u σ H1 Q
def tNot (t:TT):TT:=fun σ H Q=>t σ H fun c H1=>Q (!c) H1
theorem z8n (ha:PT X a tA):PW X (.BoolOp .And [a] pos) tA:=by
 intro wh pins s σ H Q I h;refine isTrue_and (thn (ha pins s σ H Q I h) fun c s1 e=>?_);cases c with
 |true=>exact isTrue_and_nil e
 |false=>exact e
theorem y7c (ha:PT X a tA):PW X (.BoolOp .Or [a] pos) tA:=by
 intro wh pins s σ H Q I h;refine isTrue_or (thn (ha pins s σ H Q I h) fun c s1 e=>?_);cases c with
 |false=>exact isTrue_or_nil e
 |true=>exact e
theorem y4f (ha:PT X a tA)(hb:PW X (.BoolOp .And (b::rest) pos) tB'):PW X (.BoolOp .And (a::b::rest) pos) (tAnd tA tB'):=by
 intro wh pins s σ H Q I h;refine isTrue_and (thn (ha pins s σ H _ I h) fun c s1 ⟨H1,I1,q1⟩=>?_);cases c with
 |true=>exact hb wh pins s1 σ H1 Q I1 q1
 |false=>exact⟨H1,I1,q1⟩
theorem x6v (ha:PT X a tA)(hb:PW X (.BoolOp .Or (b::rest) pos) tB'):PW X (.BoolOp .Or (a::b::rest) pos) (tOr tA tB'):=by
 intro wh pins s σ H Q I h;refine isTrue_or (thn (ha pins s σ H _ I h) fun c s1 ⟨H1,I1,q1⟩=>?_);cases c with
 |true=>exact⟨H1,I1,q1⟩
 |false=>exact hb wh pins s1 σ H1 Q I1 q1
theorem y5m (ha:PT X a tA):PT X (.UnaryOp .Not a pos) (tNot tA):=by
 intro pins s σ H Q I h;exact isTrue_not (ha pins s σ H (fun c H1=>Q (!c) H1) I h)
def j9p (ta tb:TE):TE:=fun σ H Q=>ta σ H fun x H1=>∃c,x=.bl c/\if c=true then tb σ H1 Q else Q (.bl false) H1
def k0e (ta:TE):TE:=fun σ H Q=>ta σ H fun x H1=>∃c,x=.bl c/\Q (.bl (!c)) H1
theorem j3o {op}{t:TE}(h:PE X a t):PE X (.BoolOp op [a] pos) t:=fun pins s σ H Q I hw=>BoolOp_one (h pins s σ H Q I hw)
theorem j4g (ha:PE X a ta)(hb:PE X (.BoolOp .And (b::rest) pos) tb):PE X (.BoolOp .And (a::b::rest) pos) (j9p ta tb):=by
 intro pins s σ H Q I h;refine BoolOp_and (thn (ha pins s σ H _ I h) fun v s1 zq=>?_);obtain⟨x,H1,I1,r1,q1⟩:=zq;obtain⟨c,rfl,q1⟩:=q1;cases r1;refine wpAny_truthy_bool ?_;cases c with
 |true=>exact hb pins s1 σ H1 Q I1 q1
 |false=>exact⟨.bl false,H1,I1,rfl,q1⟩
theorem j4b (ha:PE X a ta):PE X (.UnaryOp .Not a pos) (k0e ta):=by
 intro pins s σ H Q I h;refine UnaryOp_ (thn (ha pins s σ H _ I h) fun v s1 zq=>?_);obtain⟨x,H1,I1,r1,q1⟩:=zq;obtain⟨c,rfl,q1⟩:=q1;cases r1;exact not_of (wpAny_truthy_bool ⟨.bl (!c),H1,I1,rfl,q1⟩)
def tIf (t:TT)(ta tb:TE):TE:=fun σ H Q=>t σ H fun c H1=>if c=true then ta σ H1 Q else tb σ H1 Q
theorem z8s {c:Expr}(hc:PT X c tA)(ha:PE X a ta)(hb:PE X b tb):PE X (.IfExp c a b pos) (tIf tA ta tb):=by
 intro pins s σ H Q I h;refine wpAny_IfExp (thn (hc pins s σ H _ I h) fun d s1 ⟨H1,I1,q1⟩=>?_);cases d with
 |true=>exact ha pins s1 σ H1 Q I1 q1
 |false=>exact hb pins s1 σ H1 Q I1 q1
def SqL (K:W.Frag)(H:Hp)(a:Addr)(xs:List V):Prop :=
 Rd H a (.lst xs) \/
  ∃(o:Obj)(its:Array Value)(n:Nat),K.lookup a=some o/\o.cls=.type "list"/\o.dict=none/\o.data=.seq its n/\its.size<=sizeLine/\Vals xs its.toList
def SqT (K:W.Frag)(H:Hp)(a:Addr)(xs:List V):Prop :=
 Rd H a (.tup xs) \/
  ∃(o:Obj)(its:Array Value)(n:Nat),K.lookup a=some o/\o.cls=.type "tuple"/\o.data=.seq its n/\its.size<=sizeLine/\Vals xs its.toList
noncomputable def absV:Value->Option V
 |.none=>some .non
 |.bool b=>some (.bl b)
 |.int i _=>some (.int i)
 |.str x _=>some (.str x)
 |.bytes b _=>some (.byt b)
 |.float b _=>some (.flt b)
 |.ref a=>some (.ref a)
 |.type n=>some (.ty n)
 |_=>none
theorem RelV.abs {x:V}{u:Value}(r:RelV x u):absV u=some x:=by
 cases x with
 |non=>cases r;rfl
 |bl _=>cases r;rfl
 |int _=>obtain⟨t,rfl⟩:=r;rfl
 |str _=>obtain⟨t,rfl⟩:=r;rfl
 |byt _=>obtain⟨t,rfl⟩:=r;rfl
 |flt _=>obtain⟨t,rfl⟩:=r;rfl
 |ref _=>cases r;rfl
 |ty _=>cases r;rfl
theorem RelV.inj {x y:V}{u:Value}(r:RelV x u)(q:RelV y u):x=y:=Option.some.inj (r.abs.symm.trans q.abs)
theorem Vals.inj:∀{xs ys:List V}{us:List Value},Vals xs us->Vals ys us->xs=ys
 |_,_,_,.nil,.nil=>rfl
 |_,_,_,.cons r t,.cons r' t'=>by rw[r.inj r',Vals.inj t t']
end
section
variable {X:Cx}{pins:List (Addr×Obj)}{σ:St}{H:Hp}{s:Shared}{a:Addr}{xs ys:List V}
theorem SqL.of {K:W.Frag}(h:H a=some (.lst xs)):SqL K H a xs:=.inl (.inl h)
theorem SqT.of {K:W.Frag}(h:H a=some (.tup xs)):SqT K H a xs:=.inl (.inl h)
theorem Inv.list (I:Inv X pins σ H s)(h:SqL X.K H a xs):∃its:List Value,Vals xs its/\PlainL s.heap a its.toArray/\xs.length<=sizeLine:=by
 rcases h with h|⟨o,its,n,hk,hc,hd,hs,hz,r⟩
 ·obtain⟨z,its,n,r,e⟩:=h.ok I.hok;exact⟨its,r,⟨_,n,e,rfl,rfl,rfl⟩,z⟩
 ·refine⟨its.toList,r,⟨o,n,I.kIn a o hk,hc,hd,by simpa using hs⟩,?_⟩;have e:=r.length;simp only[Array.length_toList]at e;omega
theorem Inv.tuple (I:Inv X pins σ H s)(h:SqT X.K H a xs):∃its:List Value,Vals xs its/\IsTup s.heap a its.toArray/\xs.length<=sizeLine:=by
 rcases h with h|⟨o,its,n,hk,hc,hs,hz,r⟩
 ·obtain⟨z,its,r,p⟩:=h.ok I.hok;exact⟨its,r,p,z⟩
 ·refine⟨its.toList,r,⟨o,I.kIn a o hk,hc,n,by simpa using hs⟩,?_⟩;have e:=r.length;simp only[Array.length_toList]at e;omega
theorem Inv.list_inj (I:Inv X pins σ H s)(h:SqL X.K H a xs)(h':SqL X.K H a ys):xs=ys:=by
 obtain⟨its,r,⟨o,n,e,_,_,d⟩,_⟩:=I.list h;obtain⟨its',r',⟨o',n',e',_,_,d'⟩,_⟩:=I.list h';rw[e]at e';cases e';rw[d]at d';injection d' with d1 _;have:its=its':=by simpa using congrArg Array.toList d1
 subst this;exact r.inj r'
noncomputable abbrev Cx.wish (X:Cx)(E:Value->Shared->Prop):Cx:={ X with xe:=E }
noncomputable abbrev Cx.nox (X:Cx):Cx:=X.wish fun _ _=>False
theorem Cx.Ok.wish {X:Cx}(ok:X.Ok)(E:Value->Shared->Prop):(X.wish E).Ok :=
 ⟨ok.mod,ok.kind,ok.glob,ok.blt,ok.above,ok.inj,ok.has,ok.cab,ok.hd,ok.frames,ok.stk,ok.exf,ok.bs,ok.bsz,ok.noex,ok.exfs,ok.funs,ok.frf,ok.lam⟩
theorem Cx.Ok.unwish {X:Cx}{E:Value->Shared->Prop}(ok:(X.wish E).Ok):X.Ok :=
 ⟨ok.mod,ok.kind,ok.glob,ok.blt,ok.above,ok.inj,ok.has,ok.cab,ok.hd,ok.frames,ok.stk,ok.exf,ok.bs,ok.bsz,ok.noex,ok.exfs,ok.funs,ok.frf,ok.lam⟩
variable {E:Value->Shared->Prop}
theorem Inv.wish (I:Inv X pins σ H s)(E:Value->Shared->Prop):Inv (X.wish E) pins σ H s:=⟨I.ok.wish E,I.os,I.bare,I.base,I.loc,I.cell,I.free,I.freeC,I.pin,I.hok,I.len⟩
theorem Inv.unwish (I:Inv (X.wish E) pins σ H s):Inv X pins σ H s:=⟨I.ok.unwish,I.os,I.bare,I.base,I.loc,I.cell,I.free,I.freeC,I.pin,I.hok,I.len⟩
theorem SP.unwish {D:Ends}{f:Flow}{s':Shared}(h:SP (X.wish E) pins D f s'):SP X pins D f s':=by
 cases f with
 |next=>obtain⟨σ',H',I,q⟩:=h;exact⟨σ',H',I.unwish,q⟩
 |brk=>obtain⟨σ',H',I,q⟩:=h;exact⟨σ',H',I.unwish,q⟩
 |cont=>obtain⟨σ',H',I,q⟩:=h;exact⟨σ',H',I.unwish,q⟩
 |ret u=>obtain⟨v,σ',H',I,r,q⟩:=h;exact⟨v,σ',H',I.unwish,r,q⟩
theorem PSs.nox {st:List Stmt}{t:TS}(h:PSs X.nox st t):PSs X st t:=fun pins s σ H D I hw =>
 wpAny_mono (h pins s σ H D (I.wish _) hw) (fun _ _ q=>q.unwish) fun _ _ z=>False.elim z
variable {st:Stmt}{rest:List Stmt}{t u:TS}{e:Expr}{te:TE}{pos:Pos}
def y0r:TS:=fun D σ H=>D.nx σ H
def tSeq (t u:TS):TS:=fun D σ H=>t { D with nx:=u D } σ H
theorem z2i:PSs X [] y0r:=fun _ _ σ H _ I h=>wpAny_execs_nil ⟨σ,H,I,h⟩
theorem z0u (h1:PS X st t)(h2:PSs X rest u):PSs X (st::rest) (tSeq t u):=by
 intro pins s σ H D I h;refine wpAny_execs_cons (thn (h1 pins s σ H { D with nx:=u D } I h) fun f s1 q=>?_);cases f with
 |next =>
  obtain⟨σ',H',I',q⟩:=q;exact h2 pins s1 σ' H' D I' q
 |ret v=>exact q
 |brk=>exact q
 |cont=>exact q
theorem z0v (h1:PS X st t):PSs X [st] t:=by
 intro pins s σ H D I h;refine wpAny_execs_cons (thn (h1 pins s σ H D I h) fun f s1 q=>?_);cases f with
 |next=>exact wpAny_execs_nil q
 |ret v=>exact q
 |brk=>exact q
 |cont=>exact q
theorem Inv.quiet {pins:List (Addr×Obj)}{σ:St}{H:Hp}{s:Shared}(I:Inv X pins σ H s):interactive X.env=false:=by simp[interactive,I.ok.kind]
def y0t (te:TE):TS:=fun D σ H=>te σ H fun _ H1=>D.nx σ H1
theorem z4q (he:PE X e te)(hs:swapsWith e none pos.line X.env=pure false:=by rfl):PS X (.Expr e pos) (y0t te):=by
 intro pins s σ H D I h;exact wpAny_Expr_any (thn (he pins s σ H _ I h) fun v s1 ⟨x,H1,I1,r1,q1⟩=>⟨σ,H1,I1,q1⟩) I.quiet hs
def tRet (te:TE):TS:=fun D σ H=>te σ H D.rt
theorem z4u (he:PE X e te):PS X (.Return (some e) pos) (tRet te):=by
 intro pins s σ H D I h;exact wpAny_Return_some (thn (he pins s σ H _ I h) fun v s1 ⟨x,H1,I1,r1,q1⟩=>⟨x,σ,H1,I1,r1,q1⟩)
def tIfS (c:TT)(t u:TS):TS:=fun D σ H=>c σ H fun b H1=>if b=true then t D σ H1 else u D σ H1
theorem z5g {c:Expr}{a b:List Stmt}{tc:TT}(hc:PT X c tc)(ha:PSs X a t)(hb:PSs X b u):PS X (.If c a b pos) (tIfS tc t u):=by
 intro pins s σ H D I h;refine wpAny_If (thn (hc pins s σ H _ I h) fun d s1 ⟨H1,I1,q1⟩=>?_);cases d with
 |true=>exact ha pins s1 σ H1 D I1 q1
 |false=>exact hb pins s1 σ H1 D I1 q1
def z6h:TS:=fun _ _ _=>False
theorem q2a:PS X st z6h:=fun _ _ _ _ _ _ h=>h.elim
abbrev TG:=V->St->Hp->(St->Hp->Prop)->Prop
abbrev TGs:=List V->St->Hp->(St->Hp->Prop)->Prop
def PG (X:Cx)(target:Expr)(t:TG):Prop :=
 ∀(pins:List (Addr×Obj))(s:Shared)(σ:St)(H:Hp)(v:V)(u:Value)(Q:St->Hp->Prop),Inv X pins σ H s->RelV v u->t v σ H Q ->
  wpAny (model X.prog X.w) X.A (assign target X.env u) (fun _ s'=>∃σ' H',Inv X pins σ' H' s'/\Q σ' H') X.xe s
def PGs (X:Cx)(ts:List Expr)(t:TGs):Prop :=
 ∀(pins:List (Addr×Obj))(s:Shared)(σ:St)(H:Hp)(vs:List V)(us:List Value)(Q:St->Hp->Prop),Inv X pins σ H s->Vals vs us->t vs σ H Q ->
  wpAny (model X.prog X.w) X.A (assignInOrder ((assignEach ts X.env).map (·.2)) us) (fun _ s'=>∃σ' H',Inv X pins σ' H' s'/\Q σ' H') X.xe s
abbrev TSet:=V->V->V->Hp->(Hp->Prop)->Prop
def PSet (X:Cx)(t:TSet):Prop :=
 ∀(pins:List (Addr×Obj))(s:Shared)(σ:St)(H:Hp)(o i v:V)(ov iv u:Value)(Q:Hp->Prop),Inv X pins σ H s->RelV o ov->RelV i iv->RelV v u->t o i v H Q ->
  wpAny (model X.prog X.w) X.A (setItem ov iv u) (fun _ s'=>∃H',Inv X pins σ H' s'/\Q H') X.xe s
abbrev TIp:=V->V->Hp->VK->Prop
def PIp (X:Cx)(op:Operator)(t:TIp):Prop :=
 ∀(pins:List (Addr×Obj))(s:Shared)(σ:St)(H:Hp)(x y:V)(v u:Value)(Q:VK),Inv X pins σ H s->RelV x v->RelV y u->t x y H Q ->
  wpAny (model X.prog X.w) X.A (inplaceOp op v u) (EP X pins σ Q) X.xe s
def z7w (i:Nat):TG:=fun v σ H Q=>Q (σ.set i (some v)) H
theorem z6c {i:Nat}{x:Str}(hN:X.N.Nodup)(hi:X.N[i]? = some x)(hx:Loc X.env.scope x)(hf:X.fn x=true\/X.env.scope.names.lookup x=some .local:=by first|exact .inl rfl|exact .inr rfl|assumption):PG X (.Name x pos) (z7w i):=by
 intro pins s σ H v u Q I r h;exact wpAny_assign_Name (z9f I hN hi hx r (fun s' I'=>⟨_,H,I',h⟩) hf)
def gNil:TGs:=fun vs σ H Q=>vs=[]/\Q σ H
def j0k (t:TG)(u:TGs):TGs:=fun vs σ H Q=>∃v r,vs=v::r/\t v σ H fun σ' H'=>u r σ' H' Q
theorem y5q:PGs X [] gNil:=by
 intro pins s σ H vs us Q I r h;obtain⟨e,h⟩:=h;subst e;cases r;exact assignInOrder_nil ⟨σ,H,I,h⟩
theorem z7s {e:Expr}{es:List Expr}{t:TG}{u:TGs}(h1:PG X e t)(h2:PGs X es u)
  (hs:(assignEach (e::es) X.env).map (·.2)=assign e X.env::(assignEach es X.env).map (·.2):=by rfl):PGs X (e::es) (j0k t u):=by
 intro pins s σ H vs us Q I r h;obtain⟨v,vr,e1,h⟩:=h;subst e1;cases r with
 |cons r rr =>
  rw[hs];refine assignInOrder_cons (thn (h1 pins s σ H _ _ _ I r h) fun _ s1 ⟨σ1,H1,I1,q1⟩=>?_);exact h2 pins s1 σ1 H1 _ _ Q I1 rr q1
def gTup (K:W.Frag)(n:Nat)(t:TGs):TG:=fun v σ H Q=>∃a xs,v=.ref a/\SqT K H a xs/\xs.length=n/\t xs σ H Q
theorem x1a {es:List Expr}{k:Nat}{t:TGs}{n:Nat}(hc:X.calm=true)(h:PGs X es t)
  (hn:(assignEach es X.env).length=n:=by rfl)(hst:(assignEach es X.env).findIdx? (·.1)=none:=by rfl):PG X (.Tuple es k pos) (gTup X.K n t):=by
 intro pins s σ H v u Q I r hw;obtain⟨a,xs,e1,hq,hl,hw⟩:=hw;subst e1;cases r;obtain⟨its,rv,ht,hz⟩:=I.tuple hq;refine assign_Tuple_tuple (I.ok.hd hc) ht (by simp[hn,<-hl,rv.length]) hst fun h' hx=>?_;have I1:Inv X pins σ H { s with heap:=h' }:=I.kept (t':=s.toks) fun b o e=>hx b o (ne_of_lt (lt_size e)) e;exact h pins _ σ H xs _ Q I1 (by simpa using rv) hw
def gSub (to ti:TE)(t:TSet):TG:=fun v σ H Q=>to σ H fun o H1=>ti σ H1 fun i H2=>t o i v H2 fun H3=>Q σ H3
theorem j2p {o i:Expr}{to ti:TE}{t:TSet}(ho:PE X o to)(hi:PE X i ti)(hs:PSet X t)
  (ha:∀v,assign (.Subscript o i pos) X.env v=(do
   let ov <-holding [v] (eval o X.env);let iv <-holding [v,ov] (eval i X.env)
   standAt pos
   holding [v,ov,iv] (setItem ov iv v)
   release [v,ov,iv] []):=by intro _;rfl):PG X (.Subscript o i pos) (gSub to ti t):=by
 intro pins s σ H v u Q I r h;rw[ha];refine wpAny_bind (wpAny_holding (thn (ho pins s σ H _ I h) fun ov s1 zq=>?_));obtain⟨x,H1,I1,r1,q1⟩:=zq;refine wpAny_bind (wpAny_holding (thn (hi pins s1 σ H1 _ I1 q1) fun iv s2 zq=>?_));obtain⟨y,H2,I2,r2,q2⟩:=zq;refine wpAny_bind (wpAny_standAt (wpAny_bind (wpAny_holding (thn (hs pins s2 σ H2 x y v ov iv u _ I2 r1 r2 r q2) fun _ s3 zq=>?_))));obtain⟨H3,I3,q3⟩:=zq;exact wpAny_release ⟨σ,H3,I3,q3⟩
def tAsg (te:TE)(g:TG):TS:=fun D σ H=>te σ H fun x H1=>g x σ H1 D.nx
theorem q4a {tg e:Expr}{te:TE}{g:TG}(he:PE X e te)(hg:PG X tg g)(hs:swapsWithSole [tg] e pos.line X.env=pure false:=by rfl)(hw:swappedStores [tg] e X.env=pure none:=by rfl)
  (h1:(assignEach [tg] X.env).map (·.2)=[assign tg X.env]:=by rfl):PS X (.Assign [tg] e pos) (tAsg te g):=by
 intro pins s σ H D I h;refine wpAny_Assign_stores (thn (he pins s σ H _ I h) fun v s1 zq=>?_) hs hw;obtain⟨x,H1,I1,r1,q1⟩:=zq;rw[h1];exact thn (hg pins s1 σ H1 x v _ I1 r1 q1) fun _ s2 q=>q
theorem z2t {i:Nat}{x:Str}{e:Expr}{te:TE}{pos':Pos}(hN:X.N.Nodup)(hi:X.N[i]? = some x)(hx:Loc X.env.scope x)(he:PE X e te)(hs:swapsWith e (some (.Name x pos')) pos.line X.env=pure false:=by rfl)(hf:X.fn x=true\/X.env.scope.names.lookup x=some .local:=by first|exact .inl rfl|exact .inr rfl|assumption) :
  PS X (.Assign [.Name x pos'] e pos) (tAsg te (z7w i)):=by
 intro pins s σ H D I h;refine wpAny_Assign_Name (thn (he pins s σ H _ I h) fun v s1 ⟨y,H1,I1,r1,q1⟩=>?_) hs;exact z9f I1 hN hi hx r1 (fun s2 I2=>⟨_,H1,I2,q1⟩) hf
def tAug (i:Nat)(te:TE)(ti:TIp):TS:=fun D σ H=>∃x,σ[i]? = some (some x)/\te σ H fun y H1=>ti x y H1 fun z H2=>D.nx (σ.set i (some z)) H2
theorem j2l {i:Nat}{x:Str}{e:Expr}{te:TE}{op:Operator}{ti:TIp}{pos':Pos}(hN:X.N.Nodup)(hi:X.N[i]? = some x)(hx:Loc X.env.scope x)(he:PE X e te)(ho:PIp X op ti)(hf:X.fn x=true\/X.env.scope.names.lookup x=some .local:=by first|exact .inl rfl|exact .inr rfl|assumption) :
  PS X (.AugAssign (.Name x pos') op e pos) (tAug i te ti):=by
 intro pins s σ H D I h;obtain⟨v,e1,h⟩:=h;obtain⟨m,hn,hl⟩:=I.loc;have vis:Vis X.env.scope x:=by rcases hx with k|k;exact .inl k;exact .inr (.inl k)
 obtain⟨u,r,l⟩:=hl i x v hi e1 vis;refine wpAny_AugAssign_Name ?_;have go:wpAny (model X.prog X.w) X.A (eval e X.env) (fun w s₂=>wpAny (model X.prog X.w) X.A (inplaceOp op u w) (fun r s₃=>wpAny (model X.prog X.w) X.A (storeName X.env x r) (fun _=>SP X pins D .next) X.xe s₃) X.xe s₂) X.xe s:=by
  refine thn (he pins s σ H _ I h) fun w s1 zq=>?_;obtain⟨y,H1,I1,r1,q1⟩:=zq;refine thn (ho pins s1 σ H1 v y u w _ I1 r r1 q1) fun z s2 zq=>?_;obtain⟨zv,H2,I2,r2,q2⟩:=zq;exact z9f I2 hN hi hx r2 (fun s3 I3=>⟨_,H2,I3,q2⟩) hf
 rcases l with ⟨hk,hm⟩|⟨hk,c,hc,hcell⟩
 ·exact wpAny_loadName_local I.ok.kind hk hn hm go
 ·rcases hk with hk|hk
  ·exact wpAny_loadName_cell I.ok.kind hk hc hcell go
  ·rcases hx with k|k
   ·have:X.env.scope.names.lookup x=some .free:=hk;rw[k]at this;cases this
   ·have:X.env.scope.names.lookup x=some .free:=hk;rw[k]at this;cases this
def ipI (f:Int->Int->Int):TIp:=fun x y H Q=>∃i j,x=.int i/\y=.int j/\Q (.int (f i j)) H
theorem j6q:PIp X .Add (ipI fun i j=>i+j):=by
 intro pins s σ H x y v u Q I r1 r2 h;obtain⟨i,j,e1,e2,q⟩:=h;subst e1;subst e2;obtain⟨t,rfl⟩:=r1;obtain⟨t',rfl⟩:=r2;exact iadd_int ⟨.int _,H,I.tok _,⟨_,rfl⟩,q⟩
def q7g (c:TT)(tb:TS):TS:=fun D σ H=>∃W:Nat->St->Hp->Prop,(∃m,W m σ H)/\∀m σ H,W m σ H ->
 c σ H fun b H1=>if b=true then ∃N:St->Hp->Prop,(∀σ' H',N σ' H'->∃m',m' < m/\W m' σ' H')/\tb { D with nx:=N,ct:=N,bk:=D.nx } σ H1 else D.nx σ H1
theorem q1j {c:Expr}{body:List Stmt}{tc:TT}{tb:TS}(hp:PassesOwn (model X.prog X.w) X.A X.env X.xe)(hc:PT X c tc)(hb:PSs X body tb):PS X (.While c body [] pos) (q7g tc tb):=by
 intro pins s σ H D I h;obtain⟨W,⟨m0,w0⟩,turn⟩:=h;refine wpAny_While (codeAny_whileLoop (fun n s'=>∃σ' H',Inv X pins σ' H' s'/\W n σ' H') ?_ m0 ⟨σ,H,I,w0⟩);rintro n s1 ⟨σ1,H1,I1,w1⟩;refine wpAny_passesOwn hp (thn (hc pins s1 σ1 H1 _ I1 (turn n σ1 H1 w1)) fun b s2 zq=>?_);obtain⟨H2,I2,q2⟩:=zq;cases b with
 |true =>
  obtain⟨N,hN,q2⟩:=q2;rw[if_pos rfl];refine wpAny_passesOwn hp (thn (hb pins s2 σ1 H2 _ I2 q2) fun f s3 q3=>?_);cases f with
  |next =>
   obtain⟨σ3,H3,I3,n3⟩:=q3;obtain⟨m',hm,w3⟩:=hN σ3 H3 n3;exact⟨m',hm,σ3,H3,I3,w3⟩
  |cont =>
   obtain⟨σ3,H3,I3,n3⟩:=q3;obtain⟨m',hm,w3⟩:=hN σ3 H3 n3;exact⟨m',hm,σ3,H3,I3,w3⟩
  |brk=>exact q3
  |ret v=>exact q3
 |false =>
  rw[if_neg Bool.false_ne_true];exact wpAny_execs_nil ⟨σ1,H2,I2,q2⟩
structure It where
 go:Nat->Hp->Prop
 yld:Nat->Hp->V->Hp->Prop
 stop:Nat->Hp->Prop
def FpOk (X:Cx)(pins:List (Addr×Obj))(H:Hp)(b:Addr):Prop :=
 H b=none/\b≠X.env.locals/\b∉X.fs/\(b∈X.ex\/X.s₀.heap.objs.size<=b)/\(∀x c,X.env.cells.lookup x=some c->c≠b)/\∀p∈X.pn++pins,p.1≠b
theorem Inv.fpOk {X:Cx}{pins:List (Addr×Obj)}{σ:St}{H H':Hp}{s:Shared}{b:Addr}(I:Inv X pins σ H s)(hb:s.heap.objs.size<=b)(hn:H' b=none):FpOk X pins H' b:=by
 refine⟨hn,ne_of_gt (lt_of_lt_of_le I.lt hb),I.nofs hb,.inr (le_trans I.sz hb),fun x c e z=>?_,fun p hp z=>?_⟩
 ·obtain⟨v,q⟩:=I.cell x c e;exact absurd (lt_of_lt_of_le q.lt (by rw[z];exact hb)) (lt_irrefl _)
 ·exact absurd (lt_of_lt_of_le (lt_size (I.pin p hp).1) (by rw[z];exact hb)) (lt_irrefl _)
structure Turn (P:Program)(w:World)(K:W.Frag)(tg:Expr)(J:It)(fp:List Addr)(it:Addr)(tn:Nat->Heap->Prop):Prop where
 mem:it∈fp
 obj:∀i h,tn i h->∀b∈fp,∃o,h.get? b=some o/\∀v,o.data≠.cell v
 keep:∀i h h',tn i h->(∀b∈fp,∀o,h.get? b=some o->h'.get? b=some o)->tn i h'
 item:∀(X:Cx),X.prog=P->X.w=w->X.K=K->X.calm=true->∀(i:Nat)(pins:List (Addr×Obj))(s:Shared)(σ:St)(H:Hp)(E:Value->Shared->Prop),Inv X pins σ H s->(∀b∈fp,FpOk X pins H b)->tn i s.heap->J.go i H ->
  wpAny (model P w) X.A (pyNext (.ref it)) (fun r s1=>∃u,r=some u /\
   wpAny (model P w) X.A (letOwnedTupleGo tg (.ref it) u) (fun _ s2=>∃x H',Inv X pins σ H' s2/\RelV x u/\J.yld i H x H'/\tn (i+1) s2.heap/\∀b∈fp,H' b=none) E s1) E s
 done:∀(X:Cx),X.prog=P->X.w=w->X.K=K->X.calm=true->∀(i:Nat)(pins:List (Addr×Obj))(s:Shared)(σ:St)(H:Hp)(E:Value->Shared->Prop),Inv X pins σ H s->(∀b∈fp,FpOk X pins H b)->tn i s.heap->J.stop i H ->
  wpAny (model P w) X.A (pyNext (.ref it)) (fun r s1=>r=none/\Inv X pins σ H s1) E s
 self:∀(A:Around)(i:Nat)(s:Shared)(Q:Value->Shared->Prop)(E:Value->Shared->Prop),tn i s.heap->Q (.ref it) s->wpAny (model P w) A (pyIter (.ref it)) Q E s
abbrev TI:=St->Hp->(It->Hp->Prop)->Prop
def PIE (X:Cx)(pins:List (Addr×Obj))(σ:St)(tg:Expr)(R:It->Hp->Prop)(itv:Value)(s2:Shared):Prop :=
 ∃(it:Addr)(fp:List Addr)(tn:Nat->Heap->Prop)(J:It)(H':Hp),itv=.ref it/\Inv X pins σ H' s2/\Turn X.prog X.w X.K tg J fp it tn/\tn 0 s2.heap/\(∀b∈fp,FpOk X pins H' b)/\R J H'
def PI (X:Cx)(tg iter:Expr)(wi:TI):Prop :=
 ∀(pins:List (Addr×Obj))(s:Shared)(σ:St)(H:Hp)(R:It->Hp->Prop),Inv X pins σ H s->wi σ H R ->
  wpAny (model X.prog X.w) X.A (eval iter X.env) (fun v s1=>wpAny (model X.prog X.w) X.A (pyIter v) (PIE X pins σ tg R) X.xe s1) X.xe s
theorem j0r {M:Model}{A:Around}{E:Value->Shared->Prop}{s:Shared}{tg:Expr}{it:Addr}{u:Value}{o:Obj}{n:String}{vs:Array Value}{Q:Unit->Shared->Prop}(ho:s.heap.get? it=some o)(hc:o.cls=.type n)(hd:o.data=.fields vs)
  (hn:["enumerate","zip","dict_itemiterator","dict_reverseitemiterator","odict_iterator","itertools.zip_longest","itertools.pairwise"].contains n=false)(hQ:Q () s):wpAny M A (letOwnedTupleGo tg (.ref it) u) Q E s:=by
 unfold letOwnedTupleGo;cases tg<;>first
  |exact wpAny_pure hQ
  |(cases u<;>first
    |exact wpAny_pure hQ
    |(refine wpAny_bind (wpAny_load ho ?_)
      rw[hc,hd];show wpAny M A (if (["enumerate","zip","dict_itemiterator","dict_reverseitemiterator","odict_iterator","itertools.zip_longest","itertools.pairwise"].contains n&&vs[0]? == some (rawInt _))=true then _ else _) Q E s;rw[if_neg (by intro h;rw[hn,Bool.false_and]at h;cases h)];exact wpAny_pure hQ))
noncomputable def Itl (K:W.Frag)(a:Addr):It :=
 ⟨fun i H=>∃xs x,SqL K H a xs/\xs[i]? = some x,fun i H x H'=>H' = H/\∀xs,SqL K H a xs->xs[i]? = some x,fun i H=>∃xs,SqL K H a xs/\xs.length<=i⟩
noncomputable def Itr (lo:Int)(n:Nat):It:=⟨fun i _=>i<n,fun i H x H'=>H' = H/\x=.int (lo+i),fun i _=>n<=i⟩
theorem x5s {P:Program}{w:World}{K:W.Frag}{tg:Expr}(a it:Addr):Turn P w K tg (Itl K a) [it] it (fun i h=>h.IsListIter it a i) where
 mem:=by simp
 obj:=fun i h st b hb=>by
  have e:b=it:=by simpa using hb
  subst e;obtain⟨o,e,c,d⟩:=st;exact⟨o,e,fun v z=>by rw[d]at z;cases z⟩
 keep:=fun i h h' st k=>st.at fun o e=>k it (by simp) o e
 item:=by
  intro X hP hw hK hc i pins s σ H E I hf st hg;subst hP hw hK;obtain⟨xs,x,hq,hx⟩:=hg;obtain⟨its,rv,p,hz⟩:=I.list hq;obtain⟨u,hu,ru⟩:=rv.get hx;obtain⟨f0,f1,f2,f3,f4,f5⟩:=hf it (by simp);refine wpAny_pyNext_list_item st p.isList (x:=u) (by simpa using hu) fun h' st' sb=>?_;have I1:Inv X pins σ H { s with heap:=h' }:=I.turned (t':=s.toks) (fun b o hb e=>(sb.2 b hb).trans e) f0 f1 f3 f4 f5;obtain⟨o,e,c,d⟩:=id st';exact⟨u,rfl,j0r (s:={ s with heap:=h' }) e c d (by decide) ⟨x,H,I1,ru,⟨rfl,fun ys hy=>by rw[I.list_inj hy hq];exact hx⟩,st',fun b hb=>(hf b hb).1⟩⟩
 done:=by
  intro X hP hw hK hc i pins s σ H E I hf st hg;subst hP hw hK;obtain⟨xs,hq,hx⟩:=hg;obtain⟨its,rv,p,hz⟩:=I.list hq;obtain⟨f0,f1,f2,f3,f4,f5⟩:=hf it (by simp);have hl:=rv.length;exact wpAny_pyNext_list_end (I.ok.hd hc) st p.isList (by simp;omega) fun h' eb=>⟨rfl,I.turned (t':=s.toks) (fun b o hb e=>eb b o hb e) f0 f1 f3 f4 f5⟩
 self:=fun _ _ _ _ _ st h=>wpAny_pyIter_listiter st h
theorem x3k {P:Program}{w:World}{K:PySem.W.Frag}{tg:Expr}(it:Addr)(lo:Int)(n:Nat):Turn P w K tg (Itr lo n) [it] it (fun i h=>IsRangeIter h it (lo+(i:Nat) * 1) ((n:Int) - (i:Nat)) 1) where
 mem:=by simp
 obj:=fun i h st b hb=>by
  have e:b=it:=by simpa using hb
  subst e;exact⟨_,st,fun v z=>by
   have z':Data.fields _=Data.cell v:=z;cases z'⟩
 keep:=fun i h h' st k=>k it (by simp) _ st
 item:=by
  intro X hP hw hK hc i pins s σ H E I hf st hg;subst hP hw hK;obtain⟨f0,f1,f2,f3,f4,f5⟩:=hf it (by simp);have W:=Walks.range (prog:=X.prog) (w:=X.w) (I.ok.hd hc) it lo 1 n;refine W.item i s _ _ hg st fun v h' tk hv st' kk=>?_;obtain⟨t,rfl⟩:=hv;have I1:Inv X pins σ H { s with heap:=h',toks:=tk }:=I.turned (fun b o hb e=>kk b o (by simpa using hb) e) f0 f1 f3 f4 f5;refine⟨_,rfl,j0r (s:={ s with heap:=h',toks:=tk }) (n:="range_iterator") st' rfl rfl (by decide) ⟨.int (lo+i),H,I1,⟨t,?_⟩,⟨rfl,rfl⟩,st',fun b hb=>(hf b hb).1⟩⟩;rw[Int.mul_one]
 done:=by
  intro X hP hw hK hc i pins s σ H E I hf st hg;subst hP hw hK;obtain⟨f0,f1,f2,f3,f4,f5⟩:=hf it (by simp);exact wpAny_pyNext_range_end (I.ok.hd hc) st (by have:n<=i:=hg;omega) fun h' eb=>⟨rfl,I.turned (t':=s.toks) (fun b o hb e=>eb b o hb e) f0 f1 f3 f4 f5⟩
 self:=fun _ _ _ _ _ st h=>wpAny_pyIter_rangeiter st h
variable {tg:Expr}
def j4k (K:W.Frag)(tl:TE):TI:=fun σ H R=>tl σ H fun x H1=>∃a,x=.ref a/\(∃xs,SqL K H1 a xs)/\R (Itl K a) H1
theorem y3o {l:Expr}{tl:TE}(hl:PE X l tl):PI X tg l (j4k X.K tl):=by
 intro pins s σ H R I h;refine thn (hl pins s σ H _ I h) fun v s1 zq=>?_;obtain⟨x,H1,I1,r1,q1⟩:=zq;obtain⟨a,e,⟨xs,hq⟩,q⟩:=q1;subst e;cases r1;obtain⟨its,rv,p,hz⟩:=I1.list hq;refine wpAny_pyIter_list p.isList ?_;refine⟨s1.heap.objs.size,[s1.heap.objs.size],_,_,H1,rfl,I1.kept (t':=s1.toks) fun b o e=>get?_push_of_some _ e,x5s a _,⟨_,get?_push_size _ rfl,rfl,rfl⟩,fun b hb=>?_,q⟩;have e:b=s1.heap.objs.size:=by simpa using hb
 subst e;exact I1.fpOk (le_refl _) (I1.hok.fresh (le_refl _))
theorem x0u {pins:List (Addr×Obj)}{σ:St}{H:Hp}{s:Shared}{R:It->Hp->Prop}{E:Value->Shared->Prop}{lo hi:Int}{t u v:Tok}{tk:Nat}(I:Inv X pins σ H s)(h1:-(2 ^ 62)<=lo)(h2:lo<2 ^ 62)(h3:-(2 ^ 62)<=hi)(h4:hi<2 ^ 62)
  (q:R (Itr lo (hi - lo).toNat) H):wpAny (model X.prog X.w) X.A (pyIter (.ref s.heap.objs.size)) (PIE X pins σ tg R) E { s with heap:=s.heap.push { cls:=.type "range",data:=.fields #[.int lo t,.int hi u,.int 1 v] },toks:=tk }:=by
 refine wpAny_pyIter_range (IsRange.new ..) (small_one h1 h2 h3 h4) ?_;have I1:Inv X pins σ H { s with heap:=s.heap.push { cls:=.type "range",data:=.fields #[.int lo t,.int hi u,.int 1 v] },toks:=tk }:=I.kept fun b o e=>get?_push_of_some _ e;refine⟨(s.heap.push { cls:=.type "range",data:=.fields #[.int lo t,.int hi u,.int 1 v] }).objs.size,[(s.heap.push { cls:=.type "range",data:=.fields #[.int lo t,.int hi u,.int 1 v] }).objs.size],_,_,H,rfl,
  I1.kept (t':=tk) fun b o e=>get?_push_of_some _ e,x3k _ lo (hi - lo).toNat,?_,fun b hb=>?_,q⟩
 ·have e1:lo+((0:Nat):Int) * 1=lo:=by simp
  have e2:(((hi - lo).toNat:Nat):Int) - ((0:Nat):Int)=Builtin.Range.rangeSize lo hi 1:=by rw[rangeSize_one];split<;>omega
  show IsRangeIter _ _ (lo+((0:Nat):Int) * 1) ((((hi - lo).toNat:Nat):Int) - ((0:Nat):Int)) 1;rw[e1,e2];exact get?_push_size _ rfl
 ·have e:b=(s.heap.push { cls:=.type "range",data:=.fields #[.int lo t,.int hi u,.int 1 v] }).objs.size:=by simpa using hb
  subst e;exact I1.fpOk (le_refl _) (I1.hok.fresh (le_refl _))
def j8y (ta:TA):TI:=fun σ H R=>ta σ H fun vs H1=>∃j:Int,vs=[.int j]/\-(2 ^ 62)<=j/\j<2 ^ 62/\R (Itr 0 j.toNat) H1
def j9z (ta:TA):TI:=fun σ H R=>ta σ H fun vs H1=>∃i j:Int,vs=[.int i,.int j]/\(-(2 ^ 62)<=i/\i<2 ^ 62/\-(2 ^ 62)<=j/\j<2 ^ 62)/\R (Itr i (j - i).toNat) H1
theorem x9a {a:Expr}{ta:TA}{p pos:Pos}(hg:Gl X "range")(hm:X.mg "range" = none)(ha:PA X [a] ta)(hs:starEach [a] X.env=[(false,eval a X.env)]:=by rfl):PI X tg (.Call (.Name "range" p) [a] [] pos) (j8y ta):=by
 intro pins s σ H R I h;refine Call_ (z9k I hg hm boot_range (PyProof.Rows.callWith_type1 (thn (ha pos pins s σ H _ I h) fun us s1 zq=>?_) hs rfl));obtain⟨vs,H1,I1,r1,q1⟩:=zq;obtain⟨j,e,q1,q2,q⟩:=q1;subst e;cases r1 with
 |cons r rr =>
  cases rr;obtain⟨t,rfl⟩:=r;exact call_range_1 (x0u I1 (by omega) (by omega) q1 q2 (by simpa using q))
theorem x6g {a b:Expr}{ta:TA}{p pos:Pos}(hg:Gl X "range")(hm:X.mg "range" = none)(ha:PA X [a,b] ta)(hs:starEach [a,b] X.env=[(false,eval a X.env),(false,eval b X.env)]:=by rfl)(hs2:starEach [b] X.env=[(false,eval b X.env)]:=by rfl) :
  PI X tg (.Call (.Name "range" p) [a,b] [] pos) (j9z ta):=by
 intro pins s σ H R I h;refine Call_ (z9k I hg hm boot_range (PyProof.Rows.callWith_type1 (thn (ha pos pins s σ H _ I h) fun us s1 zq=>?_) (by rw[hs,hs2]) (by rw[hs2];rfl)));obtain⟨vs,H1,I1,r1,q1⟩:=zq;obtain⟨i,j,e,⟨q1,q2,q3,q4⟩,q⟩:=q1;subst e;cases r1 with
 |cons r rr =>
  cases rr with
  |cons r' rr =>
   cases rr;obtain⟨t,rfl⟩:=r;obtain⟨t',rfl⟩:=r';exact call_range_2 (x0u I1 q1 q2 q3 q4 q)
def tFor (wi:TI)(g:TG)(tb:TS):TS:=fun D σ H=>wi σ H fun J H1=>∃W:Nat->Nat->St->Hp->Prop,(∃m,W 0 m σ H1)/\∀i m σ H,W i m σ H ->
 (J.stop i H/\D.nx σ H)\/(J.go i H/\∃N:St->Hp->Prop,(∀σ' H',N σ' H'->∃m',m' < m/\W (i+1) m' σ' H')/\∀x H',J.yld i H x H'->g x σ H' fun σ2 H2=>tb { D with nx:=N,ct:=N,bk:=D.nx } σ2 H2)
noncomputable def y5i (fp:List Addr)(h:Heap):List (Addr×Obj):=fp.filterMap fun b=>(h.get? b).map fun o=>(b,o)
theorem z7p {fp:List Addr}{h:Heap}{b:Addr}{o:Obj}(hb:b∈fp)(e:h.get? b=some o):(b,o)∈y5i fp h:=mem_filterMap.mpr ⟨b,hb,by rw[e];rfl⟩
theorem x6b {fp:List Addr}{h:Heap}{p:Addr×Obj}(hp:p∈y5i fp h):p.1∈fp/\h.get? p.1=some p.2:=by
 obtain⟨b,hb,e⟩:=mem_filterMap.mp hp;cases q:h.get? b with
 |none=>rw[q]at e;cases e
 |some o =>
  rw[q]at e;have e':(b,o)=p:=Option.some.inj e;subst e';exact⟨hb,q⟩
theorem Inv.pinned {pins:List (Addr×Obj)}{σ:St}{H:Hp}{s:Shared}{fp:List Addr}(I:Inv X pins σ H s)(hf:∀b∈fp,FpOk X pins H b)(ho:∀b∈fp,∃o,s.heap.get? b=some o/\∀v,o.data≠.cell v):Inv X (pins++y5i fp s.heap) σ H s :=
 I.pins_of fun p hp=>(mem_append.mp hp).elim (fun z=>I.pin p (mem_append_right _ z)) fun z=>by
  obtain⟨hb,e⟩:=x6b z;obtain⟨f0,f1,f2,_⟩:=hf p.1 hb;obtain⟨o,e',d⟩:=ho p.1 hb;rw[e]at e';cases e';exact⟨e,f0,f1,f2,d⟩
theorem Inv.unpinned {pins pl:List (Addr×Obj)}{σ:St}{H:Hp}{s:Shared}(I:Inv X (pins++pl) σ H s):Inv X pins σ H s:=I.pins_of fun p hp=>I.pin p (mem_append_right _ (mem_append_left _ hp))
theorem y5e {iter:Expr}{body:List Stmt}{wi:TI}{g:TG}{tb:TS}{pos:Pos}(hp:PassesOwn (model X.prog X.w) X.A X.env X.xe)(hc:X.calm=true)(hi:PI X tg iter wi)(hg:PG X tg g)(hb:PSs X body tb)
  (hs:∀x,foldedSetIterable iter X.env x=pure x:=by intro _;rfl):PS X (.For tg iter body [] pos) (tFor wi g tb):=by
 intro pins s σ H D I h;refine wpAny_For (thn (hi pins s σ H _ I h) fun v s1 h1=>thn h1 fun itv s2 h2=>?_) hs;obtain⟨it,fp,tn,J,H2,e,I2,T,st2,f2,W,⟨m0,w0⟩,turn⟩:=h2;subst e;have stat:∀{H':Hp},(∀b∈fp,H' b=none)->∀b∈fp,FpOk X pins H' b:=fun hn b hb=>⟨hn b hb,(f2 b hb).2⟩;refine codeAny_forLoop_any (fun n s'=>∃i σ' H',Inv X pins σ' H' s'/\tn i s'.heap/\(∀b∈fp,H' b=none)/\W i n σ' H') ?_ m0 ⟨0,σ,H2,I2,st2,fun b hb=>(f2 b hb).1,w0⟩;rintro n s3 ⟨i,σ3,H3,I3,st3,fr3,w3⟩;rcases turn i n σ3 H3 w3 with ⟨stop,qn⟩|⟨go,N,hN,step⟩
 ·refine wpAny_passesOwn hp (thn (T.done X rfl rfl rfl hc i pins s3 σ3 H3 X.xe I3 (stat fr3) st3 stop) fun r s4 zq=>?_);obtain⟨hr,I4⟩:=zq;subst hr;exact wpAny_execs_nil ⟨σ3,H3,I4,qn⟩
 ·refine wpAny_passesOwn hp (thn (T.item X rfl rfl rfl hc i pins s3 σ3 H3 X.xe I3 (stat fr3) st3 go) fun r s4 zq=>?_);obtain⟨u,hr,h4⟩:=zq;subst hr;refine wpAny_passesOwn hp (thn h4 fun _ s5 zq=>?_);obtain⟨x,H5,I5,r5,y5,st5,fr5⟩:=zq;have I5':=I5.pinned (stat fr5) (T.obj _ _ st5);refine wpAny_passesOwn hp (thn (hg _ s5 σ3 H5 x u _ I5' r5 (step x H5 y5)) fun _ s6 zq=>?_);obtain⟨σ6,H6,I6,q6⟩:=zq;refine wpAny_passesOwn hp (thn (hb _ s6 σ6 H6 _ I6 q6) fun f s7 q7=>?_);have again:∀{σ7:St}{H7:Hp},Inv X (pins++y5i fp s5.heap) σ7 H7 s7->N σ7 H7->∃m,m<n/\∃i σ' H',Inv X pins σ' H' s7/\tn i s7.heap/\(∀b∈fp,H' b=none)/\W i m σ' H':=fun {σ7 H7} I7 n7=>by
   obtain⟨m',hm,w7⟩:=hN σ7 H7 n7;refine⟨m',hm,i+1,σ7,H7,I7.unpinned,T.keep _ _ _ st5 fun b hb o e=>(I7.pin (b,o) (mem_append_right _ (mem_append_right _ (z7p hb e)))).1,fun b hb=>?_,w7⟩;obtain⟨o,e,d⟩:=T.obj _ _ st5 b hb;exact(I7.pin (b,o) (mem_append_right _ (mem_append_right _ (z7p hb e)))).2.1
  cases f with
  |next=>obtain⟨σ7,H7,I7,n7⟩:=q7;exact again I7 n7
  |cont=>obtain⟨σ7,H7,I7,n7⟩:=q7;exact again I7 n7
  |brk=>obtain⟨σ7,H7,I7,q7⟩:=q7;exact⟨σ7,H7,I7.unpinned,q7⟩
  |ret v=>obtain⟨x7,σ7,H7,I7,r7,q7⟩:=q7;exact⟨x7,σ7,H7,I7.unpinned,r7,q7⟩
theorem q0y {K:PySem.W.Frag}{a:Addr}{xs:List V}{g:TG}{tb:TS}{D:Ends}{σ:St}{H:Hp}(Pv:Nat->St->Hp->Prop)(h0:Pv 0 σ H)(hl:∀i σ H,i<=xs.length->Pv i σ H->SqL K H a xs)
  (hs:∀i x σ H,xs[i]? = some x->Pv i σ H->g x σ H fun σ2 H2=>tb { D with nx:=Pv (i+1),ct:=Pv (i+1),bk:=D.nx } σ2 H2)(hd:∀σ H,Pv xs.length σ H->D.nx σ H) :
  ∃W:Nat->Nat->St->Hp->Prop,(∃m,W 0 m σ H)/\∀i m σ H,W i m σ H ->
   ((Itl K a).stop i H/\D.nx σ H)\/((Itl K a).go i H/\∃N:St->Hp->Prop,(∀σ' H',N σ' H'->∃m',m' < m/\W (i+1) m' σ' H')/\∀x H',(Itl K a).yld i H x H'->g x σ H' fun σ2 H2=>tb { D with nx:=N,ct:=N,bk:=D.nx } σ2 H2):=by
 refine⟨fun i m σ H=>m=xs.length - i/\i<=xs.length/\Pv i σ H,⟨xs.length,by simp,zero_le _,h0⟩,?_⟩;rintro i m σ H ⟨rfl,hi,p⟩;have q:=hl i σ H hi p;by_cases hlt:i<xs.length
 ·refine .inr ⟨⟨xs,xs[i],q,by simp[hlt]⟩,Pv (i+1),fun σ' H' p'=>⟨xs.length - (i+1),by omega,rfl,hlt,p'⟩,fun x H' y=>?_⟩;obtain⟨e,y⟩:=y;subst e;exact hs i x σ _ (y xs q) p
 ·have e:i=xs.length:=by omega
  subst e;exact .inl ⟨⟨xs,q,le_refl _⟩,hd σ H p⟩
abbrev R2:=V->V->Hp->VK->Prop
def OpR (X:Cx)(f:Value->Value->Sem Value)(r:R2):Prop :=
 ∀(pins:List (Addr×Obj))(s:Shared)(σ:St)(H:Hp)(x y:V)(v u:Value)(Q:VK),Inv X pins σ H s->RelV x v->RelV y u->r x y H Q ->
  wpAny (model X.prog X.w) X.A (f v u) (EP X pins σ Q) X.xe s
def UnR (X:Cx)(f:Value->Sem Value)(r:V->Hp->VK->Prop):Prop :=
 ∀(pins:List (Addr×Obj))(s:Shared)(σ:St)(H:Hp)(x:V)(v:Value)(Q:VK),Inv X pins σ H s->RelV x v->r x H Q ->
  wpAny (model X.prog X.w) X.A (f v) (EP X pins σ Q) X.xe s
def z8i (X:Cx)(f:Value)(r:List V->Hp->VK->Prop):Prop :=
 ∀(pins:List (Addr×Obj))(s:Shared)(σ:St)(H:Hp)(xs:List V)(us:List Value)(Q:VK),Inv X pins σ H s->Vals xs us->r xs H Q ->
  wpAny (model X.prog X.w) X.A (call f us) (EP X pins σ Q) X.xe s
def TruR (X:Cx)(r:V->Hp->(Bool->Hp->Prop)->Prop):Prop :=
 ∀(pins:List (Addr×Obj))(s:Shared)(σ:St)(H:Hp)(x:V)(v:Value)(Q:Bool->Hp->Prop),Inv X pins σ H s->RelV x v->r x H Q ->
  wpAny (model X.prog X.w) X.A (truthy v) (TP X pins σ Q) X.xe s
def tOp (r:R2)(ta tb:TE):TE:=fun σ H Q=>ta σ H fun x H1=>tb σ H1 fun y H2=>r x y H2 Q
def tUn (r:V->Hp->VK->Prop)(ta:TE):TE:=fun σ H Q=>ta σ H fun x H1=>r x H1 Q
def rI (C:Int->Int->Prop)(g:Int->Int->V):R2:=fun x y H Q=>∃i j,x=.int i/\y=.int j/\C i j/\Q (g i j) H
def rI0 (g:Int->Int->V):R2:=fun x y H Q=>∃i j,x=.int i/\y=.int j/\Q (g i j) H
def rU (g:Int->V):V->Hp->VK->Prop:=fun x H Q=>∃i,x=.int i/\Q (g i) H
end
section
variable {X:Cx}{a b c:Expr}{ta tb tc:TE}{pos:Pos}
theorem binT (ha:PE X a ta)(hb:PE X b tb){pins:List (Addr×Obj)}{s:Shared}{σ:St}{H:Hp}{R:V->V->Hp->Prop}(I:Inv X pins σ H s)
  (h:ta σ H fun x H1=>tb σ H1 fun y H2=>R x y H2){Q:Value->Shared->Prop}{f:Value->Value->Sem Value}
  (hf:∀v u s2 x y H2,Inv X pins σ H2 s2->RelV x v->RelV y u->R x y H2->wpAny (model X.prog X.w) X.A (f v u) Q X.xe s2) :
  wpAny (model X.prog X.w) X.A (eval a X.env) (fun v s₁=>wpAny (model X.prog X.w) X.A (eval b X.env) (fun u s₂=>wpAny (model X.prog X.w) X.A (f v u) Q X.xe s₂) X.xe s₁) X.xe s:=by
 refine thn (ha pins s σ H _ I h) fun v s1 ⟨x,H1,I1,r1,q1⟩=>?_;refine thn (hb pins s1 σ H1 _ I1 q1) fun u s2 ⟨y,H2,I2,r2,q2⟩=>?_;exact hf v u s2 x y H2 I2 r1 r2 q2
theorem x0l {op:Operator}{r:R2}(ho:OpR X (binaryOp op) r)(ha:PE X a ta)(hb:PE X b tb):PE X (.BinOp a op b pos) (tOp r ta tb):=by
 intro pins s σ H Q I h;exact wpAny_BinOp (binT ha hb I h fun v u s2 x y H2 I2 rx ry q=>ho pins s2 σ H2 x y v u Q I2 rx ry q)
theorem x3v {op:UnaryOp}{r:V->Hp->VK->Prop}(ho:UnR X (unaryOp op) r)(ha:PE X a ta):PE X (.UnaryOp op a pos) (tUn r ta):=by
 intro pins s σ H Q I h;exact UnaryOp_ (thn (ha pins s σ H _ I h) fun v s1 ⟨x,H1,I1,r1,q1⟩=>ho pins s1 σ H1 x v Q I1 r1 q1)
theorem opI {f:Value->Value->Sem Value}{C:Int->Int->Prop}{g:Int->Int->Int}
  (rule:∀(i j:Int)(t u:Tok)(s:Shared)(Q:Value->Shared->Prop)(E:Value->Shared->Prop),C i j->Q (.int (g i j) s.toks) { s with toks:=s.toks+1 }->wpAny (model X.prog X.w) X.A (f (.int i t) (.int j u)) Q E s) :
  OpR X f (rI C fun i j=>.int (g i j)):=by
 intro pins s σ H x y v u Q I rx ry h;obtain⟨i,j,rfl,rfl,hc,q⟩:=h;obtain⟨t,rfl⟩:=rx;obtain⟨t',rfl⟩:=ry;exact rule i j t t' s _ _ hc ⟨.int (g i j),H,I.tok _,⟨_,rfl⟩,q⟩
theorem opI0 {f:Value->Value->Sem Value}{g:Int->Int->Int}
  (rule:∀(i j:Int)(t u:Tok)(s:Shared)(Q:Value->Shared->Prop)(E:Value->Shared->Prop),Q (.int (g i j) s.toks) { s with toks:=s.toks+1 }->wpAny (model X.prog X.w) X.A (f (.int i t) (.int j u)) Q E s) :
  OpR X f (rI0 fun i j=>.int (g i j)):=by
 intro pins s σ H x y v u Q I rx ry h;obtain⟨i,j,rfl,rfl,q⟩:=h;obtain⟨t,rfl⟩:=rx;obtain⟨t',rfl⟩:=ry;exact rule i j t t' s _ _ ⟨.int (g i j),H,I.tok _,⟨_,rfl⟩,q⟩
theorem opB0 {f:Value->Value->Sem Value}{g:Int->Int->Bool}
  (rule:∀(i j:Int)(t u:Tok)(s:Shared)(Q:Value->Shared->Prop)(E:Value->Shared->Prop),Q (.bool (g i j)) s->wpAny (model X.prog X.w) X.A (f (.int i t) (.int j u)) Q E s) :
  OpR X f (rI0 fun i j=>.bl (g i j)):=by
 intro pins s σ H x y v u Q I rx ry h;obtain⟨i,j,rfl,rfl,q⟩:=h;obtain⟨t,rfl⟩:=rx;obtain⟨t',rfl⟩:=ry;exact rule i j t t' s _ _ ⟨.bl (g i j),H,I,rfl,q⟩
def CMul (i j:Int):Prop:=(-(2 ^ 64)<i/\i<2 ^ 64)\/(-(2 ^ 64)<j/\j<2 ^ 64)
theorem CMul.ok {i j:Int}(h:CMul i j):IntMulOk i j:=by
 rcases h with ⟨h1,h2⟩|⟨h1,h2⟩
 ·exact .of_left (intBits_le_64 h1 h2)
 ·exact .of_right (intBits_le_64 h1 h2)
theorem z1b:OpR X (binaryOp .Add) (rI0 fun i j=>.int (i+j)):=opI0 fun _ _ _ _ _ _ _ q=>add_int q
theorem q6s:OpR X (binaryOp .Sub) (rI0 fun i j=>.int (i - j)):=opI0 fun _ _ _ _ _ _ _ q=>sub_int q
theorem z6m:OpR X (binaryOp .Mult) (rI CMul fun i j=>.int (i * j)):=opI fun _ _ _ _ _ _ _ hc q=>mul_int q hc.ok
theorem z1o:OpR X (binaryOp .Mod) (rI (fun _ j=>0<j) fun i j=>.int (i % j)):=opI fun i j _ _ _ _ _ hc q=>by
 have h1:(0:Int)<j:=hc;exact mod_int' (by omega) (by rw[Int.fmod_eq_emod_of_nonneg i (by omega)];exact q)
theorem unI {f:Value->Sem Value}{g:Int->Int}
  (rule:∀(i:Int)(t:Tok)(s:Shared)(Q:Value->Shared->Prop)(E:Value->Shared->Prop),Q (.int (g i) s.toks) { s with toks:=s.toks+1 }->wpAny (model X.prog X.w) X.A (f (.int i t)) Q E s) :
  UnR X f (rU fun i=>.int (g i)):=by
 intro pins s σ H x v Q I rx h;obtain⟨i,rfl,q⟩:=h;obtain⟨t,rfl⟩:=rx;exact rule i t s _ _ ⟨.int (g i),H,I.tok _,⟨_,rfl⟩,q⟩
theorem y5h:UnR X (unaryOp .USub) (rU fun i=>.int (-i)):=unI fun _ _ _ _ _ q=>neg_int q
noncomputable def scal:V->V->Bool
 |.non,.non=>true | .non,.int _=>true | .int _,.non=>true | .non,.bl _=>true | .bl _,.non=>true | .non,.str _=>true | .str _,.non=>true
 |.int _,.int _=>true | .bl _,.bl _=>true | .str _,.str _=>true | .byt _,.byt _=>true
 |.int _,.str _=>true | .str _,.int _=>true | .bl _,.str _=>true | .str _,.bl _=>true
 |_,_=>false
def rEq:R2:=fun x y H Q=>scal x y=true/\Q (.bl (decide (x=y))) H
def rNe:R2:=fun x y H Q=>scal x y=true/\Q (.bl (!decide (x=y))) H
theorem x4u {i j:Int}:decide (V.int i=V.int j)=(i == j):=by
 rw[Bool.eq_iff_iff];simp
theorem q3t {i j:Bool}:decide (V.bl i=V.bl j)=(i == j):=by
 rw[Bool.eq_iff_iff];simp
theorem q0 {i j:Str}:decide (V.str i=V.str j)=(i == j):=by
 rw[Bool.eq_iff_iff];simp
theorem x4y {i j:Array UInt8}:decide (V.byt i=V.byt j)=(i.toList == j.toList):=by
 rw[Bool.eq_iff_iff];cases i;cases j;simp
theorem z1r {pins:List (Addr×Obj)}{σ:St}{H:Hp}{s:Shared}{Q:VK}{k k':Bool}(I:Inv X pins σ H s)(q:Q (.bl k) H)(e:k=k'):EP X pins σ Q (.bool k') s:=by
 subst e;exact⟨.bl k,H,I,rfl,q⟩
theorem z1v:OpR X (compareOp .Eq) rEq:=by
 intro pins s σ H x y v u Q I rx ry h;obtain⟨hs,q⟩:=h;cases x with
 |non =>
  cases rx;cases y with
  |non=>cases ry;exact PySem.EqNone.eq_none_none (z1r I q (by simp))
  |bl j=>cases ry;exact PySem.EqNone.eq_none_bool (z1r I q (by simp))
  |int j=>obtain⟨t',rfl⟩:=ry;exact PySem.EqNone.eq_none_int (z1r I q (by simp))
  |str j=>obtain⟨t',rfl⟩:=ry;exact PySem.EqNone.eq_none_str (z1r I q (by simp))
  |_=>exact absurd (show false=true from hs) Bool.false_ne_true
 |bl i =>
  cases rx;cases y with
  |non=>cases ry;exact PySem.EqNone.eq_bool_none (z1r I q (by simp))
  |bl j=>cases ry;exact eq_bool (z1r I q q3t)
  |str j=>obtain⟨t',rfl⟩:=ry;exact PySem.EqMixed.eq_bool_str (z1r I q (by simp))
  |_=>exact absurd (show false=true from hs) Bool.false_ne_true
 |int i =>
  obtain⟨t,rfl⟩:=rx;cases y with
  |non=>cases ry;exact PySem.EqNone.eq_int_none (z1r I q (by simp))
  |int j=>obtain⟨t',rfl⟩:=ry;exact eq_int (z1r I q x4u)
  |str j=>obtain⟨t',rfl⟩:=ry;exact PySem.EqMixed.eq_int_str (z1r I q (by simp))
  |_=>exact absurd (show false=true from hs) Bool.false_ne_true
 |str i =>
  obtain⟨t,rfl⟩:=rx;cases y with
  |non=>cases ry;exact PySem.EqNone.eq_str_none (z1r I q (by simp))
  |bl j=>cases ry;exact PySem.EqMixed.eq_str_bool (z1r I q (by simp))
  |int j=>obtain⟨t',rfl⟩:=ry;exact PySem.EqMixed.eq_str_int (z1r I q (by simp))
  |str j=>obtain⟨t',rfl⟩:=ry;exact eq_str (z1r I q q0)
  |_=>exact absurd (show false=true from hs) Bool.false_ne_true
 |byt i =>
  obtain⟨t,rfl⟩:=rx;cases y with
  |byt j=>obtain⟨t',rfl⟩:=ry;exact W.eq_bytes (z1r I q x4y)
  |_=>exact absurd (show false=true from hs) Bool.false_ne_true
 |_=>cases y<;>exact absurd (show false=true from hs) Bool.false_ne_true
theorem z7h:OpR X (compareOp .NotEq) rNe:=by
 intro pins s σ H x y v u Q I rx ry h;obtain⟨hs,q⟩:=h;cases x with
 |non =>
  cases rx;cases y with
  |non=>cases ry;exact PySem.EqNone.ne_none_none (z1r I q (by simp))
  |bl j=>cases ry;exact PySem.EqNone.ne_none_bool (z1r I q (by simp))
  |int j=>obtain⟨t',rfl⟩:=ry;exact PySem.EqNone.ne_none_int (z1r I q (by simp))
  |str j=>obtain⟨t',rfl⟩:=ry;exact PySem.EqNone.ne_none_str (z1r I q (by simp))
  |_=>exact absurd (show false=true from hs) Bool.false_ne_true
 |bl i =>
  cases rx;cases y with
  |non=>cases ry;exact PySem.EqNone.ne_bool_none (z1r I q (by simp))
  |bl j=>cases ry;exact ne_bool (z1r I q (congrArg not q3t))
  |str j=>obtain⟨t',rfl⟩:=ry;exact PySem.EqMixed.ne_bool_str (z1r I q (by simp))
  |_=>exact absurd (show false=true from hs) Bool.false_ne_true
 |int i =>
  obtain⟨t,rfl⟩:=rx;cases y with
  |non=>cases ry;exact PySem.EqNone.ne_int_none (z1r I q (by simp))
  |int j=>obtain⟨t',rfl⟩:=ry;exact ne_int (z1r I q (congrArg not x4u))
  |str j=>obtain⟨t',rfl⟩:=ry;exact PySem.EqMixed.ne_int_str (z1r I q (by simp))
  |_=>exact absurd (show false=true from hs) Bool.false_ne_true
 |str i =>
  obtain⟨t,rfl⟩:=rx;cases y with
  |non=>cases ry;exact PySem.EqNone.ne_str_none (z1r I q (by simp))
  |bl j=>cases ry;exact PySem.EqMixed.ne_str_bool (z1r I q (by simp))
  |int j=>obtain⟨t',rfl⟩:=ry;exact PySem.EqMixed.ne_str_int (z1r I q (by simp))
  |str j=>obtain⟨t',rfl⟩:=ry;exact ne_str (z1r I q (congrArg not q0))
  |_=>exact absurd (show false=true from hs) Bool.false_ne_true
 |byt i =>
  obtain⟨t,rfl⟩:=rx;cases y with
  |byt j=>obtain⟨t',rfl⟩:=ry;exact W.ne_bytes (z1r I q (congrArg not x4y))
  |_=>exact absurd (show false=true from hs) Bool.false_ne_true
 |_=>cases y<;>exact absurd (show false=true from hs) Bool.false_ne_true
theorem y5x:OpR X (compareOp .Lt) (rI0 fun i j=>.bl (decide (i<j))):=opB0 fun _ _ _ _ _ _ _ q=>lt_int q
theorem q0u:OpR X (compareOp .Gt) (rI0 fun i j=>.bl (decide (j<i))):=opB0 fun _ _ _ _ _ _ _ q=>gt_int q
theorem k0q:OpR X (compareOp .GtE) (rI0 fun i j=>.bl (decide (j<=i))):=opB0 fun _ _ _ _ _ _ _ q=>ge_int q
theorem z9y:OpR X (compareOp .Is) (fun x y H Q=>y=.non/\Q (.bl (decide (x=.non))) H):=by
 intro pins s σ H x y v u Q I rx ry h;obtain⟨rfl,q⟩:=h;cases ry;refine is_none_gen (z1r I q ?_);cases x<;>first
  |(cases rx;rfl)
  |(obtain⟨t,rfl⟩:=rx;rfl)
theorem y9c:OpR X (compareOp .IsNot) (fun x y H Q=>y=.non/\Q (.bl (!decide (x=.non))) H):=by
 intro pins s σ H x y v u Q I rx ry h;obtain⟨rfl,q⟩:=h;cases ry;refine isnot_none_gen (z1r I q ?_);cases x<;>first
  |(cases rx;rfl)
  |(obtain⟨t,rfl⟩:=rx;rfl)
theorem z0k (b:Expr){op:CmpOp}(h:op≠.In:=by decide)(h2:op≠.NotIn:=by decide):behindInMarks op b=false:=by
 have e1:(op == CmpOp.In)=false:=by cases op<;>first|rfl|exact absurd rfl h
 have e2:(op == CmpOp.NotIn)=false:=by cases op<;>first|rfl|exact absurd rfl h2
 cases b<;>simp[behindInMarks,e1,e2]
theorem x6r {op:CmpOp}{r:R2}(ho:OpR X (compareOp op) r)(ha:PE X a ta)(hb:PE X b tb)(hm:behindInMarks op b=false):PE X (.Compare a [op] [b] pos) (tOp r ta tb):=by
 intro pins s σ H Q I h;exact wpAny_Compare1 (binT ha hb I h fun v u s2 x y H2 I2 rx ry q=>ho pins s2 σ H2 x y v u Q I2 rx ry q) hm
def y0s (t:TE):TT:=fun σ H Q=>t σ H fun x H'=>∃k,x=.bl k/\Q k H'
theorem z2b {op:CmpOp}{r:R2}(ho:OpR X (compareOp op) r)(ha:PE X a ta)(hb:PE X b tb)(hm:behindInMarks op b=false):PT X (.Compare a [op] [b] pos) (y0s (tOp r ta tb)):=by
 intro pins s σ H Q I h;refine wpAny_isTrue_Compare1 (thn (ha pins s σ H _ I h) fun v s1 ⟨x,H1,I1,r1,q1⟩=>thn (hb pins s1 σ H1 _ I1 q1) fun u s2 ⟨y,H2,I2,r2,q2⟩ =>
  thn (ho pins s2 σ H2 x y v u _ I2 r1 r2 q2) fun c s3 ⟨z,H3,I3,r3,k,e,q3⟩=>?_) hm
 subst e;cases r3;exact wpAny_truthy_bool ⟨H3,I3,q3⟩
def j4n (r r':R2)(ta tb tc:TE):TE:=fun σ H Q=>ta σ H fun x H1=>tb σ H1 fun y H2=>r x y H2 fun z H3=>∃k,z=.bl k /\
 (if k=true then tc σ H3 fun w' H4=>r' y w' H4 Q else Q (.bl false) H3)
theorem q0v {op op':CmpOp}{r r':R2}(ho:OpR X (compareOp op) r)(ho':OpR X (compareOp op') r')(ha:PE X a ta)(hb:PE X b tb)(hc:PE X c tc)
  (hm:lastMarks [op,op'] [b,c]=false:=by with_unfolding_all rfl):PE X (.Compare a [op,op'] [b,c] pos) (j4n r r' ta tb tc):=by
 intro pins s σ H Q I h;refine Compare_chain (thn (ha pins s σ H _ I h) fun v s1 ⟨x,H1,I1,r1,q1⟩=>chain_link (thn (hb pins s1 σ H1 _ I1 q1) fun u s2 ⟨y,H2,I2,r2,q2⟩ =>
  thn (ho pins s2 σ H2 x y v u _ I2 r1 r2 q2) fun d s3 ⟨z,H3,I3,r3,k,e,q3⟩=>?_)) hm
 subst e;cases r3;refine wpAny_truthy_bool ?_;cases k with
 |false=>exact ite_ff ⟨.bl false,H3,I3,rfl,q3⟩
 |true=>exact ite_tt (chain_last (thn (hc pins s3 σ H3 _ I3 q3) fun w' s4 ⟨z',H4,I4,r4,q4⟩=>ho' pins s4 σ H4 y z' u w' Q I4 r2 r4 q4))
def TruV (K:W.Frag)(x:V)(H:Hp)(k:Bool):Prop :=
 match x with
 |.non=>k=false
 |.bl b=>k=b
 |.int i=>k=(i != 0)
 |.str y=>y.length<=sizeLine/\k=((y.length:Int) != 0)
 |.byt y=>y.size<=sizeLine/\k=((y.size:Int) != 0)
 |.ref p=>(∃xs,SqL K H p xs/\k = !xs.isEmpty)\/(∃xs,SqT K H p xs/\k = !xs.isEmpty) \/ ∃kvs,H p=some (.dK kvs)/\k = !kvs.isEmpty
 |_=>False
theorem x3x {κ:Type}{kvs:List (κ×V)}{vs:List (κ×Value)}(r:KV kvs vs):(!vs.isEmpty) = !kvs.isEmpty:=by
 cases r<;>rfl
theorem y5c {xs:List V}{its:List Value}(r:Vals xs its):(!its.toArray.isEmpty) = !xs.isEmpty:=by
 cases r<;>simp
theorem y3n:(sizeLine:Nat)<2 ^ 63:=by rw[sizeLine_eq];decide
theorem q4q:TruR X (fun x H Q=>∃k,TruV X.K x H k/\Q k H):=by
 intro pins s σ H x v Q I rx h;obtain⟨k,e,q⟩:=h;have hl:=y3n;have hs:sizeLine=16777216:=sizeLine_eq;cases x with
 |non =>
  cases rx;have e':k=false:=e;subst e';exact truthy_none ⟨H,I,q⟩
 |bl b =>
  cases rx;have e':k=b:=e;subst e';exact wpAny_truthy_bool ⟨H,I,q⟩
 |int i =>
  obtain⟨t,rfl⟩:=rx;have e':k=(i != 0):=e;subst e';exact PySem.P.truthy_int ⟨H,I,q⟩
 |str y =>
  obtain⟨t,rfl⟩:=rx;obtain⟨hy,e'⟩:y.length<=sizeLine/\k=((y.length:Int) != 0):=e;subst e';exact PySem.P.truthy_str (by omega) ⟨H,I.tok _,q⟩
 |byt y =>
  obtain⟨t,rfl⟩:=rx;obtain⟨hy,e'⟩:y.size<=sizeLine/\k=((y.size:Int) != 0):=e;subst e';exact W.truthy_bytes (by omega) ⟨H,I.tok _,q⟩
 |ref p =>
  cases rx;have e':(∃xs,SqL X.K H p xs/\k = !xs.isEmpty)\/(∃xs,SqT X.K H p xs/\k = !xs.isEmpty) \/ ∃kvs,H p=some (.dK kvs)/\k = !kvs.isEmpty:=e;rcases e' with ⟨xs,hx,e'⟩|⟨xs,hx,e'⟩|⟨kvs,hx,e'⟩
  ·subst e';obtain⟨its,r,pl,hz⟩:=I.list hx;have hlen:=r.length;exact wpAny_truthy_list pl.isList (by simp only[size_toArray];omega) ⟨H,I.tok _,by rw[y5c r];exact q⟩
  ·subst e';obtain⟨its,r,pl,hz⟩:=I.tuple hx;have hlen:=r.length;exact truthy_tuple pl (by simp only[size_toArray];omega) ⟨H,I.tok _,by rw[y5c r];exact q⟩
  ·subst e';obtain⟨hz,hS,vs,r,m⟩:kvs.length<=sizeLine/\(p == sysModules)=false/\∃vs,KV kvs vs/\s.heap.DictOf (z2c X.prog X.w) p vs:=I.hok p _ hx;have hlen:kvs.length=vs.length:=Paired.length r;exact wpAny_truthy_dict hS m (by omega) ⟨H,I.tok _,by rw[x3x r];exact q⟩
 |_=>exact(show False from e).elim
theorem y1e (ha:PE X a ta)(he:∀whole,isTrue a X.env whole=(do let v <-whole;standAt a.pos;holding [v] (truthy v))) :
  PT X a (fun σ H Q=>ta σ H fun x H'=>∃k,TruV X.K x H' k/\Q k H'):=by
 intro pins s σ H Q I h;exact isTrue_plain (thn (ha pins s σ H _ I h) fun v s1 ⟨x,H1,I1,r1,q1⟩=>q4q pins s1 σ H1 x v Q I1 r1 q1) (he _)
theorem z1h:OpR X (binaryOp .Add) (fun x y H Q=>∃i j,x=.str i/\y=.str j/\i.length+j.length<=sizeLine/\Q (.str (i++j)) H):=by
 intro pins s σ H x y v u Q I rx ry h;obtain⟨i,j,rfl,rfl,hz,q⟩:=h;obtain⟨t,rfl⟩:=rx;obtain⟨t',rfl⟩:=ry;exact add_str (fun t' tk=>⟨.str (i++j),H,I.tok _,⟨_,rfl⟩,q⟩) hz
theorem z8w {x:V}{us:List Value}(r:Vals [x] us):∃u,us=[u]/\RelV x u:=by
 cases r with
 |cons r1 r2=>cases r2;exact⟨_,rfl,r1⟩
theorem q8x {x y:V}{us:List Value}(r:Vals [x,y] us):∃u w',us=[u,w']/\RelV x u/\RelV y w':=by
 cases r with
 |cons r1 r2 =>
  cases r2 with
  |cons r3 r4=>cases r4;exact⟨_,_,rfl,r1,r3⟩
theorem y2c:z8i X (.type "int") (fun xs H Q=>(∃i,xs=[.int i]/\Q (.int i) H) \/ ∃k,xs=[.bl k]/\Q (.int (if k then 1 else 0)) H):=by
 intro pins s σ H xs us Q I r h;rcases h with ⟨i,rfl,q⟩|⟨k,rfl,q⟩
 ·obtain⟨u,rfl,t,rfl⟩:=z8w r;exact call_int_int ⟨.int i,H,I,⟨_,rfl⟩,q⟩
 ·obtain⟨u,rfl,r1⟩:=z8w r;cases r1;exact call_int_bool ⟨.int (if k then 1 else 0),H,I.tok _,⟨_,rfl⟩,q⟩
structure ObjM (h:Heap)(x dx C:Addr)(mA:Str->Option Value):Prop where
 obj:h.get? x=some (instObj C dx)
 ns:h.Ns1 dx mA
 ne:dx≠x
theorem x6s {h:Heap}{dx:Addr}{mA:Str->Option Value}(n:h.Ns1 dx mA):∃od,h.get? dx=some od/\∀name,lookIn name od=some (mA name):=by
 obtain⟨o,es,ep,ho,hd,hk,_,hm⟩:=n;refine⟨o,ho,fun name=>?_⟩;have e:=hm name;unfold nsFind findBy at e;rw[<-Array.find?_toList]at e;unfold lookIn;rw[hd];dsimp only;split
 ·rename_i y q;rw[q]at e;exact congrArg some e
 ·rename_i q;rw[q]at e;have a:es.toList.any (·.refKey)=false:=by
   rw[List.any_eq_false];intro y hy;obtain⟨z,t,hkey⟩:=hk y (Array.mem_toList_iff.mp hy);simp[DictEntry.refKey,hkey]
  have a':¬es.toList.any (·.refKey)=true:=by rw[a];exact Bool.false_ne_true
  rw[if_neg a'];exact congrArg some e
theorem ObjM.look {h:Heap}{x dx C:Addr}{mA:Str->Option Value}(I:ObjM h x dx C mA):∃od,W.InstAt h x (instObj C dx) C (some od)/\∀name,lookIn name od=some (mA name) :=
 let ⟨od,ho,hl⟩:=x6s I.ns
 ⟨od,⟨I.obj,rfl,rfl,ho⟩,hl⟩
end
section
variable {P:Program}{w:World}{H H':Hp}{h h':Heap}{a C dx:Addr}{fs fs':List (Str×V)}
theorem j0x (hok:HOk P w H h)(e:H a=some (.ins C dx fs)):∃mA,ObjM h a dx C mA/\(∀f,RelO (fs.lookup f) (mA f))/\PySem.Within mA (fs.map (·.1))/\fs.length<=1000/\H dx=some (.own a):=by
 obtain⟨d,z,ne,ob,mA,n,r,q⟩:=(show ObjOk P w H h a (.ins C dx fs) from hok a _ e);exact⟨mA,⟨ob,n,ne⟩,r,q,z,d⟩
structure Cls (K:W.Frag)(C:Addr):Prop where
 pg:plainGet K C Str.empty=true
 hd:W.hasDictIn K C=true
 po:W.plainOver K C=true
 sa:findIn K (.ref C) "__setattr__" = some (some (.builtin "object.__setattr__"))
theorem Cls.get {K:W.Frag}{C:Addr}(c:Cls K C)(f:Str):plainGet K C f=true:=c.pg
structure Con (K:W.Frag)(C:Addr)(f:Str)(v:V)(u:Value):Prop where
 at_:findIn K (.ref C) f=some (some u)
 rel:RelV v u
 get:specialIn K u "__get__" = some none
 cp:W.copiedNames.contains f=false
structure Meth (K:W.Frag)(C:Addr)(m:Str)(f:Addr):Prop where
 at_:findIn K (.ref C) m=some (some (.ref f))
 fn:isFn K (.ref f)=true
 kp:keepIn K (.ref f)=true
variable {X:Cx}{pins:List (Addr×Obj)}{σ:St}{s:Shared}{f:Str}{v:V}{A:Around}{E:Value->Shared->Prop}
theorem x6y {prog:Program}{w:World}{env:Env}{e:Expr}{f:Str}{pos:Pos}{s:Shared}{Q:Value->Shared->Prop}(hb:attributeBase e f env (eval e env)=eval e env)
  (h:wpAny (model prog w) A (eval e env) (fun o s₁=>wpAny (model prog w) A (getAttr o f true) Q E s₁) E s):wpAny (model prog w) A (eval (.Attribute e f pos) env) Q E s :=
 Attribute_any_ h (by rw[arm_eval_Attribute,hb])
variable {Q:Value->Shared->Prop}{c:Value}{b:Bool}
inductive TyOf (K:W.Frag)(H:Hp):V->Value->Prop where
 |non:TyOf K H .non (.type "NoneType")
 |bl (x:Bool):TyOf K H (.bl x) (.type "bool")
 |int (i:Int):TyOf K H (.int i) (.type "int")
 |str (x:Str):TyOf K H (.str x) (.type "str")
 |flt (x:UInt64):TyOf K H (.flt x) (.type "float")
 |lst {a:Addr}{xs:List V}(e:H a=some (.lst xs)):TyOf K H (.ref a) (.type "list")
 |frz {a:Addr}{o:Obj}{xs:List V}(e:H a=some (.frz o (.lst xs))):TyOf K H (.ref a) (.type "list")
 |tup {a:Addr}{xs:List V}(e:H a=some (.tup xs)):TyOf K H (.ref a) (.type "tuple")
 |dK {a:Addr}{kvs:List (Key×V)}(e:H a=some (.dK kvs)):TyOf K H (.ref a) (.type "dict")
 |dT {a:Addr}{kvs:List (List Key×V)}(e:H a=some (.dT kvs)):TyOf K H (.ref a) (.type "dict")
 |ins {a C dx:Addr}{fs:List (Str×V)}(e:H a=some (.ins C dx fs)) (cl:Cls K C) (ha:findIn K (.ref C) "__class__" = some (some (.builtin "object.__class__")))
   (hn:specialIn K (.builtin "object.__class__") "__get__" = some (some (.builtin "getset_descriptor.__get__"))) (htk:W.takesIn K (.builtin "object.__class__")=some true)
   (hm:mroIn K C (.type "object")=some true):TyOf K H (.ref a) (.ref C)
theorem x5g {x:V}{u t:Value}(I:Inv X pins σ H s)(rx:RelV x u)(ty:TyOf X.K H x t)(e:kitOne X.K t c=some b)(h:∀tk,Q (.bool b) { s with toks:=tk }) :
  wpAny (model X.prog X.w) A (call (.builtin "isinstance") [u,c]) Q E s:=by
 cases ty with
 |non=>cases(show u=Value.none from rx);exact kia_one kitx_none I.kIn True.intro e (fun z=>nomatch z) h
 |bl y=>cases(show u=Value.bool y from rx);exact kia_one W.kitx_bool I.kIn True.intro e (fun z=>nomatch z) h
 |int i=>obtain⟨t,q⟩:=(show ∃t,u=Value.int i t from rx);cases q;exact kia_one W.kitx_int I.kIn True.intro e (fun z=>nomatch z) h
 |str y=>obtain⟨t,q⟩:=(show ∃t,u=Value.str y t from rx);cases q;exact kia_one W.kitx_str I.kIn True.intro e (fun z=>nomatch z) h
 |flt y=>obtain⟨t,q⟩:=(show ∃t,u=Value.float y t from rx);cases q;exact kia_one W.kitx_float I.kIn True.intro e (fun z=>nomatch z) h
 | @lst a xs ea =>
  cases(show u=Value.ref a from rx);obtain⟨_,_,n,_,h1⟩:=(show ObjOk X.prog X.w H s.heap a (.lst xs) from I.hok a _ ea);exact kia_one kitx_list I.kIn ⟨_,h1,rfl⟩ e (fun z=>nomatch z) h
 | @frz a ob xs ea =>
  cases(show u=Value.ref a from rx);obtain⟨_,_,_,n,_,h1⟩:=(show ObjOk X.prog X.w H s.heap a (.frz ob (.lst xs)) from I.hok a _ ea);exact kia_one kitx_list I.kIn ⟨_,h1,rfl⟩ e (fun z=>nomatch z) h
 | @tup a xs ea =>
  cases(show u=Value.ref a from rx);obtain⟨_,_,_,p⟩:=(show ObjOk X.prog X.w H s.heap a (.tup xs) from I.hok a _ ea);obtain⟨o,h1,h2,_⟩:=p;exact kia_one W.kitx_tuple I.kIn ⟨o,h1,h2⟩ e (fun z=>nomatch z) h
 | @dK a kvs ea =>
  cases(show u=Value.ref a from rx);obtain⟨_,_,vs,_,p⟩:=(show ObjOk X.prog X.w H s.heap a (.dK kvs) from I.hok a _ ea);obtain⟨o,es,ep,h1,h2,_⟩:=p;exact kia_one kitx_dict I.kIn ⟨o,h1,h2.1⟩ e (fun z=>nomatch z) h
 | @dT a kvs ea =>
  cases(show u=Value.ref a from rx);obtain⟨_,_,xs,_,o,es,ep,h1,h2,_⟩:=(show ObjOk X.prog X.w H s.heap a (.dT kvs) from I.hok a _ ea);exact kia_one kitx_dict I.kIn ⟨o,h1,h2.1⟩ e (fun z=>nomatch z) h
 | @ins a C dx fs ea cl ha hn htk hm =>
  cases(show u=Value.ref a from rx);obtain⟨mA,O,_⟩:=j0x I.hok ea;obtain⟨od,J,_⟩:=O.look;exact kia_one (W.kitx_own (cl.get _) cl.hd ha hn htk hm) I.kIn J e (fun z=>nomatch z) h
structure Room (k:Nat)(A:Around):Prop where
 hd:A.handled=none
 dp:A.depth+2 * k+5<recursionLimit
 un:A.units+16 * k+200<cLine
theorem Room.mono {j k:Nat}{A:Around}(r:Room k A)(h:j<=k):Room j A:=⟨r.hd,by have:=r.dp;omega,by have:=r.un;omega⟩
theorem Room.deeper {k:Nat}{A:Around}(r:Room (k+1) A)(env:Env):Room k (A.deeper env) :=
 ⟨r.hd,by have:=r.dp;show A.depth+1+2 * k+5<_;omega,by have:=r.un;show A.units+3+16 * k+200<_;omega⟩
theorem x3q {A:Around}{C:Addr}{us:List Value}{kw:List (Str×Value)}:(A.under (.builtin "type.__call__" ⟨.ref C::us,kw⟩)).depth=A.depth+1:=by
 first|rfl|simp[Around.under,Code.weight,Code.isCreation,Code.isGuard,Code.isCaller,Code.frames,Code.isFrame,guardIds]
theorem x3r {A:Around}{C:Addr}{us:List Value}{kw:List (Str×Value)}:(A.under (.builtin "type.__call__" ⟨.ref C::us,kw⟩)).units=A.units+1:=by
 first|rfl|simp[Around.under,Code.cUnits,Code.frames,Code.isFrame]
theorem Room.make {k:Nat}{A:Around}(r:Room (k+1) A)(C:Addr)(us:List Value)(kw:List (Str×Value)):Room k (A.under (.builtin "type.__call__" ⟨.ref C::us,kw⟩)) :=
 ⟨r.hd,by have:=r.dp;rw[x3q];omega,by have:=r.un;rw[x3r];omega⟩
theorem Room.depth {k:Nat}{A:Around}(r:Room k A):A.depth<recursionLimit:=by have:=r.dp;omega
def tNil:TA:=fun _ H Q=>Q [] H
def z8y (ta:TE)(tr:TA):TA:=fun σ H Q=>ta σ H fun x H1=>tr σ H1 fun xs H2=>Q (x::xs) H2
variable {e:Expr}{es:List Expr}{te:TE}{t:TA}{pos:Pos}
theorem z0p:PA X [] tNil:=fun _ _ _ _ H Q I h=>Calls.spliced_nil ⟨[],H,I,.nil,h⟩
theorem z0i (ha:PE X e te)(hr:PA X es t)(hs:starEach (e::es) X.env=(false,eval e X.env)::starEach es X.env:=by rfl):PA X (e::es) (z8y te t):=by
 intro pos pins s σ H Q I h;rw[hs];show wpAny _ _ (spliced ((false,eval e X.env)::backTo pos (starEach es X.env))) _ _ s;refine Calls.spliced_cons (thn (ha pins s σ H _ I h) fun u s1 ⟨x,H1,I1,r1,q1⟩=>?_);exact thn (hr pos pins s1 σ H1 _ I1 q1) fun us s2 ⟨xs,H2,I2,r2,q2⟩=>⟨x::xs,H2,I2,.cons r1 r2,q2⟩
def tTup (t:TA):TE:=fun σ H Q=>t σ H fun xs H1=>xs.length<=sizeLine/\∀p,H1 p=none->Q (.ref p) (upd H1 p (.tup xs))
def tLst (t:TA):TE:=fun σ H Q=>t σ H fun xs H1=>xs.length<=sizeLine/\∀p,H1 p=none->Q (.ref p) (upd H1 p (.lst xs))
theorem y2i {x1}(h:PA X es t):PE X (.Tuple es x1 pos) (tTup t):=by
 intro pins s σ H Q I hq;refine wpAny_Tuple_spliced (thn (h pos pins s σ H _ I hq) fun us s1 ⟨xs,H1,I1,r,z,q⟩=>⟨by rw[<-r.length];exact z,?_⟩);have hf:H1 s1.heap.objs.size=none:=I1.hok.fresh (le_refl _);refine⟨.ref s1.heap.objs.size,upd H1 s1.heap.objs.size (.tup xs),I1.laid (t':=s1.toks) (fun b u e=>get?_push_of_some _ e) (le_refl _) ?_,rfl,q _ hf⟩;exact⟨z,us,r,⟨_,get?_push_size _ rfl,rfl,_,rfl⟩⟩
theorem z4v (h:PA X es t):PE X (.List es pos) (tLst t):=by
 intro pins s σ H Q I hq;refine wpAny_List_spliced (thn (h pos pins s σ H _ I hq) fun us s1 ⟨xs,H1,I1,r,z,q⟩=>⟨by rw[<-r.length];exact z,?_⟩);have hf:H1 s1.heap.objs.size=none:=I1.hok.fresh (le_refl _);refine⟨.ref s1.heap.objs.size,upd H1 s1.heap.objs.size (.lst xs),I1.laid (t':=s1.toks) (fun b u e=>get?_push_of_some _ e) (le_refl _) ?_,rfl,q _ hf⟩;exact⟨z,us,0,r,get?_push_size _ rfl⟩
abbrev Sp:=List V->Hp->VK->XK->Prop
abbrev CXT:=List Env->Hp->Shared->XK->Value->Shared->Prop
structure Env0 (P:Program)(w:World)(K:W.Frag)(mg:Str->Option Value)(base:Heap)(A:Around)(outer:List Env)(s:Shared)(H:Hp):Prop where
 frames:A.frames=some outer
 mod:Mod K mg base
 bs:∀b o,base.get? b=some o->s.heap.get? b=some o/\H b=none
 bsz:base.objs.size<=s.heap.objs.size
 funs:s.heap.FunFrames base outer
 frf:∀b∈frs outer,H b=none
 lam:j0y H
 hok:HOk P w H s.heap
 bare:AllBare s.gens
def CE (outer:List Env)(P:Program)(w:World)(H:Hp)(s:Shared)(Q:VK)(u:Value)(s':Shared):Prop :=
 ∃v H',s'.os=s.os/\AllBare s'.gens/\Un (frs outer) [] H H' s.heap s'.heap/\HOk P w H' s'.heap/\RelV v u/\Q v H'
def CR (CX:CXT)(outer:List Env)(P:Program)(w:World)(H:Hp)(s:Shared)(Q:VK)(E:XK)(r:Result)(s':Shared):Prop :=
 match r with
 |.ok (.ret u)=>CE outer P w H s Q u s'
 |.ok _=>False
 |.error e=>CX outer H s E e s'
structure FnOk (P:Program)(w:World)(K:W.Frag)(mg:Str->Option Value)(base:Heap)(CX:CXT)(k:Nat)(f:Addr)(fd:FuncData)(ps:List Str)(sp:Sp):Prop where
 len:∀vs H Q E,sp vs H Q E->vs.length=ps.length
 run:∀(A:Around)(outer:List Env)(s:Shared)(H:Hp)(args:Args)(us:List Value)(vs:List V)(Q:VK)(E:XK),Room k A->Env0 P w K mg base A outer s H->BindsTo s fd args (ps.zip us)->Vals vs us->sp vs H Q E ->
  codeAny (model P w) A (.call (.ref f) args) (CR CX outer P w H s Q E) s
theorem Env0.make {P:Program}{w:World}{K:W.Frag}{mg:Str->Option Value}{base:Heap}{A:Around}{outer:List Env}{s:Shared}{H:Hp}(e:Env0 P w K mg base A outer s H)(C:Addr)(us:List Value)(kw:List (Str×Value)) :
  Env0 P w K mg base (A.under (.builtin "type.__call__" ⟨.ref C::us,kw⟩)) outer s H:=⟨by first|exact e.frames|(simpa[Around.under,Code.envs,Code.isFrame,pushEnvs] using e.frames),e.mod,e.bs,e.bsz,e.funs,e.frf,e.lam,e.hok,e.bare⟩
variable {s':Shared}
theorem Inv.env0 (I:Inv X pins σ H s):Env0 X.prog X.w X.K X.mg X.base X.A X.stack s H :=
 ⟨I.ok.frames,I.ok.mod,I.bs,le_trans I.ok.bsz I.sz,I.stack,I.stkFree,fun p e=>I.base.tbls p (I.ok.lam p e),I.hok,I.bare⟩
theorem Inv.after {Q:VK}{u:Value}(I:Inv X pins σ H s)(h:CE X.stack X.prog X.w H s Q u s'):EP X pins σ Q u s':=by
 obtain⟨v,H',os,bare,un,hok,r,q⟩:=h;obtain⟨hh,g,d,t,os'⟩:=s';obtain rfl:os' = s.os:=os;exact⟨v,H',I.call (h':=hh) (g':=g) (d':=d) (t':=t) (ch:=[]) un hok bare (fun b z=>absurd z (by simp)),r,q⟩
def z9x (sp:Sp)(dvs:List V)(E:XK)(t:TA):TE:=fun σ H Q=>t σ H fun vs H1=>sp (vs++dvs) H1 Q E
def Binds (K:W.Frag)(fd:FuncData)(ps:List Str)(ds:List Value):Prop :=
 ∀(s:Shared)(us:List Value),K.In s.heap->(us++ds).length=ps.length->BindsTo s fd ⟨us,[]⟩ (ps.zip (us++ds))
theorem Binds.all {K:W.Frag}{fd:FuncData}{ps:List Str}(h:∀us:List Value,us.length=ps.length->bindArgs fd ⟨us,[]⟩=pure (ps.zip us)):Binds K fd ps []:=fun s us _ hl=>by
 rw[append_nil]at hl ⊢;exact .of_eq (h us hl)
noncomputable def y0j (CX:CXT)(X:Cx)(E:XK):Prop:=∀(pins:List (Addr×Obj))(σ:St)(H:Hp)(s:Shared)(e:Value)(s':Shared),Inv X pins σ H s->CX X.stack H s E e s'->X.xe e s'
end
section
variable {X:Cx}{CX:CXT}{k:Nat}{f C:Addr}{fd:FuncData}{ps:List Str}{sp:Sp}{dvs:List V}{ds:List Value}{E:XK}{x m:Str}{p pos apos:Pos}{e o:Expr}{es:List Expr}{ta:TE}{t:TA}
theorem q4k {pins:List (Addr×Obj)}{σ:St}{H:Hp}{s:Shared}{Q:VK}{us:List Value}{vs:List V}(F:FnOk X.prog X.w X.K X.mg X.base CX k f fd ps sp)(hr:Room k X.A)(hb:Binds X.K fd ps ds)(hd:Vals dvs ds)(hx:y0j CX X E)
  (I:Inv X pins σ H s)(r:Vals vs us)(h:sp (vs++dvs) H Q E):wpAny (model X.prog X.w) X.A (call (.ref f) us) (EP X pins σ Q) X.xe s:=by
 have r2:Vals (vs++dvs) (us++ds):=r.append hd;have hl:(us++ds).length=ps.length:=by rw[<-r2.length];exact F.len _ _ _ _ h
 refine wpAny_call (codeAny_mono (F.run X.A X.stack s H ⟨us,[]⟩ (us++ds) (vs++dvs) Q E hr I.env0 (hb s us I.kIn hl) r2 h) fun r s' hq=>?_);cases r with
 |error e=>exact hx pins σ H s e s' I hq
 |ok fl =>
  cases fl with
  |ret u=>exact I.after hq
  |next=>exact False.elim hq
  |brk=>exact False.elim hq
  |cont=>exact False.elim hq
theorem z7f (F:FnOk X.prog X.w X.K X.mg X.base CX k f fd ps sp)(hr:Room k X.A)(hg:Gl X x)(hm:X.mg x=some (.ref f))(hk:keepIn X.K (.ref f)=true)(hb:Binds X.K fd ps ds)(hd:Vals dvs ds)(hx:y0j CX X E)
  (ha:PA X (e::es) t)(hdb:(x == ("__debug__":Str))=false:=by decide)(he:starEach (e::es) X.env=(false,eval e X.env)::starEach es X.env:=by rfl)(hpl:(backTo pos (starEach es X.env)).any (·.1)=false:=by rfl) :
  PE X (.Call (.Name x p) (e::es) [] pos) (z9x sp dvs E t):=by
 intro pins s σ H Q I h;refine wpAny_Call_Name_kw (z8l I hg hm ?_ hdb);refine callWith_K (h₀:=X.base) I.ok.mod.kin hk (thn (ha pos pins s σ H _ I h) fun us s1 ⟨vs,H1,I1,r,q⟩=>⟨I1.kIn,?_⟩) he hpl;exact q4k F hr hb hd hx I1 r q
structure Mk (K:W.Frag)(C f:Addr):Prop where
 makes:W.makesIn K C=true
 init:findIn K (.ref C) "__init__" = some (some (.ref f))
 fn:isFn K (.ref f)=true
 kp:keepIn K (.ref C)=true
variable {ks:List Str}{kpos:Pos}{kws:List Keyword}{te:TE}{tk:TA}{nm:Option Str}
structure KBinds (K:W.Frag)(fd:FuncData)(ps ks:List Str)(g:List Value->List Value->List Value)(gV:List V->List V->List V):Prop where
 to:∀(s:Shared)(us ws:List Value),K.In s.heap->(g us ws).length=ps.length->BindsTo s fd ⟨us,ks.zip ws⟩ (ps.zip (g us ws))
 rel:∀{vs:List V}{us:List Value}{zs:List V}{ws:List Value},Vals vs us->Vals zs ws->Vals (gV vs zs) (g us ws)
structure FnScope (N P:List Str)(sc:Scope):Prop where
 kind:sc.kind=.function
 co:sc.isCoroutine=false
 gen:sc.isGenerator=false
 nd:N.Nodup
 pre:N.take P.length=P
 par:∀x∈P,sc.names.lookup x=some .local\/sc.names.lookup x=some .cell
 nofree:∀y∈sc.names,y.2≠.free
theorem y7f {kindOf:Str->Option NameKind}{x:Str}:∀{binds:List (Str×Value)}{m:Str->Option Value},(∀v,(x,v)∉binds)->bindL kindOf binds m x=m x
 | [],_,_=>rfl
 |(n,v)::r,m,h=>by
  unfold bindL;rw[y7f fun w hw=>h w (mem_cons_of_mem _ hw)];split
  ·have:x≠n:=by rintro rfl;exact h v mem_cons_self
   simp[this]
  ·rfl
theorem y8j {kindOf:Str->Option NameKind}{x:Str}:∀{binds:List (Str×Value)}{m:Str->Option Value},(∀v,(x,v)∉binds)->bindC kindOf binds m x=m x
 | [],_,_=>rfl
 |(n,v)::r,m,h=>by
  unfold bindC;rw[y8j fun w hw=>h w (mem_cons_of_mem _ hw)];split
  ·rfl
  ·have:x≠n:=by rintro rfl;exact h v mem_cons_self
   simp[this]
theorem y7p {kindOf:Str->Option NameKind}{x:Str}{v:Value}:∀{P:List Str}{vs:List Value}{i:Nat}{m:Str->Option Value},P.Nodup->P[i]? = some x->vs[i]? = some v->kindOf x=some .local ->
  bindL kindOf (P.zip vs) m x=some v
 | [],_,_,_,_,h,_,_=>by simp at h
 |_::_,[],_,_,_,_,h,_=>by simp at h
 |p::P,w::vs,0,m,nd,h1,h2,hk=>by
  simp at h1 h2;subst h1;subst h2;show bindL kindOf ((p,w)::P.zip vs) m p=_;unfold bindL;rw[y7f fun v hv=>(nodup_cons.mp nd).1 (of_mem_zip hv).1,if_pos hk];simp
 |p::P,w::vs,i+1,m,nd,h1,h2,hk=>by
  show bindL kindOf ((p,w)::P.zip vs) m x=_;unfold bindL;exact y7p (i:=i) (nodup_cons.mp nd).2 (by simpa using h1) (by simpa using h2) hk
theorem y7n {kindOf:Str->Option NameKind}{x:Str}{v:Value}:∀{P:List Str}{vs:List Value}{i:Nat}{m:Str->Option Value},P.Nodup->P[i]? = some x->vs[i]? = some v->kindOf x≠some .local ->
  bindC kindOf (P.zip vs) m x=some v
 | [],_,_,_,_,h,_,_=>by simp at h
 |_::_,[],_,_,_,_,h,_=>by simp at h
 |p::P,w::vs,0,m,nd,h1,h2,hk=>by
  simp at h1 h2;subst h1;subst h2;show bindC kindOf ((p,w)::P.zip vs) m p=_;unfold bindC;rw[y8j fun v hv=>(nodup_cons.mp nd).1 (of_mem_zip hv).1,if_neg hk];simp
 |p::P,w::vs,i+1,m,nd,h1,h2,hk=>by
  show bindC kindOf ((p,w)::P.zip vs) m x=_;unfold bindC;exact y7n (i:=i) (nodup_cons.mp nd).2 (by simpa using h1) (by simpa using h2) hk
noncomputable def start (N:List Str)(vs:List V):St:=vs.map some++replicate (N.length - vs.length) none
noncomputable def cxOf (CX:CXT)(P:Program)(w:World)(K:W.Frag)(mg:Str->Option Value)(base:Heap)(N:List Str)(qual:Str)(scope:Scope)(f:Addr)(cd:Value)(A:Around)(outer:List Env)(s:Shared)(H:Hp)(E:XK):Cx where
 prog:=P
 w:=w
 K:=K
 mg:=mg
 base:=base
 A:=A.deeper (envOfC qual scope s.heap.objs.size f cd)
 N:=N
 s₀:=s
 H₀:=H
 env:=envOfC qual scope s.heap.objs.size f cd
 outer:=outer
 stack:=envOfC qual scope s.heap.objs.size f cd::outer
 ex:=[]
 calm:=true
 fn:=fun _=>true
 pn:=[]
 xe:=fun e s'=>wpAny (model P w) (A.deeper (envOfC qual scope s.heap.objs.size f cd)) (leaving (envOfC qual scope s.heap.objs.size f cd) e) (fun _ s''=>CX outer H s E e s'') (fun e' s''=>CX outer H s E e' s'') s'
theorem x3c {sc:Scope}{n:Nat}{x:Str}(h:sc.names.lookup x=some .cell):∃c,(cellsFrom n sc.names []).lookup x=some c:=by
 have q:=cellsFrom_some sc.names n [] (.inl h);exact isSome_iff_exists.mp q
theorem x5v {CX:CXT}{P:Program}{w:World}{K:W.Frag}{mg:Str->Option Value}{base:Heap}{N ps:List Str}{qual:Str}{scope:Scope}{f:Addr}{cd:Value}{A:Around}{outer:List Env}{s s1:Shared}{H:Hp}{E:XK}{us:List Value}{vs:List V}
  (S:FnScope N ps scope)(hd:A.handled=none)(e0:Env0 P w K mg base A outer s H)(hl:vs.length=ps.length)(r:Vals vs us)
  (x:InCallC s s.heap.objs.size (bindL (envOfC qual scope s.heap.objs.size f cd).kindOf (ps.zip us) fun _=>none) (cellsFrom (s.heap.objs.size+1) scope.names []) (bindC (envOfC qual scope s.heap.objs.size f cd).kindOf (ps.zip us) fun _=>none) s1) :
  Inv (cxOf CX P w K mg base N qual scope f cd A outer s H E) [] (start N vs) H s1:=by
 have hpl:ps.length<=N.length:=by have:=congrArg List.length S.pre;rw[length_take]at this;omega
 obtain⟨h1,tk,rfl,hk⟩:=x.done;have noA:∀b:Addr,b∉(cxOf CX P w K mg base N qual scope f cd A outer s H E).ex:=fun b z=>absurd (show b∈([]:List Addr) from z) (by simp);refine⟨⟨e0.mod,S.kind,rfl,rfl,le_refl _,fun y z c h1 h2=>?_,fun y hy=>?_,fun y c _ h=>?_,fun _=>hd,Around.frames_deeper e0.frames,.inr ⟨rfl,rfl⟩,fun b z=>absurd z (noA b),e0.bs,e0.bsz,fun b _ _=>noA b,fun b z=>absurd z (noA b),e0.funs,e0.frf,e0.lam⟩,
  rfl,e0.bare,Un.kept hk,⟨_,x.toInCall.ns,fun i y v h1 h2 h3=>?_⟩,fun y c h=>⟨_,x.cell y c h⟩,e0.hok.fresh (le_refl _),fun y c h=>?_,fun p hp=>absurd (show p∈([]:List (Addr×Obj)) from hp) (by simp),e0.hok.kept hk,?_⟩
 ·exact name_of_addr x.apart (PySem.mem_of_lookup h1) (PySem.mem_of_lookup h2)
 ·have hy:scope.names.lookup y=some .cell\/scope.names.lookup y=some .free:=hy;rcases hy with hy|hy
  ·exact x3c hy
  ·exact absurd rfl (S.nofree _ (PySem.mem_of_lookup hy))
 ·exact le_of_lt (x.above y c (PySem.mem_of_lookup h))
 ·have hi:i<vs.length:=by
   unfold start at h2;by_cases hi:i<vs.length
   ·exact hi
   ·rw[getElem?_append_right (by simpa using hi)]at h2;rw[getElem?_replicate]at h2;split at h2<;>cases h2
  have ha:vs[i]? = some v:=by
   unfold start at h2;rw[getElem?_append_left (by simpa using hi),getElem?_map]at h2;cases e:vs[i]? with
   |none=>rw[e]at h2;cases h2
   |some a=>rw[e]at h2;cases h2;rfl
  obtain⟨u,hu,rv⟩:=r.get ha;have hp:ps[i]? = some y:=by
   rw[<-S.pre,List.getElem?_take_of_lt (by omega)];exact h1
  have ndP:ps.Nodup:=by rw[<-S.pre];exact S.nd.sublist (List.take_sublist _ _)
  refine⟨u,rv,?_⟩;rcases S.par y (mem_of_getElem? hp) with k|k
  ·exact .inl ⟨k,y7p ndP hp hu k⟩
  ·obtain⟨c,e⟩:=x3c (n:=s.heap.objs.size+1) k;refine .inr ⟨.inl k,c,e,?_⟩;have q:=x.cell y c e;rw[y7n ndP hp hu (by show scope.names.lookup y≠_;rw[k];decide)]at q;exact q
 ·exact e0.hok.fresh (le_of_lt (x.above y c (PySem.mem_of_lookup h)))
 ·unfold start;show _=N.length;rw[length_append,length_map,List.length_replicate];omega
theorem q8u {CX:CXT}{P:Program}{w:World}{K:W.Frag}{mg:Str->Option Value}{base:Heap}{k:Nat}{f:Addr}{name qual:Str}{params:Arguments}{body:List Stmt}{scope:Scope}{dV kV doc pm cdv ct oc:Value}{an od:Option Addr}
  {osl:Array (Option Value)}{N ps:List Str}{sp:Sp}(lk:K.lookup f=some ⟨oc,od,.func (fnOf name qual params body scope dV kV doc pm an cdv ct),osl⟩)(hcd:codeIn K cdv qual=true)(S:FnScope N ps scope)
  (len:∀vs H Q E,sp vs H Q E->vs.length=ps.length)
  (hbody:∀(A:Around)(outer:List Env)(s:Shared)(H:Hp)(vs:List V)(Q:VK)(E:XK),Room k (A.deeper (envOfC qual scope s.heap.objs.size f cdv))->sp vs H Q E ->
   ∃t,PSs (cxOf CX P w K mg base N qual scope f cdv A outer s H E) body t/\t { nx:=fun _ H'=>Q .non H',rt:=Q } (start N vs) H) :
  FnOk P w K mg base CX (k+1) f (fnOf name qual params body scope dV kV doc pm an cdv ct) ps sp:=by
 refine⟨len,fun A outer s H args us vs Q E hr e0 hb r hsp=>?_⟩;have hl:=len _ _ _ _ hsp;have KX:K.In s.heap:=e0.mod.kin.keeps fun b o e=>(e0.bs b o e).1;have lim:s.heap.NoLimit:=e0.mod.nolimit.keeps fun b o e=>(e0.bs b o e).1;have hkind:∀y∈ps.zip us,scope.names.lookup y.1=some .local\/(scope.names.lookup y.1=some .cell/\((cellsFrom (s.heap.objs.size+1) scope.names []).lookup y.1).isSome=true):=fun⟨n,v⟩ hy=>by
  rcases S.par n (of_mem_zip hy).1 with q|q
  ·exact .inl q
  ·exact .inr ⟨q,cellsFrom_some _ _ _ (.inl q)⟩
 refine codeAny_call_function hr.depth (KX _ _ lk) rfl S.co S.gen rfl (W.codeRec_of KX hcd) (hb _ _ _ _ ?_);refine wpAny_newFunctionEnv_cells S.kind hkind fun env he s1 x=>?_;subst he;refine⟨lim.keeps x.toInCall.keep,codeAny_func ?_⟩;obtain⟨t,ht,hq⟩:=hbody A outer s H vs Q E (hr.deeper _) hsp;have I:Inv (cxOf CX P w K mg base N qual scope f cdv A outer s H E) [] (start N vs) H s1:=x5v S hr.hd e0 hl r x;refine wpAny_mono (ht [] s1 (start N vs) H _ I hq) (fun fl s' hs=>?_) fun e s' hs=>hs;have fin:∀{σ':St}{H':Hp}{v:V}{u:Value},Inv (cxOf CX P w K mg base N qual scope f cdv A outer s H E) [] σ' H' s'->RelV v u->Q v H'->CE outer P w H s Q u s' :=
  fun {σ' H' v u} J rv q=>⟨v,H',J.os,J.bare,J.base,J.hok,rv,q⟩
 cases fl with
 |ret u =>
  obtain⟨v,σ',H',J,rv,q⟩:=hs;exact fin J rv q
 |next =>
  obtain⟨σ',H',J,q⟩:=hs;exact fin (v:=V.non) (u:=Value.none) J rfl q
 |brk =>
  obtain⟨_,_,_,q⟩:=hs;exact False.elim q
 |cont =>
  obtain⟨_,_,_,q⟩:=hs;exact False.elim q
variable {id T:String}{r:List V->Hp->VK->Prop}
def tCB (r:List V->Hp->VK->Prop)(t:TA):TE:=fun σ H Q=>t σ H fun vs H1=>r vs H1 Q
theorem z3h (hc:z8i X (.builtin id) r)(hg:Gl X x)(hm:X.mg x=none)(hv:bootBuiltins x=some (.builtin id))(ha:PA X (e::es) t)(hn:x ≠ "__name__":=by decide)(hdb:(x == ("__debug__":Str))=false:=by decide)
  (he:starEach (e::es) X.env=(false,eval e X.env)::starEach es X.env:=by rfl)(hpl:(backTo pos (starEach es X.env)).any (·.1)=false:=by rfl):PE X (.Call (.Name x p) (e::es) [] pos) (tCB r t):=by
 intro pins s σ H Q I h;refine wpAny_Call_Name_kw (z9k I hg hm hv ?_ hn hdb);exact PyProof.Rows.callWith_builtin1 (thn (ha pos pins s σ H _ I h) fun us s1 ⟨vs,H1,I1,r1,q1⟩=>hc pins s1 σ H1 vs us Q I1 r1 q1) he hpl
theorem y6y (hc:z8i X (.type T) r)(hg:Gl X x)(hm:X.mg x=none)(hv:bootBuiltins x=some (.type T))(ha:PA X (e::es) t)(hn:x ≠ "__name__":=by decide)(hdb:(x == ("__debug__":Str))=false:=by decide)
  (he:starEach (e::es) X.env=(false,eval e X.env)::starEach es X.env:=by rfl)(hpl:(backTo pos (starEach es X.env)).any (·.1)=false:=by rfl):PE X (.Call (.Name x p) (e::es) [] pos) (tCB r t):=by
 intro pins s σ H Q I h;refine wpAny_Call_Name_kw (z9k I hg hm hv ?_ hn hdb);exact PyProof.Rows.callWith_type1 (thn (ha pos pins s σ H _ I h) fun us s1 ⟨vs,H1,I1,r1,q1⟩=>hc pins s1 σ H1 vs us Q I1 r1 q1) he hpl
end
end L2
namespace HT
open PySem PyProof.Rows
open PySem.SeqAt
open PySem.AutoSeq1 (wpAny_loadPart')
open PySem.MeetsSeq PySem.MeetsSeq2 PySem.MeetsSeq3
section
variable {prog:Program}{w:World}{A:Around}{E:Value->Shared->Prop}{s:Shared}
noncomputable def sIx (n d:Nat):Option Int->Nat
 |none=>d
 |some v=>if v<0 then(v+(n:Int)).toNat else min v.toNat n
theorem sIx_none (n d:Nat):sIx n d none=d:=rfl
theorem sIx_nat (n d k:Nat):sIx n d (some (k:Int))=min k n:=by
 show(if (k:Int)<0 then((k:Int)+(n:Int)).toNat else min (k:Int).toNat n)=min k n;rw[if_neg (by omega),Int.toNat_natCast]
end
end HT
namespace L2
open PySem PySem.Spec PyProof.Rows
abbrev TO:=St->Hp->(Option Int->Hp->Prop)->Prop
def PO (X:Cx)(e:Option Expr)(t:TO):Prop :=
 ∀(pins:List (Addr×Obj))(s:Shared)(σ:St)(H:Hp)(Q:Option Int->Hp->Prop),Inv X pins σ H s->t σ H Q ->
  wpAny (model X.prog X.w) X.A (evalPart e X.env) (fun u s'=>∃o H',Inv X pins σ H' s'/\IsPart u o/\Q o H') X.xe s
def z5d:TO:=fun _ H Q=>Q none H
def j0m (t:TE):TO:=fun σ H Q=>t σ H fun x H1=>∃i,x=.int i/\Q (some i) H1
section
variable {X:Cx}{e:Expr}{te:TE}{lo hi:Option Expr}{tl th:TO}{pos p2:Pos}
theorem x6z:PO X none z5d:=by
 intro pins s σ H Q I h;rw[evalPart_none];exact wpAny_pure ⟨none,H,I,.none,h⟩
theorem y9y (h:PE X e te):PO X (some e) (j0m te):=by
 intro pins s σ H Q I hw;rw[evalPart_some];refine thn (h pins s σ H _ I hw) fun u s1 ⟨x,H1,I1,r1,q1⟩=>?_;obtain⟨i,rfl,q⟩:=q1;obtain⟨t,rfl⟩:=r1;exact⟨some i,H1,I1,.int i t,q⟩
def SlR (X:Cx)(r:V->Option Int->Option Int->Hp->VK->Prop):Prop :=
 ∀(pins:List (Addr×Obj))(s:Shared)(σ:St)(H:Hp)(x:V)(v vl vu:Value)(lo hi:Option Int)(sl:Addr)(Q:VK),Inv X pins σ H s->RelV x v->s.heap.IsSliceOf sl vl vu .none->IsPart vl lo->IsPart vu hi->r x lo hi H Q ->
  ∃T id,typeLookup (.type T) "__getitem__" = pure (some (.builtin id))/\s.TypeIs v T/\wpAny (model X.prog X.w) X.A (getItem v (.ref sl)) (EP X pins σ Q) X.xe s
def tSl (r:V->Option Int->Option Int->Hp->VK->Prop)(te:TE)(tl th:TO):TE:=fun σ H Q=>te σ H fun x H1=>tl σ H1 fun l H2=>th σ H2 fun u H3=>r x l u H3 Q
theorem y0y {r:V->Option Int->Option Int->Hp->VK->Prop}(hr:SlR X r)(he:PE X e te)(hl:PO X lo tl)(hu:PO X hi th):PE X (.Subscript e (.Slice lo hi none p2) pos) (tSl r te tl th):=by
 intro pins s σ H Q I h;refine Subscript_ (thn (he pins s σ H _ I h) fun v s1 ⟨x,H1,I1,r1,q1⟩=>?_);refine wpAny_Slice (thn (hl pins s1 σ H1 _ I1 q1) fun vl s2 ⟨l,H2,I2,pl,q2⟩=>thn (hu pins s2 σ H2 _ I2 q2) fun vu s3 ⟨u,H3,I3,pu,q3⟩=>?_);rw[evalPart_none];refine wpAny_pure ?_;have I4:Inv X pins σ H3 { s3 with heap:=s3.heap.push { cls:=.type "slice",data:=.fields #[vl,vu,.none] } }:=I3.kept (t':=s3.toks) fun b ob q=>get?_push_of_some _ q;obtain⟨T,id,hT,ht,hg⟩:=hr pins { s3 with heap:=s3.heap.push { cls:=.type "slice",data:=.fields #[vl,vu,.none] } } σ H3 x v vl vu l u s3.heap.objs.size Q I4 r1 (Heap.IsSliceOf.new ..) pl pu q3;show wpAny (model X.prog X.w) X.A (subscriptTail e (.Slice lo hi none p2) v (.ref s3.heap.objs.size)) (EP X pins σ Q) X.xe { s3 with heap:=s3.heap.push { cls:=.type "slice",data:=.fields #[vl,vu,.none] } };exact tail_any (ops:=[.ref s3.heap.objs.size,v]) ht hT hg (by with_unfolding_all rfl)
noncomputable def cutV (xs:List V)(lo hi:Option Int):List V:=(xs.drop (HT.sIx xs.length 0 lo)).take (HT.sIx xs.length xs.length hi - HT.sIx xs.length 0 lo)
theorem y9k (xs:List V)(lo hi:Option Int):(cutV xs lo hi).length<=xs.length:=by
 unfold cutV;rw[length_take,length_drop];omega
noncomputable def ixN (n:Nat)(i:Int):Option Nat:=if 0<=i then(if i<n then some i.toNat else none) else if -(n:Int)<=i then some (i+n).toNat else none
def atI {α:Type}(xs:List α)(i:Int):Option α:=(ixN xs.length i).bind fun j=>xs[j]?
theorem x8p {n:Nat}{i:Int}{j:Nat}(h:ixN n i=some j):seqIndex? i n=some j/\j<n/\-(n:Int)<=i/\i<n:=by
 unfold ixN at h;by_cases h0:0<=i
 ·rw[if_pos h0]at h;by_cases h1:i<n
  ·rw[if_pos h1]at h;have e:i.toNat=j:=Option.some.inj h;exact⟨by rw[seqIndex_of h0 h1,e],by omega,by omega,h1⟩
  ·rw[if_neg h1]at h;cases h
 ·rw[if_neg h0]at h;by_cases h1:-(n:Int)<=i
  ·rw[if_pos h1]at h;have e:(i+n).toNat=j:=Option.some.inj h;exact⟨by rw[seqIndex_neg (by omega) h1,e],by omega,h1,by omega⟩
  ·rw[if_neg h1]at h;cases h
theorem x0q {α:Type}{xs:List α}{i:Int}{v:α}(h:atI xs i=some v):∃j,seqIndex? i xs.length=some j/\xs[j]? = some v/\j<xs.length/\-(xs.length:Int)<=i/\i<xs.length:=by
 unfold atI at h;cases e:ixN xs.length i with
 |none=>rw[e]at h;cases h
 |some j =>
  rw[e]at h;obtain⟨h1,h2,h3,h4⟩:=x8p e;exact⟨j,h1,h,h2,h3,h4⟩
theorem z2w {α:Type}{xs:List α}{j:Nat}{v:α}(h:xs[j]? = some v):atI xs (j:Int)=some v:=by
 have hj:j<xs.length:=(List.getElem?_eq_some_iff.mp h).1;have e:ixN xs.length (j:Int)=some j:=by
  unfold ixN;rw[if_pos (by omega),if_pos (by omega)];simp
 unfold atI;rw[e];exact h
def x0m (b:Expr):Prop:=∀o i,subscripted b false o i=operate [o,i] (getItem o i)
def IxR (X:Cx)(r:R2):Prop :=
 ∀(value slice:Expr)(pins:List (Addr×Obj))(s:Shared)(σ:St)(H:Hp)(x y:V)(v u:Value)(Q:VK),Inv X pins σ H s->RelV x v->RelV y u->r x y H Q ->
  subscripted slice false v u=operate [v,u] (getItem v u)->wpAny (model X.prog X.w) X.A (subscriptTail value slice v u) (EP X pins σ Q) X.xe s
def MtR (X:Cx)(id:String)(r:V->List V->Hp->VK->Prop):Prop :=
 ∀(pins:List (Addr×Obj))(s:Shared)(σ:St)(H:Hp)(x:V)(xs:List V)(v:Value)(us:List Value)(Q:VK),Inv X pins σ H s->RelV x v->Vals xs us->r x xs H Q ->
  wpAny (model X.prog X.w) X.A (call (.builtin id) (v::us)) (EP X pins σ Q) X.xe s
variable {a b:Expr}{ta tb:TE}
theorem IxR.or {r r':R2}(h:IxR X r)(h':IxR X r'):IxR X (fun x y H Q=>r x y H Q\/r' x y H Q):=by
 intro value slice pins s σ H x y v u Q I rx ry q hs;rcases q with q|q
 ·exact h value slice pins s σ H x y v u Q I rx ry q hs
 ·exact h' value slice pins s σ H x y v u Q I rx ry q hs
theorem z5r {r:R2}(hr:IxR X r)(ha:PE X a ta)(hb:PE X b tb)(hs:x0m b):PE X (.Subscript a b pos) (tOp r ta tb):=by
 intro pins s σ H Q I h;exact Subscript_ (binT ha hb I h fun v u s2 x y H2 I2 rx ry q=>hr a b pins s2 σ H2 x y v u Q I2 rx ry q (hs _ _))
def rIxL (K:W.Frag):R2:=fun x y H Q=>∃p xs i v,x=.ref p/\y=.int i/\SqL K H p xs/\atI xs i=some v/\Q v H
def rIxT (K:W.Frag):R2:=fun x y H Q=>∃p xs i v,x=.ref p/\y=.int i/\SqT K H p xs/\atI xs i=some v/\Q v H
def rIxS:R2:=fun x y H Q=>∃z i c,x=.str z/\y=.int i/\z.length<=sizeLine/\atI z.cps.toList i=some c/\Q (.str ⟨#[c]⟩) H
theorem ix_list:IxR X (rIxL X.K):=by
 intro value slice pins s σ H x y v u Q I rx ry h hs;obtain⟨p,xs,i,z,rfl,rfl,hq,he,q⟩:=h;cases rx;obtain⟨t,rfl⟩:=ry;obtain⟨its,r,pl,hz⟩:=I.list hq;obtain⟨j,h1,h2,h3,h4,h5⟩:=x0q he;obtain⟨w,ew,rw'⟩:=r.get h2;have hl:=r.length;have hn:=y3n;have fin:EP X pins σ Q w s:=⟨z,H,I,rw',q⟩;by_cases h0:0<=i
 ·have hj:i.toNat=j:=by
   rw[seqIndex_of h0 h5]at h1;exact Option.some.inj h1
  exact item_listR pl.isList h0 (by omega) (by rw[hj];simpa using ew) fin hs
 ·have hj:(i+(its.toArray.size:Int)).toNat=j:=by
   rw[seqIndex_neg (by omega) h4]at h1;rw[size_toArray,<-hl];exact Option.some.inj h1
  exact subscriptTail_builtinR (x:=w) pl.isList.typeIs slot_list_getitem.lookup
   (wpAny_getItem_list_neg (Q:=fun r s'=>r=w/\EP X pins σ Q r s') pl.isList (by omega) (by rw[size_toArray]<;>omega) (by omega) (by rw[hj];simpa using ew) ⟨rfl,fin⟩) hs
theorem ix_tup:IxR X (rIxT X.K):=by
 intro value slice pins s σ H x y v u Q I rx ry h hs;obtain⟨p,xs,i,z,rfl,rfl,hq,he,q⟩:=h;cases rx;obtain⟨t,rfl⟩:=ry;obtain⟨its,r,pl,hz⟩:=I.tuple hq;obtain⟨j,h1,h2,h3,h4,h5⟩:=x0q he;obtain⟨w,ew,rw'⟩:=r.get h2;have hl:=r.length;have hn:=y3n;have fin:EP X pins σ Q w s:=⟨z,H,I,rw',q⟩;exact subscriptTail_builtinR (x:=w) pl.typeIs slot_tuple_getitem.lookup
  (getItem_tuple (j:=j) (Q:=fun r s'=>r=w/\EP X pins σ Q r s') pl (by omega) (by omega) (by rw[size_toArray,<-hl];exact h1) (by simpa using ew) ⟨rfl,fin⟩) hs
theorem z8c:IxR X rIxS:=by
 intro value slice pins s σ H x y v u Q I rx ry h hs;obtain⟨z,i,c,rfl,rfl,hz,he,q⟩:=h;obtain⟨t,rfl⟩:=rx;obtain⟨t',rfl⟩:=ry;obtain⟨j,h1,h2,h3,h4,h5⟩:=x0q he;have hl:z.cps.toList.length=z.length:=by simp[Str.length]
 rw[hl]at h1 h4 h5;have hn:=y3n;exact tail_any (typeIs_str s z t) slot_str_getitem.lookup (getItem_str (c:=c) (by
  have e1:decide (i < -(2 ^ 63:Int))=false:=decide_eq_false (by omega);have e2:decide (i ≥ 2 ^ 63)=false:=decide_eq_false (by omega);rw[e1,e2,Bool.or_false]) (by rw[h1];simpa using h2) ⟨.str ⟨#[c]⟩,H,I.tok _,⟨_,rfl⟩,q⟩) hs
def rIx (K:W.Frag):R2:=fun x y H Q=>rIxL K x y H Q\/rIxT K x y H Q\/rIxS x y H Q
theorem q7h:IxR X (rIx X.K):=ix_list.or (ix_tup.or z8c)
theorem x4g (its:List Value)(n j:Nat)(u:Value):Obj.mapSeq (·.setIfInBounds j u) { cls:=.type "list",data:=.seq its.toArray n } = { cls:=.type "list",data:=.seq (its.set j u).toArray n }:=by
 simp[Obj.mapSeq]
theorem Inv.lst {pins:List (Addr×Obj)}{σ:St}{H:Hp}{s:Shared}{p:Addr}{xs:List V}(I:Inv X pins σ H s)(h:H p=some (.lst xs)) :
  ∃(its:List Value)(n:Nat),Vals xs its/\s.heap.get? p=some { cls:=.type "list",data:=.seq its.toArray n }/\xs.length<=sizeLine:=by
 obtain⟨z,its,n,r,e⟩:=I.hok p _ h;exact⟨its,n,r,e,z⟩
theorem Inv.lstUpd {pins:List (Addr×Obj)}{σ:St}{H:Hp}{s:Shared}{p:Addr}{xs ys:List V}{its its':List Value}{n n':Nat}{f:Obj->Obj}(I:Inv X pins σ H s)(h:H p=some (.lst xs))
  (ho:s.heap.get? p=some { cls:=.type "list",data:=.seq its.toArray n })(hf:f { cls:=.type "list",data:=.seq its.toArray n } = { cls:=.type "list",data:=.seq its'.toArray n' })(r:Vals ys its')(hz:ys.length<=sizeLine)(t:Nat) :
  Inv X pins σ (upd H p (.lst ys)) { s with heap:=s.heap.update p f,toks:=t }:=by
 have e:(s.heap.update p f).get? p=some { cls:=.type "list",data:=.seq its'.toArray n' }:=by
  rw[get?_update_self f ho (by rw[hf]<;>rfl),hf]
 refine I.write (x:=p) (e:=p) (by rw[h];trivial) (.inl rfl) (fun b u hb q=>(get?_update_other _ _ (Ne.symm hb)).trans q) ⟨_,e⟩ ?_;exact⟨hz,its',n',r,e⟩
def j8z:V->V->V->Hp->(Hp->Prop)->Prop:=fun o i v H Q=>∃p xs k j,o=.ref p/\i=.int k/\H p=some (.lst xs)/\ixN xs.length k=some j/\Q (upd H p (.lst (xs.set j v)))
theorem q2l:PSet X j8z:=by
 intro pins s σ H o i v ov iv u Q I ro ri rv h;obtain⟨p,xs,k,j,rfl,rfl,hp,hj,q⟩:=h;cases ro;obtain⟨t,rfl⟩:=ri;obtain⟨its,n,r,ho,hz⟩:=I.lst hp;obtain⟨h1,h2,h3,h4⟩:=x8p hj;have hl:=r.length;have hn:=y3n;have I':Inv X pins σ (upd H p (.lst (xs.set j v))) { s with heap:=s.heap.update p (Obj.mapSeq (·.setIfInBounds j u)) } :=
  I.lstUpd hp ho (x4g its n j u) (r.set rv j) (by rw[List.length_set];exact hz) s.toks
 by_cases h0:0<=k
 ·have hk:k.toNat=j:=by
   rw[seqIndex_of h0 h4]at h1;exact Option.some.inj h1
  exact W.ki_setAt ho h0 (by omega) (by rw[size_toArray,<-hl];exact h4) (by rw[hk];exact⟨_,I',q⟩)
 ·have hk:(k+(its.toArray.size:Int)).toNat=j:=by
   rw[seqIndex_neg (by omega) h3]at h1;rw[size_toArray,<-hl];exact Option.some.inj h1
  exact W.ki_setBack ho (by omega) (by rw[size_toArray,<-hl];exact h3) (by omega) (by rw[hk];exact⟨_,I',q⟩)
end
section
variable {X:Cx}{a b:Expr}{ta tb:TE}{pos:Pos}
theorem y8r (lo hi:Option Int)(n:Nat):(sliceBounds lo hi none n).1=((HT.sIx n 0 lo:Nat):Int)/\(sliceBounds lo hi none n).2.1=((HT.sIx n n hi:Nat):Int)/\(sliceBounds lo hi none n).2.2=1:=by
 refine⟨?_,?_,rfl⟩
 ·cases lo with
  |none=>simp[sliceBounds,HT.sIx]
  |some i =>
   simp only[sliceBounds,HT.sIx,getD_none,show(1:Int) > 0 by decide,if_true];by_cases h:i<0
   ·simp only[h,if_true]<;>omega
   ·simp only[h,if_false]<;>omega
 ·cases hi with
  |none=>simp[sliceBounds,HT.sIx]
  |some i =>
   simp only[sliceBounds,HT.sIx,getD_none,show(1:Int) > 0 by decide,if_true];by_cases h:i<0
   ·simp only[h,if_true]<;>omega
   ·simp only[h,if_false]<;>omega
theorem y6c (its:List Value)(lo hi:Option Int):slicePick its.toArray lo hi none=((its.drop (HT.sIx its.length 0 lo)).take (HT.sIx its.length its.length hi - HT.sIx its.length 0 lo)).toArray:=by
 obtain⟨h1,h2,h3⟩:=y8r lo hi its.toArray.size;unfold slicePick;rw[h1,h2,h3];simp only[sliceRange_one,pick_run,size_toArray]<;>rfl
def rSlL (K:W.Frag):V->Option Int->Option Int->Hp->VK->Prop:=fun x lo hi H Q=>∃a xs,x=.ref a/\SqL K H a xs/\∀p,H p=none->Q (.ref p) (upd H p (.lst (cutV xs lo hi)))
theorem x6k:SlR X (rSlL X.K):=by
 intro pins s σ H x v vl vu lo hi sl Q I rx hs pl pu h;obtain⟨a,xs,rfl,hx,q⟩:=h;cases rx;obtain⟨its,r,ht,hz⟩:=I.list hx;have hlen:=r.length;refine⟨"list",_,slot_list_getitem.lookup,ht.isList.typeIs,?_⟩;refine wpAny_getItem_list_slice ht.isList hs pl pu .none (by simp) ?_ (by rw[size_toArray]<;>omega);rw[y6c,<-hlen];refine⟨.ref s.heap.objs.size,_,I.laid (t':=s.toks) (o:=.lst (cutV xs lo hi)) (fun b ob q=>get?_push_of_some _ q) (le_refl _) ?_,rfl,q _ (I.hok.fresh (le_refl _))⟩;exact⟨le_trans (y9k xs lo hi) hz,_,0,(r.drop (HT.sIx xs.length 0 lo)).take (HT.sIx xs.length xs.length hi - HT.sIx xs.length 0 lo),get?_push_size _ rfl⟩
def z5q:V->Bool
 |.non=>true
 |.bl _=>true
 |.int _=>true
 |.str _=>true
 |_=>false
noncomputable def eqV:V->V->Bool
 |.non,.non=>true
 |.bl a,.bl b=>a == b
 |.bl a,.int b=>(if a then 1 else 0) == b
 |.int a,.bl b=>a == (if b then 1 else 0)
 |.int a,.int b=>a == b
 |.str a,.str b=>a == b
 |_,_=>false
theorem j7b {A:Around}{s:Shared}{y x:V}{u v:Value}(ry:RelV y u)(rx:RelV x v)(fy:z5q y=true)(fx:z5q x=true):SeqAt.EqAt A s u v (eqV y x):=by
 cases y with
 |non =>
  cases ry;cases x with
  |non=>cases rx;exact SeqAt.EqAt.same _
  |bl b=>cases rx;exact SeqAt.EqAt.none_bool b
  |int b=>obtain⟨t,rfl⟩:=rx;exact SeqAt.EqAt.none_int b t
  |str b=>obtain⟨t,rfl⟩:=rx;exact SeqAt.EqAt.none_str b t
  |_=>exact absurd (show false=true from fx) Bool.false_ne_true
 |bl a =>
  cases ry;cases x with
  |non=>cases rx;exact SeqAt.EqAt.bool_none a
  |bl b=>cases rx;exact SeqAt.EqAt.bool_bool a b
  |int b=>obtain⟨t,rfl⟩:=rx;exact SeqAt.EqAt.bool_int a b t
  |str b=>obtain⟨t,rfl⟩:=rx;exact SeqAt.EqAt.bool_str a b t
  |_=>exact absurd (show false=true from fx) Bool.false_ne_true
 |int a =>
  obtain⟨t',rfl⟩:=ry;cases x with
  |non=>cases rx;exact SeqAt.EqAt.int_none a t'
  |bl b=>cases rx;exact SeqAt.EqAt.int_bool a t' b
  |int b=>obtain⟨t,rfl⟩:=rx;exact SeqAt.EqAt.int_int a t' b t
  |str b=>obtain⟨t,rfl⟩:=rx;exact SeqAt.EqAt.int_str a t' b t
  |_=>exact absurd (show false=true from fx) Bool.false_ne_true
 |str a =>
  obtain⟨t',rfl⟩:=ry;cases x with
  |non=>cases rx;exact SeqAt.EqAt.str_none a t'
  |bl b=>cases rx;exact SeqAt.EqAt.str_bool a t' b
  |int b=>obtain⟨t,rfl⟩:=rx;exact SeqAt.EqAt.str_int a t' b t
  |str b=>obtain⟨t,rfl⟩:=rx;exact SeqAt.EqAt.str_str a t' b t
  |_=>exact absurd (show false=true from fx) Bool.false_ne_true
 |_=>exact absurd (show false=true from fy) Bool.false_ne_true
noncomputable def eqU (x:V)(u:Value):Bool:=match u with
 |.none=>eqV .non x
 |.bool b=>eqV (.bl b) x
 |.int i _=>eqV (.int i) x
 |.str z _=>eqV (.str z) x
 |_=>false
theorem q6j {x y:V}{u:Value}(r:RelV y u)(f:z5q y=true):eqU x u=eqV y x:=by
 cases y with
 |non=>cases r;rfl
 |bl b=>cases r;rfl
 |int i=>obtain⟨t,rfl⟩:=r;rfl
 |str z=>obtain⟨t,rfl⟩:=r;rfl
 |_=>exact absurd (show false=true from f) Bool.false_ne_true
theorem y3y {x:V}:∀{xs:List V}{us:List Value},Vals xs us->xs.all z5q=true->us.any (eqU x)=xs.any fun y=>eqV y x
 |_,_,.nil,_=>rfl
 |y::xs,u::us,.cons r t,f=>by
  rw[all_cons,and_eq_true]at f;rw[any_cons,any_cons,q6j r f.1,y3y t f.2]
theorem z9m {A:Around}{s:Shared}{x:V}{v:Value}(rx:RelV x v)(fx:z5q x=true):∀{xs:List V}{us:List Value},Vals xs us->xs.all z5q=true->∀u∈us,SeqAt.EqAt A s u v (eqU x u)
 |_,_,.nil,_=>fun u hu=>by cases hu
 |y::xs,u::us,.cons r t,f=>fun u' hu=>by
  rw[all_cons,and_eq_true]at f;rcases mem_cons.mp hu with rfl|hu
  ·rw[q6j r f.1];exact j7b r rx f.1 fx
  ·exact z9m rx fx t f.2 u' hu
def inV (x:V)(xs:List V):Bool:=xs.any fun y=>eqV y x
def rIn (K:W.Frag)(neg:Bool):R2:=fun x y H Q=>∃p xs,y=.ref p/\(SqL K H p xs\/SqT K H p xs)/\z5q x=true/\xs.all z5q=true/\Q (.bl (if neg then !inV x xs else inV x xs)) H
theorem y6u:OpR X (compareOp .In) (rIn X.K false):=by
 intro pins s σ H x y v u Q I rx ry h;obtain⟨p,xs,rfl,hq,fx,fs,q⟩:=h;cases ry;rcases hq with hq|hq
 ·obtain⟨its,r,pl,hz⟩:=I.list hq;refine SeqAt.in_listAt (eqU x) pl.isList (fun w hw=>z9m rx fx r fs w (by simpa using hw)) ⟨.bl _,H,I,rfl,?_⟩;rw[show its.toArray.any (eqU x)=its.any (eqU x) by simp,y3y r fs];exact q
 ·obtain⟨its,r,pl,hz⟩:=I.tuple hq;refine SeqAt.in_tupleAt (eqU x) pl (fun w hw=>z9m rx fx r fs w (by simpa using hw)) ⟨.bl _,H,I,rfl,?_⟩;rw[show its.toArray.any (eqU x)=its.any (eqU x) by simp,y3y r fs];exact q
theorem y8s:OpR X (compareOp .NotIn) (rIn X.K true):=by
 intro pins s σ H x y v u Q I rx ry h;obtain⟨p,xs,rfl,hq,fx,fs,q⟩:=h;cases ry;rcases hq with hq|hq
 ·obtain⟨its,r,pl,hz⟩:=I.list hq;refine SeqAt.notIn_listAt (eqU x) pl.isList (fun w hw=>z9m rx fx r fs w (by simpa using hw)) ⟨.bl _,H,I,rfl,?_⟩;rw[show its.toArray.any (eqU x)=its.any (eqU x) by simp,y3y r fs];exact q
 ·obtain⟨its,r,pl,hz⟩:=I.tuple hq;refine SeqAt.notIn_tupleAt (eqU x) pl (fun w hw=>z9m rx fx r fs w (by simpa using hw)) ⟨.bl _,H,I,rfl,?_⟩;rw[show its.toArray.any (eqU x)=its.any (eqU x) by simp,y3y r fs];exact q
theorem z4g:z8i X (.builtin "len") (fun xs H Q=>∃p ys,xs=[.ref p]/\(SqL X.K H p ys\/SqT X.K H p ys)/\Q (.int ys.length) H):=by
 intro pins s σ H xs us Q I r h;obtain⟨p,ys,rfl,hq,q⟩:=h;obtain⟨u,rfl,rx⟩:=z8w r;cases rx;have hn:=y3n;rcases hq with hq|hq
 ·obtain⟨its,r',pl,hz⟩:=I.list hq;have hlen:=r'.length;exact Calls.call_len_list pl.isList (by simp only[size_toArray]<;>omega) ⟨.int ys.length,H,I.tok _,⟨s.toks+1,by rw[size_toArray,hlen]⟩,q⟩
 ·obtain⟨its,r',pl,hz⟩:=I.tuple hq;have hlen:=r'.length;exact len_tuple pl (by simp only[size_toArray]<;>omega) ⟨.int ys.length,H,I.tok _,⟨s.toks+1,by rw[size_toArray,hlen]⟩,q⟩
theorem z2e:z8i X (.builtin "len") (fun xs H Q=>∃z,xs=[.str z]/\z.length<=sizeLine/\Q (.int z.length) H):=by
 intro pins s σ H xs us Q I r h;obtain⟨z,rfl,hz,q⟩:=h;obtain⟨u,rfl,t,rfl⟩:=z8w r;have hn:=y3n;exact len_str (by omega) ⟨.int z.length,H,I.tok _,⟨_,rfl⟩,q⟩
theorem y8c:z8i X (.type "list") (fun xs H Q=>∃p ys,xs=[.ref p]/\(SqL X.K H p ys\/SqT X.K H p ys)/\∀l,H l=none->Q (.ref l) (upd H l (.lst ys))):=by
 intro pins s σ H xs us Q I r h;obtain⟨p,ys,rfl,hq,q⟩:=h;obtain⟨u,rfl,rx⟩:=z8w r;cases rx;have fin:∀(its:List Value),Vals ys its->ys.length<=sizeLine->∀(h':Heap)(c':Nat),(∀b o',s.heap.get? b=some o'->h'.get? b=some o') ->
   h'.get? s.heap.objs.size=some { cls:=.type "list",dict:=none,data:=.seq its.toArray c',slots:=#[] }->EP X pins σ Q (.ref s.heap.objs.size) { s with heap:=h' }:=fun its r' hz h' c' kp e =>
  ⟨.ref s.heap.objs.size,_,I.laid (t':=s.toks) kp (le_refl _) (show ObjOk X.prog X.w _ h' _ (.lst ys) from⟨hz,its,c',r',e⟩),rfl,q _ (I.hok.fresh (le_refl _))⟩
 rcases hq with hq|hq
 ·obtain⟨its,r',pl,hz⟩:=I.list hq;have hlen:=r'.length;obtain⟨o,ho,hc,n,hd⟩:=pl.isList;exact call_list_seq p (.inl rfl) ho hc hd (fun h' c' kp e=>fin its r' hz h' c' kp e) (by simp only[size_toArray]<;>omega)
 ·obtain⟨its,r',pl,hz⟩:=I.tuple hq;have hlen:=r'.length;obtain⟨o,ho,hc,n,hd⟩:=pl;exact call_list_seq p (.inr rfl) ho hc hd (fun h' c' kp e=>fin its r' hz h' c' kp e) (by simp only[size_toArray]<;>omega)
def tyV (K:W.Frag)(T:String)(x:V)(H:Hp):Prop:=match x with
 |.str _=>T = "str"
 |.int _=>T = "int"
 |.ref p=>(T = "list"/\∃xs,SqL K H p xs)\/(T = "tuple"/\∃o,K.lookup p=some o/\o.cls=.type "tuple"/\o.dict=none) \/
   (T = "dict"/\((∃kvs,H p=some (.dK kvs)) \/ ∃kvs,H p=some (.dT kvs)))\/(T = "set"/\∃S n,H p=some (.set S n))
 |_=>False
theorem x7f {pins:List (Addr×Obj)}{σ:St}{H:Hp}{s:Shared}{T:String}{x:V}{v:Value}(I:Inv X pins σ H s)(r:RelV x v)(ty:tyV X.K T x H) :
  s.TypeIs v T/\∀a,v=.ref a->∃ob,s.heap.get? a=some ob/\ob.dict=none:=by
 cases x with
 |str z =>
  obtain⟨t,rfl⟩:=r;cases(show T = "str" from ty);exact⟨typeIs_str s z t,fun _ e=>nomatch e⟩
 |int i =>
  obtain⟨t,rfl⟩:=r;cases(show T = "int" from ty);exact⟨typeIs_int s i t,fun _ e=>nomatch e⟩
 |ref p =>
  cases r;rcases ty with ⟨rfl,xs,hq⟩|⟨rfl,o,hk,hc,hd⟩|⟨rfl,hk⟩|⟨rfl,S,n,hk⟩
  ·obtain⟨its,_,pl,_⟩:=I.list hq;refine⟨pl.isList.typeIs,fun a e=>?_⟩;cases e;obtain⟨o,n,e,c,hd,_⟩:=pl;exact⟨o,e,hd⟩
  ·refine⟨⟨o,I.kIn p o hk,hc⟩,fun a e=>?_⟩;cases e;exact⟨o,I.kIn _ o hk,hd⟩
  ·have z:∃o,s.heap.get? p=some o/\o.ExactDict:=by
    rcases hk with ⟨kvs,hk⟩|⟨kvs,hk⟩
    ·obtain⟨_,_,_,_,o,_,_,e,ex,_⟩:=I.hok p _ hk;exact⟨o,e,ex⟩
    ·obtain⟨_,_,_,_,o,_,_,e,ex,_⟩:=I.hok p _ hk;exact⟨o,e,ex⟩
   obtain⟨o,e,ex⟩:=z;refine⟨⟨o,e,ex.1⟩,fun a e2=>?_⟩;cases e2;exact⟨o,e,ex.2.1⟩
  ·obtain⟨o,_,_,_,e,ex,_⟩:=I.hok p _ hk;refine⟨⟨o,e,ex.1⟩,fun a e2=>?_⟩;cases e2;exact⟨o,e,ex.2.1⟩
 |_=>exact False.elim ty
def tBM (K:W.Frag)(T:String)(r:V->List V->Hp->VK->Prop)(to:TE)(t:TA):TE:=fun σ H Q=>to σ H fun x H1=>tyV K T x H1/\t σ H1 fun xs H2=>r x xs H2 Q
variable {o e:Expr}{es:List Expr}{to:TE}{t:TA}{name:Str}{apos cpos:Pos}{T id:String}{r:V->List V->Hp->VK->Prop}
theorem x8q (pa:PlainAttrs T)(slot:Slot T name id)(hty:typeOf (.builtin id)=pure (.type "method_descriptor"))(hm:MtR X id r)(ho:PE X o to)(ha:PA X (e::es) t)
  (hbase:attributeBase o name X.env (eval o X.env)=eval o X.env:=by rfl)
  (hfew:((backTo cpos (starEach (e::es) X.env)).all (fun x=>!x.1)&&(backToKw cpos (keywordEach [] X.env)).all (fun x=>x.1.isSome)
  &&decide ((e::es).length+([]:List Keyword).length+(if ([]:List Keyword).isEmpty then 0 else 1)<30))=true:=by rfl)
  (hline:(apos.endLine == cpos.line)=true:=by rfl)(hs:starEach (e::es) X.env=(false,eval e X.env)::starEach es X.env:=by rfl)(hplain:(backTo cpos (starEach es X.env)).any (·.1)=false:=by rfl) :
  PE X (.Call (.Attribute o name apos) (e::es) [] cpos) (tBM X.K T r to t):=by
 intro pins s σ H Q I h;refine wpAny_Call_method_late hbase hfew hline rfl (thn (ho pins s σ H _ I h) fun v s1 zq=>?_);obtain⟨x,H1,I1,r1,ty,q1⟩:=zq;obtain⟨h1,h2⟩:=x7f I1 r1 ty;refine⟨T,id,pa,slot,hty,h1,h2,?_⟩;have hA:=ha cpos pins s1 σ H1 _ I1 q1;rw[hs]at hA ⊢;refine Calls.callWith_builtin (by show(false||(backTo cpos (starEach es X.env)).any (·.1))=false;rw[hplain]<;>rfl) (Calls.evalArgs_plain ?_);exact thn hA fun us s2 ⟨vs,H2,I2,r2,q2⟩=>hm pins s2 σ H2 x vs v us Q I2 r1 r2 q2
end
section
def MtM (X:Cx)(id:String)(r:V->List V->Hp->VK->Prop):Prop :=
 ∀(pins:List (Addr×Obj))(s:Shared)(σ:St)(H:Hp)(x:V)(xs:List V)(v:Value)(us:List Value)(Q:VK),Inv X pins σ H s->RelV x v->Vals xs us->r x xs H Q ->
  wpAny (model X.prog X.w) X.A (call (.builtin id) (v::us)) (EP X pins σ Q) X.xe s
theorem Vals.one:∀{x:V}{us:List Value},Vals [x] us->∃u,us=[u]/\RelV x u
 |_,_,.cons r .nil=>⟨_,rfl,r⟩
theorem Vals.zero:∀{us:List Value},Vals [] us->us=[]
 |_,.nil=>rfl
theorem Vals.dropLast {xs:List V}{us:List Value}(h:Vals xs us):Vals xs.dropLast us.dropLast:=by
 induction h with
 |nil=>exact .nil
 |cons r t ih =>
  cases t with
  |nil=>exact .nil
  |cons q t'=>exact .cons r ih
theorem Vals.reverse {xs:List V}{us:List Value}(h:Vals xs us):Vals xs.reverse us.reverse:=by
 induction h with
 |nil=>exact .nil
 |cons r t ih=>rw[reverse_cons,reverse_cons];exact Vals.append ih (.cons r .nil)
theorem x4j {α:Type}(l:List α):l.eraseIdx (l.length - 1)=l.dropLast:=by
 induction l with
 |nil=>rfl
 |cons a r ih =>
  cases r with
  |nil=>rfl
  |cons b r =>
   have e:(a::b::r).length - 1=((b::r).length - 1)+1:=by
    have h1:(a::b::r).length=r.length+2:=rfl;have h2:(b::r).length=r.length+1:=rfl;omega
   rw[e,List.eraseIdx_cons_succ,ih]
   all_goals rfl
variable {X:Cx}{pins:List (Addr×Obj)}{σ:St}{H:Hp}{s:Shared}{l b:Addr}{xs ys zs:List V}
theorem Inv.lset {its its':List Value}{n:Nat}{f:Array Value->Array Value}{t':Nat}(I:Inv X pins σ H s)(hH:H l=some (.lst xs))
  (e:s.heap.get? l=some { cls:=.type "list",data:=.seq its.toArray n })(hf:f its.toArray=its'.toArray)(hv:Vals ys its')(hz:ys.length<=sizeLine) :
  Inv X pins σ (upd H l (.lst ys)) { s with heap:=s.heap.update l (Obj.mapSeq f),toks:=t' }:=by
 have q:=PySem.IsL.update e f;rw[hf]at q;refine I.write (x:=l) (e:=l) (by rw[hH];exact trivial) (.inl rfl) (fun b' u hb hu=>(get?_update_other s.heap (Obj.mapSeq f) (Ne.symm hb)).trans hu) ⟨_,q⟩ ?_;exact⟨hz,its',_,hv,q⟩
theorem Inv.lnew {its:List Value}{t':Nat}(I:Inv X pins σ H s)(hv:Vals ys its)(hz:ys.length<=sizeLine) :
  Inv X pins σ (upd H s.heap.objs.size (.lst ys)) { s with heap:=s.heap.push { cls:=.type "list",data:=.seq its.toArray },toks:=t' } :=
 I.laid (fun _ _ q=>get?_push_of_some _ q) (le_refl _) ⟨hz,its,0,hv,get?_push_size _ rfl⟩
theorem Inv.fresh (I:Inv X pins σ H s):H s.heap.objs.size=none:=I.hok.fresh (le_refl _)
theorem Inv.lstM (I:Inv X pins σ H s)(hH:H l=some (.lst xs)):xs.length<=sizeLine/\∃(its:List Value)(n:Nat),Vals xs its/\xs.length=its.length/\s.heap.get? l=some { cls:=.type "list",data:=.seq its.toArray n }:=by
 obtain⟨z,its,n,r,e⟩:=I.hok l _ hH;exact⟨z,its,n,r,r.length,e⟩
theorem q3k {n:Nat}(h:n<=sizeLine):Builtin.List.listTooLong n=false:=by
 unfold Builtin.List.listTooLong;exact decide_eq_false (by omega)
noncomputable def z4r:V->List V->Hp->VK->Prop:=fun x vs H Q=>∃l xs y,x=.ref l/\vs=[y]/\H l=some (.lst xs)/\xs.length<sizeLine/\Q .non (upd H l (.lst (xs++[y])))
theorem z1m:MtM X "list.append" z4r:=by
 intro pins s σ H x vs v us Q I rx rv h;obtain⟨l,xs,y,rfl,rfl,hH,hz,q⟩:=h;cases rx;obtain⟨u,rfl,ru⟩:=rv.one;obtain⟨z,its,n,r,hl,e⟩:=I.lstM hH;refine call_meets F.slot_list_append ⟨_,e,rfl⟩ F.entry_list_append (F.args_list_append_2 _ _) (PySem.list_append l its.toArray n u (by rw[size_toArray];omega)) ⟨e,?_⟩;refine⟨.non,_,I.lset (its':=its++[u]) hH e (by simp) (r.append (.cons ru .nil)) ?_,rfl,q⟩;rw[length_append,length_singleton];omega
def x5u:V->List V->Hp->VK->Prop:=fun x vs H Q=>∃l b xs zs,x=.ref l/\vs=[.ref b]/\H l=some (.lst xs)/\H b=some (.lst zs)/\xs.length+zs.length<=sizeLine/\Q .non (upd H l (.lst (xs++zs)))
theorem x7y:MtM X "list.extend" x5u:=by
 intro pins s σ H x vs v us Q I rx rv h;obtain⟨l,b,xs,zs,rfl,rfl,hH,hB,hz,q⟩:=h;cases rx;obtain⟨u,rfl,ru⟩:=rv.one;cases ru;obtain⟨z,its,n,r,hl,e⟩:=I.lstM hH;obtain⟨z2,its2,n2,r2,hl2,e2⟩:=I.lstM hB;have hsz:its.toArray.size+its2.toArray.size<=sizeLine:=by rw[size_toArray,size_toArray];omega
 have hlong:¬(!its.toArray.isEmpty&&Builtin.List.listTooLong (its.toArray.size+its2.toArray.size))=true:=by
  rw[q3k hsz,Bool.and_false];exact Bool.false_ne_true
 refine call_meets F.slot_list_extend ⟨_,e,rfl⟩ F.entry_list_extend (F.args_list_extend_2 _ _)
  (AutoSeq1.list_extend_list_list_0 l its.toArray n b its2.toArray n2 hlong (by rw[size_toArray];omega) (by omega)) ⟨e,e2,?_⟩
 refine⟨.non,_,I.lset (its':=its++its2) hH e (by simp) (r.append r2) ?_,rfl,q⟩;rw[length_append];omega
def rPop:V->List V->Hp->VK->Prop:=fun x vs H Q=>∃l xs y,x=.ref l/\vs=[]/\H l=some (.lst xs)/\xs[xs.length - 1]? = some y/\Q y (upd H l (.lst xs.dropLast))
theorem x4z:MtM X "list.pop" rPop:=by
 intro pins s σ H x vs v us Q I rx rv h;obtain⟨l,xs,y,rfl,rfl,hH,hy,q⟩:=h;cases rx;have hus:=rv.zero;subst hus;obtain⟨z,its,n,r,hl,e⟩:=I.lstM hH;obtain⟨u,hu,ru⟩:=r.get hy;have hy':its.toArray[its.toArray.size - 1]? = some u:=by
  show its.toArray[its.length - 1]? = some u;rw[<-Array.getElem?_toList,<-hl];exact hu
 refine call_meets F.slot_list_pop ⟨_,e,rfl⟩ F.entry_list_pop (F.args_list_pop_1 _) (MeetsSeq.list_pop_last l its.toArray n u hy' (by rw[size_toArray];omega)) ⟨e,?_⟩;refine⟨y,_,I.lset (its':=its.dropLast) hH e ?_ r.dropLast ?_,ru,q⟩
 ·show its.toArray.eraseIdxIfInBounds (its.toArray.size - 1)=its.dropLast.toArray;rw[size_toArray,List.eraseIdxIfInBounds_toArray,x4j]
 ·rw[List.length_dropLast];omega
def j8:R2:=fun x y H Q=>∃l b xs zs,x=.ref l/\y=.ref b/\H l=some (.lst xs)/\H b=some (.lst zs)/\xs.length+zs.length<=sizeLine/\∀p,H p=none->Q (.ref p) (upd H p (.lst (xs++zs)))
theorem z2m:OpR X (binaryOp .Add) j8:=by
 intro pins s σ H x y v u Q I rx ry h;obtain⟨l,b,xs,zs,rfl,rfl,hH,hB,hz,q⟩:=h;cases rx;cases ry;obtain⟨z,its,n,r,hl,e⟩:=I.lstM hH;obtain⟨z2,its2,n2,r2,hl2,e2⟩:=I.lstM hB;refine PySem.P.add_list e e2 ?_ (by rw[size_toArray,size_toArray];omega);have ea:its.toArray++its2.toArray=(its++its2).toArray:=by simp
 rw[ea];exact⟨.ref _,_,I.lnew (t':=s.toks) (r.append r2) (by rw[length_append];omega),rfl,q _ I.fresh⟩
variable {κ:Type}[DecidableEq κ]
noncomputable def valV (kvs:List (κ×V))(k:κ):Option V:=(kvs.find? fun kv=>decide (kv.1=k)).map (·.2)
noncomputable def putK (kvs:List (κ×V))(k:κ)(v:V):List (κ×V) :=
 if (kvs.any fun kv=>decide (kv.1=k))=true then kvs.map (fun kv=>if kv.1=k then(kv.1,v) else kv) else kvs++[(k,v)]
theorem y5t {p:κ×V}{r:List (κ×V)}{k:κ}(e:p.1=k):valV (p::r) k=some p.2:=by simp[valV,find?_cons,e]
theorem y5r {p:κ×V}{r:List (κ×V)}{k:κ}(e:¬p.1=k):valV (p::r) k=valV r k:=by simp[valV,find?_cons,e]
theorem x1y (k:κ):∀kvs:List (κ×V),(kvs.any fun kv=>decide (kv.1=k))=(valV kvs k).isSome
 | []=>rfl
 |p::r=>by
  rw[any_cons];by_cases e:p.1=k
  ·simp only[y5t e,decide_eq_true e,Bool.true_or,Option.isSome_some]
  ·rw[y5r e,decide_eq_false e,Bool.false_or];exact x1y k r
theorem z8h (kvs:List (κ×V))(k:κ)(v:V):(putK kvs k v).length<=kvs.length+1:=by
 unfold putK;split
 ·rw[length_map];omega
 ·rw[length_append,length_cons,length_nil];omega
theorem RelO.isSome_eq {o:Option V}{u:Option Value}(r:RelO o u):o.isSome=u.isSome:=by
 cases o with
 |none=>cases u with
  |none=>rfl
  |some _=>exact(show False from r).elim
 |some _=>cases u with
  |none=>exact(show False from r).elim
  |some _=>rfl
theorem KV.val {kvs:List (κ×V)}{vs:List (κ×Value)}(r:KV kvs vs)(k:κ):RelO (valV kvs k) (valueAt vs k):=by
 unfold KV at r;induction r with
 |nil=>exact True.intro
 | @cons p q ps qs h t ih =>
  obtain⟨h1,h2⟩:=h;by_cases e:p.1=k
  ·have e':q.1=k:=h1.symm.trans e;have b:valueAt (q::qs) k=some q.2:=by simp[valueAt,find?_cons,e']
   rw[y5t e,b];exact h2
  ·have e':¬q.1=k:=fun z=>e (h1.trans z);have b:valueAt (q::qs) k=valueAt qs k:=by simp[valueAt,find?_cons,e']
   rw[y5r e,b];exact ih
theorem KV.any {kvs:List (κ×V)}{vs:List (κ×Value)}(r:KV kvs vs)(k:κ):(kvs.any fun kv=>decide (kv.1=k))=vs.any fun kv=>decide (kv.1=k):=by
 unfold KV at r;induction r with
 |nil=>rfl
 |cons h t ih=>rw[any_cons,any_cons,ih,h.1]
theorem KV.repl {kvs:List (κ×V)}{vs:List (κ×Value)}(r:KV kvs vs)(k:κ){y:V}{u:Value}(ry:RelV y u) :
  KV (kvs.map fun kv=>if kv.1=k then(kv.1,y) else kv) (vs.map fun kv=>if kv.1=k then(kv.1,u) else kv):=by
 unfold KV at r ⊢;induction r with
 |nil=>exact .nil
 | @cons p q ps qs h t ih =>
  rw[map_cons,map_cons];refine .cons ?_ ih;obtain⟨h1,h2⟩:=h;by_cases e:p.1=k
  ·rw[if_pos e,if_pos (h1.symm.trans e)];exact⟨h1,ry⟩
  ·rw[if_neg e,if_neg (fun z=>e (h1.trans z))];exact⟨h1,h2⟩
theorem KV.put {kvs:List (κ×V)}{vs:List (κ×Value)}(r:KV kvs vs)(k:κ){y:V}{u:Value}(ry:RelV y u):KV (putK kvs k y) (stored vs k u):=by
 unfold putK stored;rw[r.any k];by_cases e:(vs.any fun kv=>decide (kv.1=k))=true
 ·rw[if_pos e,if_pos e];exact r.repl k ry
 ·rw[if_neg e,if_neg e];exact Paired.snoc r ⟨rfl,ry⟩
theorem KV.length {kvs:List (κ×V)}{vs:List (κ×Value)}(r:KV kvs vs):kvs.length=vs.length:=Paired.length r
theorem x7l {P:Program}{w:World}{k:Key}{u:Value}(r:RelV (kV k) u):(z2c P w).is k u=true:=by
 cases k with
 |inl i=>obtain⟨t,e⟩:=(show ∃t,u=Value.int i t from r);subst e;exact y9m P w i t
 |inr x=>obtain⟨t,e⟩:=(show ∃t,u=Value.str x t from r);subst e;exact y9r P w x t
theorem y8t {P:Program}{w:World}:∀{ks:List Key}{us:List Value},Vals (ks.map kV) us->ItemsAre (z2c P w) ks us
 | [],_,r=>by rw[map_nil]at r;cases r;exact .nil
 |k::ks,_,r=>by
  rw[map_cons]at r;cases r with
  |cons h t=>exact .cons (x7l h) (y8t t)
abbrev KT (H:Hp):List (List Key×V)->List (List Key×Addr×Value)->Prop:=Paired fun p q=>p.1=q.1/\H q.2.1=some (.tup (p.1.map kV))/\RelV p.2 q.2.2
theorem KT.val {H:Hp}{kvs:List (List Key×V)}{xs:List (List Key×Addr×Value)}(r:KT H kvs xs)(k:List Key):RelO (valV kvs k) ((atKey xs k).map (·.2)):=by
 induction r with
 |nil=>exact True.intro
 | @cons p q ps qs h t ih =>
  obtain⟨h1,_,h2⟩:=h;by_cases e:p.1=k
  ·have e':q.1=k:=h1.symm.trans e;have b:atKey (q::qs) k=some q.2:=by simp[atKey,find?_cons,e']
   rw[y5t e,b];exact h2
  ·have e':¬q.1=k:=fun z=>e (h1.trans z);have b:atKey (q::qs) k=atKey qs k:=by simp[atKey,find?_cons,e']
   rw[y5r e,b];exact ih
theorem KT.repl {H:Hp}{kvs:List (List Key×V)}{xs:List (List Key×Addr×Value)}(r:KT H kvs xs)(k:List Key){y:V}{u:Value}(ry:RelV y u) :
  KT H (kvs.map fun kv=>if kv.1=k then(kv.1,y) else kv) (xs.map (putAt k u)):=by
 induction r with
 |nil=>exact .nil
 | @cons p q ps qs h t ih =>
  rw[map_cons,map_cons];refine .cons ?_ ih;obtain⟨h1,h2,h3⟩:=h;unfold putAt;by_cases e:p.1=k
  ·rw[if_pos e,if_pos (h1.symm.trans e)];exact⟨h1,h2,ry⟩
  ·rw[if_neg e,if_neg (fun z=>e (h1.trans z))];exact⟨h1,h2,h3⟩
theorem KT.put {H:Hp}{kvs:List (List Key×V)}{xs:List (List Key×Addr×Value)}(r:KT H kvs xs)(k:List Key){b:Addr}{y:V}{u:Value}(hb:H b=some (.tup (k.map kV)))(ry:RelV y u) :
  KT H (putK kvs k y) (storedH xs k b u):=by
 have e:(kvs.any fun kv=>decide (kv.1=k))=(atKey xs k).isSome:=by
  rw[x1y,(r.val k).isSome_eq,isSome_map]
 unfold putK storedH;rw[e];by_cases q:(atKey xs k).isSome=true
 ·rw[if_pos q,if_pos q];exact r.repl k ry
 ·rw[if_neg q,if_neg q];exact Paired.snoc r ⟨rfl,hb,ry⟩
theorem KT.keeps {H H':Hp}{kvs:List (List Key×V)}{xs:List (List Key×Addr×Value)}(r:KT H kvs xs)(ht:∀b ys,H b=some (.tup ys)->H' b=some (.tup ys)):KT H' kvs xs :=
 Paired.mapP r fun _ _ z=>⟨z.1,ht _ _ z.2.1,z.2.2⟩
variable {P:Program}{w:World}{h:Heap}{a:Addr}
theorem j2s {u:HO}(ok:HOk P w H h)(e:Rd H a u):ObjOk P w H h a u:=e.ok ok
theorem j1r {kvs:List (Key×V)}(ok:HOk P w H h)(e:Rd H a (.dK kvs)):kvs.length<=sizeLine/\(a == sysModules)=false/\∃vs,KV kvs vs/\h.DictOf (z2c P w) a vs :=
 show ObjOk P w H h a (.dK kvs) from j2s ok e
theorem j9x {kvs:List (Key×V)}(ok:HOk P w H h)(e:H a=some (.dK kvs)):kvs.length<=sizeLine/\(a == sysModules)=false/\∃vs,KV kvs vs/\h.DictOf (z2c P w) a vs:=j1r ok (.inl e)
theorem x2e {ks:List Key}(ok:HOk P w H h)(e:H a=some (.tup (ks.map kV))):(tupleKind (z2c P w)).is h ks a:=by
 obtain⟨_,its,r,o,h1,h2,n,h3⟩:=(show ObjOk P w H h a (.tup (ks.map kV)) from ok a _ e);exact⟨o,its.toArray,n,h1,h2,h3,by simpa using y8t r⟩
theorem q9l {kvs:List (List Key×V)}(ok:HOk P w H h)(e:Rd H a (.dT kvs)):kvs.length<=sizeLine/\(a == sysModules)=false /\
  ∃xs,KT H kvs xs/\h.DictOfH (tupleKind (z2c P w)) a xs:=by
 obtain⟨z,y,xs,r,o,es,ep,h1,h2,h3,h4,h5⟩:=(show ObjOk P w H h a (.dT kvs) from j2s ok e);refine⟨z,y,xs,r,o,es,ep,h1,h2,h3,h4,fun x hx=>?_,h5⟩;have all:∀{l:List (List Key×V)}{m:List (List Key×Addr×Value)},KT H l m->∀x∈m,(tupleKind (z2c P w)).is h x.1 x.2.1:=by
  intro l m q;induction q with
  |nil=>intro x hx;exact nomatch hx
  | @cons p q ps qs hq t ih =>
   intro x hx;rcases mem_cons.mp hx with e|hx
   ·subst e;exact x2e ok (by rw[<-hq.1];exact hq.2.1)
   ·exact ih x hx
 exact all r x hx
theorem j9u {kvs:List (List Key×V)}(ok:HOk P w H h)(e:H a=some (.dT kvs)):kvs.length<=sizeLine/\(a == sysModules)=false /\
  ∃xs,KT H kvs xs/\h.DictOfH (tupleKind (z2c P w)) a xs:=q9l ok (.inl e)
def DGet (H:Hp)(a:Addr)(y:V)(r:Option V):Prop :=
 (∃kvs k,Rd H a (.dK kvs)/\y=kV k/\r=valV kvs k) \/ ∃kvs k b,Rd H a (.dT kvs)/\y=.ref b/\H b=some (.tup (k.map kV))/\r=valV kvs k
def DPut (H:Hp)(a:Addr)(y v:V)(H':Hp):Prop :=
 (∃kvs k,H a=some (.dK kvs)/\y=kV k/\kvs.length<sizeLine/\H' = upd H a (.dK (putK kvs k v))) \/
 ∃kvs k b,H a=some (.dT kvs)/\y=.ref b/\H b=some (.tup (k.map kV))/\kvs.length<sizeLine/\H' = upd H a (.dT (putK kvs k v))
theorem DGet.k {H:Hp}{a:Addr}{kvs:List (Key×V)}{k:Key}(e:H a=some (.dK kvs)):DGet H a (kV k) (valV kvs k):=.inl ⟨kvs,k,.inl e,rfl,rfl⟩
theorem DPut.k {H:Hp}{a:Addr}{kvs:List (Key×V)}{k:Key}{v:V}(e:H a=some (.dK kvs))(hl:kvs.length<sizeLine):DPut H a (kV k) v (upd H a (.dK (putK kvs k v))):=.inl ⟨kvs,k,e,rfl,hl,rfl⟩
variable {y v:V}{u r:Value}{o:Option V}{A:Around}{E:Value->Shared->Prop}
theorem Inv.big (I:Inv X pins σ H s):sysModules<s.heap.objs.size:=by
 have h:mainGlobals<s.heap.objs.size:=(I.mod.glob.keeps I.bk).lt;exact lt_trans (by decide) h
theorem d_in {Q:Value->Shared->Prop}(hu:A.units+1<cLine)(I:Inv X pins σ H s)(g:DGet H a y o)(ry:RelV y u)(h:∀s',Inv X pins σ H s'->Q (.bool o.isSome) s') :
  wpAny (model X.prog X.w) A (compareOp .In u (.ref a)) Q E s:=by
 rcases g with ⟨kvs,k,e,ey,l⟩|⟨kvs,k,b,e,ey,eb,l⟩
 ·subst ey;obtain⟨z,hd,vs,rel,dd⟩:=j1r I.hok e;refine wpAny_in_of (x7l ry) hd dd.mapOf ?_;rw[<-(rel.val k).isSome_eq,<-l];exact h _ (I.tok _)
 ·subst ey;cases(show u=Value.ref b from ry);obtain⟨z,hd,xs,rel,dd⟩:=q9l I.hok e;refine wpAny_in_heap (tupleKind_room_in1 hu) (x2e I.hok eb) hd dd ?_;have q:=(rel.val k).isSome_eq;rw[isSome_map]at q;rw[<-q,<-l];exact h _ (I.tok _)
theorem q8z {Q:Value->Shared->Prop}(hu:A.units+1<cLine)(I:Inv X pins σ H s)(g:DGet H a y o)(ry:RelV y u)(h:∀s',Inv X pins σ H s'->Q (.bool (!o.isSome)) s') :
  wpAny (model X.prog X.w) A (compareOp .NotIn u (.ref a)) Q E s:=by
 rcases g with ⟨kvs,k,e,ey,l⟩|⟨kvs,k,b,e,ey,eb,l⟩
 ·subst ey;obtain⟨z,hd,vs,rel,dd⟩:=j1r I.hok e;refine wpAny_notIn_of (x7l ry) hd dd.mapOf ?_;rw[<-(rel.val k).isSome_eq,<-l];exact h _ (I.tok _)
 ·subst ey;cases(show u=Value.ref b from ry);obtain⟨z,hd,xs,rel,dd⟩:=q9l I.hok e;refine wpAny_notIn_heap (tupleKind_room_in1 hu) (x2e I.hok eb) hd dd ?_;have q:=(rel.val k).isSome_eq;rw[isSome_map]at q;rw[<-q,<-l];exact h _ (I.tok _)
theorem x7k {h':Heap}{t':Nat}{ob:HO}(I:Inv X pins σ H s)(mu:Mut (H a))(hs:Heap.SameBut a s.heap h')(he:∃q,h'.get? a=some q)(new:ObjOk X.prog X.w (upd H a ob) h' a ob) :
  Inv X pins σ (upd H a ob) { s with heap:=h',toks:=t' } :=
 I.write (x:=a) (e:=a) mu (.inl rfl) (fun b q hb z=>(hs.2 b hb).trans z) he new
theorem q5w {P:Program}{w:World}{H':Hp}{h':Heap}{kvs:List (Key×V)}{vs:List (Key×Value)}(z:kvs.length<=sizeLine)(hd:(a == sysModules)=false)(rel:KV kvs vs)(dd:h'.DictOf (z2c P w) a vs) :
  ObjOk P w H' h' a (.dK kvs):=⟨z,hd,vs,rel,dd⟩
theorem x7q {H':Hp}{Q:Unit->Shared->Prop}(hu:A.units+1<cLine)(I:Inv X pins σ H s)(g:DPut H a y v H')(ry:RelV y u)(rv:RelV v r)(h:∀s',Inv X pins σ H' s'->Q () s') :
  wpAny (model X.prog X.w) A (setItem (.ref a) u r) Q E s:=by
 rcases g with ⟨kvs,k,e,ey,l,eH⟩|⟨kvs,k,b,e,ey,eb,l,eH⟩
 ·subst ey eH;obtain⟨z,hd,vs,rel,dd⟩:=j9x I.hok e;have hz:vs.length<=sizeLine:=by rw[<-rel.length];exact z
  have hl:(putK kvs k v).length<=sizeLine:=by have:=z8h kvs k v;omega
  refine wpAny_setItem_pairs (hsz:=hz) (x7l ry) dd fun h' dd' hs=>h _ ?_;have he:∃q,h'.get? a=some q:=let ⟨q,_,_,hq,_⟩:=dd';⟨q,hq⟩;exact x7k I (by rw[e];exact True.intro) hs he (q5w hl hd (rel.put k rv) dd')
 ·subst ey eH;cases(show u=Value.ref b from ry);obtain⟨z,hd,xs,rel,dd⟩:=j9u I.hok e;have hz:xs.length<=sizeLine:=by rw[<-Paired.length rel];exact z
  have hl:(putK kvs k v).length<=sizeLine:=by have:=z8h kvs k v;omega
  refine wpAny_setItem_heap (hsz:=hz) (tupleKind_room_in1 hu) (x2e I.hok eb) dd fun h' dd' hs=>h _ ?_;obtain⟨q,es,ep,hq,h2,h3,h4,_,h5⟩:=dd';refine x7k I (by rw[e];exact True.intro) hs ⟨q,hq⟩ ⟨hl,hd,_,(rel.put k eb rv).keeps fun c ys ec=>?_,q,es,ep,hq,h2,h3,h4,h5⟩;rw[z0j (ne_of ec e (fun z=>nomatch z))];exact ec
def NoSl (i:Expr):Prop:=∀ov iv,subscripted i false ov iv=operate [ov,iv] (getItem ov iv)
theorem q9x {prog:Program}{w:World}{A:Around}{E:Value->Shared->Prop}{s:Shared}{env:Env}{value slice:Expr}{pos:Pos}{T id:String}{Q:Value->Shared->Prop}
  (hl:typeLookup (.type T) "__getitem__" = pure (some (.builtin id)))(hs:NoSl slice)
  (h:wpAny (model prog w) A (eval value env) (fun o s₁=>wpAny (model prog w) A (eval slice env) (fun i s₂=>s₂.TypeIs o T/\wpAny (model prog w) A (getItem o i) Q E s₂) E s₁) E s) :
  wpAny (model prog w) A (eval (.Subscript value slice pos) env) Q E s:=by
 refine Subscript_ (wpAny_mono h (fun o s₁ h₁=>wpAny_mono h₁ (fun i s₂ h₂=>?_) fun _ _ x=>x) fun _ _ x=>x);obtain⟨hT,h₂⟩:=h₂;unfold subscriptTail;refine wpAny_bind ?_;rw[getitemInPython_of_ne hT.not_modules];refine wpAny_bind (wpAny_specialOf hT hl ?_);have fin:wpAny (model prog w) A (subscripted slice false o i) (fun r s₃=>wpAny (model prog w) A (letTemporaryGo value o r >>= fun _=>pure r) Q E s₃) E s₂:=by
  rw[hs o i];exact wpAny_operating (wpAny_mono h₂ (fun r s₃ h₃=>wpAny_bind (wpAny_letTemporaryGo (wpAny_pure h₃))) fun _ _ x=>x)
 first
  |exact wpAny_pure (wpAny_bind fin)
  |exact wpAny_bind (wpAny_pure (wpAny_bind fin))
  |exact wpAny_bind fin
def tDIn (ty td:TE):TE:=fun σ H Q=>ty σ H fun y H1=>td σ H1 fun x H2=>∃a o,x=.ref a/\DGet H2 a y o/\Q (.bl o.isSome) H2
def z5b (ty td:TE):TE:=fun σ H Q=>ty σ H fun y H1=>td σ H1 fun x H2=>∃a o,x=.ref a/\DGet H2 a y o/\Q (.bl (!o.isSome)) H2
def y1w (td ty tv:TE):TS:=fun D σ H=>tv σ H fun v H1=>td σ H1 fun x H2=>ty σ H2 fun y H3=>∃a H4,x=.ref a/\DPut H3 a y v H4/\D.nx σ H4
end
section
variable {X:Cx}{o i e value:Expr}{pos pos' tpos:Pos}{td ty tv:TE}
theorem j7c (hu:X.A.units+1<cLine)(hi:PE X i ty)(ho:PE X o td):PC X .In i o (tDIn ty td):=by
 intro pins s σ H Q I h;refine thn (hi pins s σ H _ I h) fun iv s1 ⟨y,H1,I1,ry,q1⟩=>thn (ho pins s1 σ H1 _ I1 q1) fun u s2 zq=>?_;obtain⟨x,H2,I2,rx,a,ov,ex,g,q2⟩:=zq;subst ex;obtain rfl:u=Value.ref a:=rx;exact d_in hu I2 g ry fun s3 I3=>⟨.bl ov.isSome,H2,I3,rfl,q2⟩
theorem y7v (hu:X.A.units+1<cLine)(hi:PE X i ty)(ho:PE X o td):PC X .NotIn i o (z5b ty td):=by
 intro pins s σ H Q I h;refine thn (hi pins s σ H _ I h) fun iv s1 ⟨y,H1,I1,ry,q1⟩=>thn (ho pins s1 σ H1 _ I1 q1) fun u s2 zq=>?_;obtain⟨x,H2,I2,rx,a,ov,ex,g,q2⟩:=zq;subst ex;obtain rfl:u=Value.ref a:=rx;exact q8z hu I2 g ry fun s3 I3=>⟨.bl (!ov.isSome),H2,I3,rfl,q2⟩
theorem q9b (hu:X.A.units+1<cLine)(ho:PE X o td)(hi:PE X i ty)(hv:PE X value tv)(hs:swapsWith value (some (.Subscript o i pos')) pos.line X.env=pure false) :
  PS X (.Assign [.Subscript o i pos'] value pos) (y1w td ty tv):=by
 intro pins s σ H D I h;refine wpAny_Assign_Subscript (thn (hv pins s σ H _ I h) fun r s1 ⟨v,H1,I1,rv,q1⟩=>thn (ho pins s1 σ H1 _ I1 q1) fun u s2 ⟨x,H2,I2,rx,q2⟩=>thn (hi pins s2 σ H2 _ I2 q2) fun iv s3 zq=>?_) hs;obtain⟨y,H3,I3,ry,a,H4,ex,g,q3⟩:=zq;subst ex;obtain rfl:u=Value.ref a:=rx;exact x7q hu I3 g ry rv fun s4 I4=>⟨σ,H4,I4,q3⟩
theorem q2i {P:Program}{w:World}{H:Hp}(h:Heap)(hb:sysModules<h.objs.size):ObjOk P w H (h.push { cls:=.type "dict",data:=.dict #[] }) h.objs.size (.dK []) :=
 ⟨zero_le _,beq_eq_false_iff_ne.mpr (Ne.symm (ne_of_lt hb)),[],.nil,Heap.DictOf.new h⟩
def z6y:TE:=fun _ H Q=>∀p,H p=none->Q (.ref p) (upd H p (.dK []))
theorem q2j:PE X (.Dict [] [] pos) z6y:=fun pins s σ H Q I h =>
 wpAny_Dict_empty ⟨.ref s.heap.objs.size,_,I.laid (a:=s.heap.objs.size) (o:=.dK []) (t':=s.toks) (fun _ _ q=>get?_push_of_some _ q) (le_refl _) (q2i s.heap I.big),rfl,h _ (I.hok.fresh (le_refl _))⟩
def z7e (kvs more:List (Key×V)):List (Key×V):=more.foldl (fun acc kv=>putK acc kv.1 kv.2) kvs
theorem KV.merge:∀{more:List (Key×V)}{rs:List (Key×Value)}{kvs:List (Key×V)}{vs:List (Key×Value)},KV more rs->KV kvs vs->KV (z7e kvs more) (merged vs rs):=by
 intro more rs kvs vs r;unfold KV at r;induction r generalizing kvs vs with
 |nil=>intro q;exact q
 | @cons p q ps qs h t ih =>
  intro r0;have e:KV (putK kvs p.1 p.2) (stored vs q.1 q.2):=by
   have:=r0.put p.1 h.2;rw[<-h.1];exact this
  exact ih e
structure M1 (X:Cx)(o:Expr)(m:Str)(apos:Pos)(e:Expr)(cpos:Pos):Prop where
 base:attributeBase o m X.env (eval o X.env)=eval o X.env
 few:((backTo cpos (starEach [e] X.env)).all (fun x=>!x.1)&&(backToKw cpos (keywordEach [] X.env)).all (fun x=>x.1.isSome)
 &&decide (([e]:List Expr).length+([]:List Keyword).length+(if ([]:List Keyword).isEmpty then 0 else 1)<30))=true
 line:(apos.endLine == cpos.line)=true
 trees:backTo cpos (starEach [e] X.env)=[(false,eval e X.env)]
structure M2 (X:Cx)(o:Expr)(m:Str)(apos:Pos)(e f:Expr)(cpos:Pos):Prop where
 base:attributeBase o m X.env (eval o X.env)=eval o X.env
 few:((backTo cpos (starEach [e,f] X.env)).all (fun x=>!x.1)&&(backToKw cpos (keywordEach [] X.env)).all (fun x=>x.1.isSome)
 &&decide (([e,f]:List Expr).length+([]:List Keyword).length+(if ([]:List Keyword).isEmpty then 0 else 1)<30))=true
 line:(apos.endLine == cpos.line)=true
 trees:backTo cpos (starEach [e,f] X.env)=[(false,eval e X.env),(false,eval f X.env)]
end
end L2
namespace Att
open PySem PySem.W PySem.Calls PyProof.Rows
theorem y2g {P:Params}{h:Heap}:∀(ns:List Int)(vs:List Value),WellAll P h vs (ns.map WData.int)->IntsAre vs ns:=by
 intro ns;induction ns with
 |nil =>
  intro vs w;rw[map_nil]at w;cases w;exact .nil
 |cons n ns ih =>
  intro vs w;rw[map_cons]at w;cases w with
  |cons a b =>
   cases a;exact .cons _ _ (ih _ b)
theorem x6m {l:OpenLaw}{n:Nat}(hn:l.most=some n){P:Params}{h:Heap}{args:List WData}{vals:List Value}
  (hpre:l.row.toRowW.claim.pre args=true)(hwl:WellAll P h vals args) :
  ∃a vs ns,vals=[Value.ref a]/\args=[WData.list (ns.map WData.int)]/\h.get? a=some { cls:=.type "list",data:=.seq vs.toArray }/\IntsAre vs ns/\ns.length<=n:=by
 have hsh:WShape.hasAll [] args [.list .int]=true:=(pre_splitW hpre).1;have hc:l.pre.holds [] { args:=args }=true:=(pre_splitW hpre).2;obtain⟨d,r,rfl,h1,h2⟩:=hasAllW_cons hsh;obtain rfl:=hasAllW_nil h2;obtain⟨xs,rfl,h3⟩:=hasW_list h1;obtain⟨ns,rfl⟩:=items_int h3;have hlen:ns.length<=n:=by
  unfold OpenLaw.pre at hc;have h4:(WTm.not (.lt (.lit (.int (n:Int))) (.len (.arg 0)))).holds [] { args:=[.list (ns.map .int)] }=true:=by
   have h4:=(holds_andW hc).1;rw[hn]at h4;exact h4
  have h5:=condW_of h4 (w_not (w_lt w_lit (w_len_list (w_arg rfl))));rw[length_map]at h5;refine Nat.le_of_not_lt fun q=>?_;have q':(n:Int)<((ns.length:Nat):Int):=by omega
  first
   |(rw[decide_eq_true q']at h5;exact absurd h5 (by decide))
   |(simp at h5;omega)
 cases hwl with
 |cons w1 w2 =>
  cases w2;cases w1 with
  |list ho hall=>exact⟨_,_,ns,rfl,rfl,ho,y2g ns _ hall,hlen⟩
theorem x7w (l:OpenLaw)(args:List WData):l.row.toRowW.claim.post args (.bool true) args=true :=
 postW_of (r:=l.row.toRowW) (X:=(true == true))
  (show WShape.has [] (.bool true) .bool=true by first|rfl|decide|simp[WShape.has,WShape.arms,WShape.armsAll])
  (show(WTm.eq .res (.lit (.bool true))).value [] { args:=args,res:=some (.bool true),after:=args }=some (.bool (true == true)) from w_eq_bool (w_res rfl) w_lit) rfl
theorem attach_call {l:OpenLaw}{n:Nat}{q:Program}{loose:List Str}{XP:(Str->Option Value)->Heap->Prop}{YP:World->Heap->Prop}{d:DefRec}
  (hn:l.most=some n)(hdf:d.params.defaults=[])
  (call:∀(w:World)(s₀ s₁:Shared)(mg mb:Str->Option Value)(fa:Addr)(o:Obj)(pm cd doc:Value)(a:Addr)(vs:List Value)(ns:List Int),
   Ground q loose [] XP w s₀ mg mb s₁.heap->YP w s₁.heap ->
   s₁.heap.get? fa=some o->o.data=.func (docDef d.name d.params d.body d.scope pm cd doc)->s₁.heap.CodeRec cd d.name->mg d.name=some (.ref fa) ->
   s₁.heap.get? a=some { cls:=.type "list",data:=.seq vs.toArray }->IntsAre vs ns->ns.length<=n->s₁.gens = #[] ->
   codeAny (model l.prog w) callerA (.call (.ref fa) ⟨[.ref a],[]⟩) (fun r s'=>r=.ok (.ret (.bool true))/\OldK s₁.heap s'.heap/\s'.os=s₁.os/\AllBare s'.gens) s₁) :
  WalkO q loose XP YP l.row.toRowW d [] (fun f vs=>PySem.call f vs):=by
 intro w s₀ s₁ mg mb G Y fa o pm cd doc dV kV ho hd hcd hD hmg hg args vals as hpre hlay hrd hwl hlo;obtain rfl:dV=.none:=Dflts.none hD hdf;obtain rfl:kV=.none:=Dflts.noKw hD;obtain⟨a,vs,ns,rfl,rfl,hobj,hints,hlen⟩:=x6m hn hpre hwl;refine enter_call (codeAny_mono (call w s₀ s₁ mg mb fa o pm cd doc a vs ns G Y ho (fd_plain hd) hcd hmg hobj hints hlen hg) fun r s' hq=>?_);obtain⟨rfl,h2,h3,h4⟩:=hq;exact⟨.inl ⟨.bool true,.bool true,[],rfl,fun _=>rfl,.bool true,x7w l _,fun _=>⟨List.Pairwise.nil,fun _ hm=>(nomatch hm)⟩⟩,h2,h3,h4⟩
end Att
namespace L2
open PySem PySem.Spec PyProof.Rows
theorem y6w:∀{vs:List Value}{ns:List Int},IntsAre vs ns->Vals (ns.map V.int) vs
 |_,_,.nil=>.nil
 |_,_,.cons n t h=>.cons ⟨t,rfl⟩ (y6w h)
def Only (H:Hp):Prop:=∀b,H b=none\/(∃o xs,H b=some (.frz o (.lst xs)))\/(H b=some .lam/\lamP=some b)
theorem q2r {P:Program}{w:World}{K:W.Frag}{mg mb:Str->Option Value}{CX:CXT}{k:Nat}{fa a:Addr}{fd:FuncData}{x:Str}{sp:Sp}{s₁:Shared}{vs:List Value}{ns:List Int}
  (KX:K.In s₁.heap)(hns:s₁.heap.Ns mainGlobals mg)(hb:s₁.heap.Ns builtinsNs mb)(hbb:∀x:Str,x ≠ "__name__"->mb x=bootBuiltins x)(hlim:s₁.heap.NoLimit)(hg:s₁.gens = #[])
  (hbm:∃bm ob,mg "__builtins__" = some (.ref bm)/\bm≠builtinsNs/\s₁.heap.get? bm=some ob/\ob.cls=.type "module"/\ob.dict=some builtinsNs/\ob.data=.plain)
  (hP:∀p,lamP=some p->s₁.heap.get? p=some { cls:=.none,data:=.fields #[] }/\K.lookup p=none/\∃c,W.CodeHd s₁.heap c p)
  (ha:s₁.heap.get? a=some { cls:=.type "list",data:=.seq vs.toArray })(hi:IntsAre vs ns)(hl:ns.length<=sizeLine)(hr:Room k callerA)
  (F:∀base:Heap,K.In base->base.Ns mainGlobals mg->FnOk P w K mg base CX k fa fd [x] sp)(hbind:∀(s:Shared)(u:Value),BindsTo s fd ⟨[u],[]⟩ [(x,u)])
  (hsp:∀H:Hp,Only H->SqL K H a (ns.map V.int)->sp [.ref a] H (fun v _=>v=.bl true) fun _ _ _=>False)
  (hCX:∀H e s',CX [] H s₁ (fun _ _ _=>False) e s'->False) :
  codeAny (model P w) callerA (.call (.ref fa) ⟨[.ref a],[]⟩) (fun r s'=>r=.ok (.ret (.bool true))/\OldK s₁.heap s'.heap/\s'.os=s₁.os/\AllBare s'.gens) s₁:=by
 have rv:=y6w hi;have lenV:=hi.length;have core:∀H:Hp,Only H->SqL K H a (ns.map V.int)->HOk P w H s₁.heap->(∀b,H b≠none->b=a\/lamP=some b)->(H a≠none->K.lookup a=none)->j0y H ->
   codeAny (model P w) callerA (.call (.ref fa) ⟨[.ref a],[]⟩) (fun r s'=>r=.ok (.ret (.bool true))/\OldK s₁.heap s'.heap/\s'.os=s₁.os/\AllBare s'.gens) s₁:=by
  intro H hO hS hok hA hK hL;have base_of:∀{b:Addr}{o:Obj},s₁.heap.get? b=some o->H b=none->(hidT s₁.heap H).get? b=some o:=fun e n=>q2t e n;have noA:∀{b:Addr}{o:Obj}{es:Array DictEntry}{ep:Nat},s₁.heap.get? b=some o->o.data=.dict es ep->H b=none:=fun {b o es ep} e d=>by
   cases q:H b with
   |none=>rfl
   |some u =>
    rcases hA b (by rw[q];simp) with e' | e'
    ·subst e';rw[ha]at e;cases e;have d':Data.seq vs.toArray _=Data.dict es ep:=d;cases d'
    ·rw[(hP b e').1]at e;cases e;cases d
  have noB:∀{b:Addr}{o:Obj},s₁.heap.get? b=some o->o.data=.plain->H b=none:=fun {b o} e d=>by
   cases q:H b with
   |none=>rfl
   |some u =>
    rcases hA b (by rw[q];simp) with e' | e'
    ·subst e';rw[ha]at e;cases e;have d':Data.seq vs.toArray _=Data.plain:=d;cases d'
    ·rw[(hP b e').1]at e;cases e;cases d
  have nsK:∀{b:Addr}{m:Str->Option Value},s₁.heap.Ns b m->(hidT s₁.heap H).Ns b m:=fun {b m} ⟨o,es,ep,e,d,r⟩=>⟨o,es,ep,base_of e (noA e d),d,r⟩;have hKb:K.In (hidT s₁.heap H):=fun b o e=>base_of (KX b o e) (by
   cases q:H b with
   |none=>rfl
   |some u =>
    rcases hA b (by rw[q];simp) with e' | e'
    ·subst e';rw[hK (by rw[q];simp)]at e;cases e
    ·rw[(hP b e').2.1]at e;cases e)
  have hM:Mod K mg (hidT s₁.heap H):=⟨hKb,nsK hns,⟨mb,nsK hb,hbb⟩,let ⟨mc,h1,h2⟩:=hlim;⟨mc,nsK h1,h2⟩,let ⟨bm,ob,b1,b2,b3,b4,b5,b6⟩:=hbm;⟨bm,ob,b1,b2,base_of b3 (noB b3 b6),b4,b5,b6⟩⟩;have e0:Env0 P w K mg (hidT s₁.heap H) callerA [] s₁ H:=⟨rfl,hM,fun b o e=>j0f e,le_of_eq (x5r _ _),trivial,fun b hb=>absurd (show b∈([]:List Addr) from hb) (by simp),hL,hok,.of_eq hg⟩;refine codeAny_mono ((F _ hKb (nsK hns)).run callerA [] s₁ H ⟨[.ref a],[]⟩ [.ref a] [.ref a] _ _ hr e0 (hbind s₁ (.ref a)) (.cons rfl .nil) (hsp H hO hS)) fun r s' h=>?_;cases r with
  |error e=>exact(hCX H e s' h).elim
  |ok fl =>
   cases fl with
   |next=>exact False.elim h
   |brk=>exact False.elim h
   |cont=>exact False.elim h
   |ret u =>
    obtain⟨v,H',os,bare,un,hok',r',q⟩:=h;have q':v=.bl true:=q;subst q';obtain rfl:u=Value.bool true:=r';refine⟨rfl,⟨fun b o e=>?_,fun b o e=>un.there b o e (by simp)⟩,os,bare⟩;cases q:H b with
    |none=>exact .inl (un.keep b o e q (by intro z;exact absurd (show b∈([]:List Addr) from z) (by simp)) (by simp))
    |some u =>
     rcases hO b with z|⟨ob,xs,z⟩|⟨z,zp⟩
     ·rw[q]at z;cases z
     ·have z2:=un.frzs b ob _ z;obtain⟨e1,_⟩:=hok b _ z;obtain⟨e2,_⟩:=hok' b _ z2;rw[e]at e1;cases e1;exact .inl e2
     ·obtain⟨ps,e2,_⟩:=hok' b _ (un.tbls b z);obtain⟨e1,_,c,C⟩:=hP b zp;have ht:=C.tab e1;rw[e1]at e;cases e;exact .inr (.inl ⟨ht.isCodeTable,rfl,#[],ps,rfl,by simpa using e2⟩)
 have naP:∀b,lamP=some b->b≠a:=fun b e z=>by subst z;have:=(hP b e).1;rw[ha]at this;cases this
 cases hk:K.lookup a with
 |some o =>
  have e:=KX a o hk;rw[ha]at e;cases e;refine core (fun b=>if lamP=some b then some .lam else none) (fun b=>?_) (.inr ⟨_,vs.toArray,_,hk,rfl,rfl,rfl,by rw[size_toArray,lenV];exact hl,by simpa using rv⟩) (fun b u z=>?_) (fun b z=>?_) (fun z=>?_) (fun p e=>if_pos e)
  ·by_cases hb:lamP=some b
   ·exact .inr (.inr ⟨if_pos hb,hb⟩)
   ·exact .inl (if_neg hb)
  ·by_cases hb:lamP=some b
   ·have z':=(if_pos hb).symm.trans z;cases z';exact⟨#[],(hP b hb).1,.inl rfl⟩
   ·have z':=(if_neg hb).symm.trans z;cases z'
  ·by_cases hb:lamP=some b
   ·exact .inr hb
   ·exact absurd (if_neg hb) z
  ·by_cases hb:lamP=some a
   ·exact absurd rfl (naP a hb)
   ·exact absurd (if_neg hb) z
 |none =>
  refine core (fun b=>if b=a then some (.frz { cls:=.type "list",data:=.seq vs.toArray } (.lst (ns.map V.int))) else if lamP=some b then some .lam else none) (fun b=>?_) (.inl (.inr ⟨{ cls:=.type "list",data:=.seq vs.toArray },if_pos rfl⟩)) (fun b u z=>?_) (fun b z=>?_) (fun _=>hk) (fun p e=>?_)
  ·by_cases hb:b=a
   ·exact .inr (.inl ⟨_,_,if_pos hb⟩)
   ·by_cases hp:lamP=some b
    ·exact .inr (.inr ⟨(if_neg hb).trans (if_pos hp),hp⟩)
    ·exact .inl ((if_neg hb).trans (if_neg hp))
  ·by_cases hb:b=a
   ·have z':=(if_pos hb).symm.trans z;cases z';subst hb;exact⟨ha,by rw[length_map];exact hl,vs,_,rv,ha⟩
   ·by_cases hp:lamP=some b
    ·have z':=((if_neg hb).trans (if_pos hp)).symm.trans z;cases z';exact⟨#[],(hP b hp).1,.inl rfl⟩
    ·have z':=((if_neg hb).trans (if_neg hp)).symm.trans z;cases z'
  ·by_cases hb:b=a
   ·exact .inl hb
   ·by_cases hp:lamP=some b
    ·exact .inr hp
    ·exact absurd ((if_neg hb).trans (if_neg hp)) z
  ·exact(if_neg (naP p e)).trans (if_pos e)
theorem q9o {l:W.OpenLaw}{n k:Nat}{q:Program}{loose:List Str}{XP:(Str->Option Value)->Heap->Prop}{YP:World->Heap->Prop}{d:DefRec}{K:Params->W.Frag}{CX:World->CXT}{sp:World->Sp}{x:Str}
  (hn:l.most=some n)(hn2:n<=sizeLine)(hdf:d.params.defaults=[])(hr:Room k callerA)
  (hY:∀(w:World)(h:Heap),YP w h->(K w.params).In h)
  (hY2:∀(w:World)(h:Heap),YP w h->∀p,lamP=some p->h.get? p=some { cls:=.none,data:=.fields #[] }/\(K w.params).lookup p=none/\∃c,W.CodeHd h c p)
  (F:∀(w:World)(mg:Str->Option Value)(fa:Addr)(h:Heap),(K w.params).In h->h.Ns mainGlobals mg->mg d.name=some (.ref fa) ->
   ∃fd:FuncData,(∀(s:Shared)(u:Value),BindsTo s fd ⟨[u],[]⟩ [(x,u)]) /\
    ∀base:Heap,(K w.params).In base->base.Ns mainGlobals mg->FnOk l.prog w (K w.params) mg base (CX w) k fa fd [x] (sp w))
  (hsp:∀(w:World)(H:Hp)(a:Addr)(ns:List Int),ns.length<=n->Only H->SqL (K w.params) H a (ns.map V.int)->sp w [.ref a] H (fun v _=>v=.bl true) fun _ _ _=>False)
  (hCX:∀(w:World)(H:Hp)(s:Shared)(e:Value)(s':Shared),CX w [] H s (fun _ _ _=>False) e s'->False) :
  W.WalkO q loose XP YP l.row.toRowW d [] (fun f vs=>PySem.call f vs):=by
 refine Att.attach_call hn hdf fun w s₀ s₁ mg mb fa o pm cd doc a vs ns G Y ho hd hcd hmg hobj hints hlen hg=>?_;have KX:=hY w _ Y;obtain⟨fd,hb,hF⟩:=F w mg fa _ KX G.T.g hmg;exact q2r KX G.T.g G.T.b G.T.builtins G.T.nolimit hg G.T.bmain (hY2 w _ Y) hobj hints (le_trans hlen hn2) hr hF hb (fun H hO hS=>hsp w H a ns hlen hO hS) fun H e s'=>hCX w H s₁ e s'
theorem q2c {l:W.OpenLaw}{n k:Nat}{q:Program}{loose:List Str}{XP:(Str->Option Value)->Heap->Prop}{YP:World->Heap->Prop}{d:DefRec}{K:Params->W.Frag}{CX:CXT}{sp:W.Frag->Sp}{x:Str}
  (hn:l.most=some n)(hn2:n<=sizeLine)(hdf:d.params.defaults=[])(hr:Room k callerA)
  (hY:∀(w:World)(h:Heap),YP w h->(K w.params).In h)
  (hY2:∀(w:World)(h:Heap),YP w h->∀p,lamP=some p->h.get? p=some { cls:=.none,data:=.fields #[] }/\(K w.params).lookup p=none/\∃c,W.CodeHd h c p)
  (F:∀(w:World)(mg:Str->Option Value)(fa:Addr)(h:Heap),(K w.params).In h->h.Ns mainGlobals mg->mg d.name=some (.ref fa) ->
   ∃fd:FuncData,(∀(s:Shared)(u:Value),BindsTo s fd ⟨[u],[]⟩ [(x,u)]) /\
    ∀base:Heap,(K w.params).In base->base.Ns mainGlobals mg->FnOk l.prog w (K w.params) mg base CX k fa fd [x] (sp (K w.params)))
  (hsp:∀(K:W.Frag)(H:Hp)(a:Addr)(ns:List Int),ns.length<=n->Only H->SqL K H a (ns.map V.int)->sp K [.ref a] H (fun v _=>v=.bl true) fun _ _ _=>False)
  (hCX:∀(H:Hp)(s:Shared)(e:Value)(s':Shared),CX [] H s (fun _ _ _=>False) e s'->False) :
  W.WalkO q loose XP YP l.row.toRowW d [] (fun f vs=>PySem.call f vs) :=
 q9o (K:=K) (CX:=fun _=>CX) (sp:=fun w=>sp (K w.params)) hn hn2 hdf hr hY hY2 F (fun w H a ns h1 h2 h3=>hsp (K w.params) H a ns h1 h2 h3) fun _ H s e s'=>hCX H s e s'
noncomputable def x0b (s:Stmt)(j:Nat):Stmt:=match s with
 |.ClassDef _ _ _ body _ _ _ _ _ _ _=>body.getD j (.Pass ⟨0,0,0,0⟩)
 |_=>.Pass ⟨0,0,0,0⟩
def z4t (s:Stmt):Arguments:=match s with
 |.FunctionDef _ a _ _ _ _ _ _ _ _=>a
 |_=>{ posonlyargs:=[],args:=[],vararg:=none,kwonlyargs:=[],kw_defaults:=[],kwarg:=none,defaults:=[] }
noncomputable def z2o (s:Stmt):List Stmt:=match s with
 |.FunctionDef _ _ b _ _ _ _ _ _ _=>b
 |_=>[]
noncomputable def z0f (s:Stmt):Scope:=match s with
 |.FunctionDef _ _ _ _ _ _ sc _ _ _=>sc
 |_=>{ kind:=.function,names:=[],isGenerator:=false,isCoroutine:=false }
abbrev CX0:CXT:=fun _ _ _ _ _ _=>False
abbrev E0:XK:=fun _ _ _=>False
theorem x9b {X:Cx}:y0j CX0 X E0:=fun _ _ _ _ _ _ _ h=>h.elim
structure Fun (K:W.Frag)(x qual:Str)(st:Stmt)(f:Addr)(fd:FuncData):Prop where
 ex:∃(oc:Value)(od:Option Addr)(kV doc pm:Value)(an:Option Addr)(cdv ct:Value)(osl:Array (Option Value)),
  fd=fnOf x qual (z4t st) (z2o st) (z0f st) .none kV doc pm an cdv ct/\K.lookup f=some ⟨oc,od,.func fd,osl⟩/\codeIn K cdv qual=true
 kp:keepIn K (.ref f)=true
section
variable {P:Program}{w:World}{K:W.Frag}{mg:Str->Option Value}{base:Heap}
theorem Fun.ok {x qual:Str}{st:Stmt}{f:Addr}{fd:FuncData}{N ps:List Str}{k:Nat}{sp:Sp}(F:Fun K x qual st f fd)(S:FnScope N ps (z0f st))(len:∀vs H Q E,sp vs H Q E->vs.length=ps.length)
  (hbody:∀(cdv:Value)(A:Around)(outer:List Env)(s:Shared)(H:Hp)(vs:List V)(Q:VK)(E:XK),Room k (A.deeper (envOfC qual (z0f st) s.heap.objs.size f cdv))->sp vs H Q E ->
   ∃t,PSs (cxOf CX0 P w K mg base N qual (z0f st) f cdv A outer s H E).nox (z2o st) t/\t { nx:=fun _ H'=>Q .non H',rt:=Q } (start N vs) H):FnOk P w K mg base CX0 (k+1) f fd ps sp:=by
 obtain⟨oc,od,kV,doc,pm,an,cdv,ct,osl,rfl,lk,hcd⟩:=F.ex;refine q8u lk hcd S len fun A outer s H vs Q E hr hsp=>?_;obtain⟨t,h,q⟩:=hbody cdv A outer s H vs Q E hr hsp;exact⟨t,h.nox,q⟩
theorem Fun.binds {x qual:Str}{st:Stmt}{f:Addr}{fd:FuncData}{ps:List Str}(F:Fun K x qual st f fd)
  (h:∀(kV doc pm:Value)(an:Option Addr)(cdv ct:Value)(us:List Value),us.length=ps.length->bindArgs (fnOf x qual (z4t st) (z2o st) (z0f st) .none kV doc pm an cdv ct) ⟨us,[]⟩=pure (ps.zip us)):Binds K fd ps []:=by
 obtain⟨oc,od,kV,doc,pm,an,cdv,ct,osl,rfl,lk,hcd⟩:=F.ex;exact .all (h kV doc pm an cdv ct)
theorem y7j {x qual:Str}{st:Stmt}{f:Addr}{oc:Value}{od an:Option Addr}{osl:Array (Option Value)}{kV doc pm cdv ct:Value}(l:K.lookup f=some ⟨oc,od,.func (fnOf x qual (z4t st) (z2o st) (z0f st) .none kV doc pm an cdv ct),osl⟩)
  (c:codeIn K cdv qual=true)(k:keepIn K (.ref f)=true):Fun K x qual st f (fnOf x qual (z4t st) (z2o st) (z0f st) .none kV doc pm an cdv ct):=⟨⟨oc,od,kV,doc,pm,an,cdv,ct,osl,rfl,l,c⟩,k⟩
variable {X:Cx}
theorem pv (i:Nat){x:Str}{pos:Pos}(hN:X.N[i]? = some x:=by rfl)(hv:Vis X.env.scope x:=by first|exact Or.inl rfl|exact Or.inr (Or.inl rfl)|exact Or.inr (Or.inr rfl))(hd:(x == ("__debug__":Str))=false:=by decide)
  (hcd:(x == ("__classdict__":Str))=false:=by decide):PE X (.Name x pos) (tVar i):=y2n hN hv hd hcd
theorem iteF {A B:Prop}(h:B):if false=true then A else B:=by
 rw[if_neg Bool.false_ne_true];exact h
theorem iteT {A B:Prop}(h:A):if true=true then A else B:=by
 rw[if_pos rfl];exact h
theorem ite2 {c A B:Prop}[Decidable c](h1:c->A)(h2:¬c->B):if c then A else B:=by
 by_cases h:c
 ·rw[if_pos h];exact h1 h
 ·rw[if_neg h];exact h2 h
def Same (H H':Hp):Prop:=∀b o,H b=some o->H' b=some o
theorem Same.refl (H:Hp):Same H H:=fun _ _ h=>h
theorem Same.trans {H H1 H2:Hp}(a:Same H H1)(b:Same H1 H2):Same H H2:=fun c o h=>b c o (a c o h)
theorem Same.free {H H':Hp}(e:Same H H'){l:Addr}(h:H' l=Option.none):H l=Option.none:=by
 cases q:H l with
 |none=>rfl
 |some o =>
  rw[e l o q]at h;cases h
theorem Same.seq {K:W.Frag}{H H':Hp}{a:Addr}{xs:List V}(e:Same H H')(h:SqL K H a xs):SqL K H' a xs:=by
 rcases h with (h|⟨o,h⟩)|h
 ·exact .inl (.inl (e _ _ h))
 ·exact .inl (.inr ⟨o,e _ _ h⟩)
 ·exact .inr h
theorem z2g:OpR X (binaryOp .FloorDiv) (rI (fun _ j=>0<j/\j.natAbs.log2<9000) fun i j=>.int (i / j)):=opI fun i j _ _ _ _ _ hc q=>by
 have h1:(0:Int)<j:=hc.1;exact floordiv_int (by omega) (by rw[Int.fdiv_eq_ediv_of_nonneg i (by omega)];exact q) (.inl (PyProof.noPylong_of_log2 hc.2))
theorem z2x {K:W.Frag}(hK:X.K=K):z8i X (.builtin "isinstance") (fun xs H Q=>∃x T t b,xs=[x,.ty T]/\TyOf K H x t/\kitOne K t (.type T)=some b/\Q (.bl b) H):=by
 subst hK;intro pins s σ H xs us Q I r h;obtain⟨x,T,t,b,rfl,ty,e,q⟩:=h;obtain⟨u,w',rfl,rx,rt⟩:=q8x r;cases(show w' = Value.type T from rt);exact x5g I rx ty e fun tk=>⟨.bl b,H,I.tok tk,rfl,q⟩
def z7v:List (Str×NameKind)->List (Str×Addr)->List (Str×Addr)->List (Str×Addr)
 | [],_,cs=>cs
 |(n,k)::r,cells,cs=>z7v r cells (if k == .free then(n,(cells.lookup n).getD 0)::cs else cs)
def y0l (env:Env)(x:Str×NameKind)(r:List (Str×Addr)):Sem (ForInStep (List (Str×Addr))) :=
 if (x.2 == NameKind.free)=true then cellOf env x.1 >>= fun a=>pure (ForInStep.yield ((x.1,a)::r)) else pure (ForInStep.yield r)
theorem z8x {scope:Scope}{env:Env}(h:∀y∈scope.names,y.2=.free->∃c,env.cells.lookup y.1=some c):closureFor scope env=pure (z7v scope.names env.cells []):=by
 have key:∀(l:List (Str×NameKind))(cs:List (Str×Addr)),(∀y∈l,y.2=.free->∃c,env.cells.lookup y.1=some c)->(forIn l cs (y0l env):Sem (List (Str×Addr)))=pure (z7v l env.cells cs):=by
  intro l;induction l with
  |nil=>intro cs _;rfl
  |cons y r ih =>
   intro cs hl;obtain⟨n,k⟩:=y;rw[List.forIn_cons];by_cases hk:(k == NameKind.free)=true
   ·obtain⟨c,hc⟩:=hl (n,k) mem_cons_self (by simpa using hk);have hc':env.cells.lookup n=some c:=hc;have e:y0l env (n,k) cs=pure (ForInStep.yield ((n,c)::cs)):=by simp only[y0l,hk,if_true,cellOf,hc',pure_bind]
    rw[e,pure_bind];show forIn r ((n,c)::cs) (y0l env)=_;rw[ih _ fun y hy=>hl y (mem_cons_of_mem _ hy)];simp[z7v,hk,hc']
   ·have e:y0l env (n,k) cs=pure (ForInStep.yield cs):=by simp only[y0l,hk,if_false];rfl
    rw[e,pure_bind];show forIn r cs (y0l env)=_;rw[ih _ fun y hy=>hl y (mem_cons_of_mem _ hy)];simp[z7v,hk]
 have e0:closureFor scope env=(forIn scope.names [] (y0l env):Sem (List (Str×Addr))) >>= fun cs=>pure cs:=by rfl
 rw[e0,key _ _ h,pure_bind]
theorem y0n {cells:List (Str×Addr)}{y:Str}{c:Addr}:∀(l:List (Str×NameKind))(cs:List (Str×Addr)),(∀z∈l,z.2=.free->∃c,cells.lookup z.1=some c)->(cs.lookup y=some c->cells.lookup y=some c) ->
  (z7v l cells cs).lookup y=some c->cells.lookup y=some c
 | [],cs,_,h,e=>h e
 |(n,k)::r,cs,hl,h,e=>by
  refine y0n r _ (fun z hz=>hl z (mem_cons_of_mem _ hz)) (fun e'=>?_) e;by_cases hk:(k == NameKind.free)=true
  ·rw[if_pos hk]at e';obtain⟨c',hc⟩:=hl (n,k) mem_cons_self (by simpa using hk);have hc':cells.lookup n=some c':=hc;rw[lookup_cons,hc']at e';by_cases hy:(y == n)=true
   ·simp only[hy]at e';rw[eq_of_beq hy,hc'];exact e'
   ·simp only[hy]at e';exact h e'
  ·rw[if_neg hk]at e';exact h e'
theorem y1s {cells:List (Str×Addr)}{y:Str}:∀(l:List (Str×NameKind))(cs:List (Str×Addr)),(y,NameKind.free)∈l\/(cs.lookup y).isSome=true->((z7v l cells cs).lookup y).isSome=true
 | [],cs,h=>by
  rcases h with h|h
  ·cases h
  ·exact h
 |(n,k)::r,cs,h=>by
  refine y1s r _ ?_;rcases h with h|h
  ·rcases mem_cons.mp h with h|h
   ·cases h;refine .inr ?_;simp
   ·exact .inl h
  ·refine .inr ?_;by_cases hk:(k == NameKind.free)=true
   ·rw[if_pos hk,lookup_cons];cases hy:y == n
    ·exact h
    ·rfl
   ·rw[if_neg hk];exact h
theorem z5t {y:Str}{k:NameKind}:∀{l:List (Str×NameKind)},l.lookup y=some k->(y,k)∈l
 | [],h=>by cases h
 |(n,k')::r,h=>by
  rw[lookup_cons]at h;cases hy:y == n
  ·rw[hy]at h;exact mem_cons_of_mem _ (z5t h)
  ·rw[hy]at h;cases h;rw[eq_of_beq hy];exact mem_cons_self
theorem z8k {scope:Scope}{env:Env}{y:Str}{k:NameKind}(h:(relabel scope env).names.lookup y=some k):scope.names.lookup y=some k\/(k=.cell/\scope.names.lookup y=some .free):=by
 have key:∀l:List (Str×NameKind),(l.map fun(n,k)=>if (k == NameKind.free&&env.scope.kind == .function&&env.kindOf n == some .cell) then(n,NameKind.cell) else(n,k)).lookup y=some k->l.lookup y=some k\/(k=.cell/\l.lookup y=some .free):=by
  intro l;induction l with
  |nil=>intro h;simp at h
  |cons z r ih =>
   obtain⟨n,k'⟩:=z;intro h;rw[map_cons]at h;rw[lookup_cons];by_cases hc:(k' == NameKind.free&&env.scope.kind == .function&&env.kindOf n == some .cell)=true
   ·have e:(match (n,k') with|(n,k)=>if (k == NameKind.free&&env.scope.kind == .function&&env.kindOf n == some .cell)=true then(n,NameKind.cell) else(n,k))=(n,NameKind.cell):=by simp only[hc,if_true]
    rw[e,lookup_cons]at h;cases hy:y == n
    ·rw[hy]at h;exact ih h
    ·rw[hy]at h;have hk:k' = .free:=by simp at hc;exact hc.1.1
     cases h;exact .inr ⟨rfl,by rw[hk]⟩
   ·have e:(match (n,k') with|(n,k)=>if (k == NameKind.free&&env.scope.kind == .function&&env.kindOf n == some .cell)=true then(n,NameKind.cell) else(n,k))=(n,k'):=by simp only[hc,if_false];rfl
    rw[e,lookup_cons]at h;cases hy:y == n
    ·rw[hy]at h;exact ih h
    ·rw[hy]at h;exact .inl h
 exact key _ h
theorem y7u {scope:Scope}{env:Env}{y:Str}(h:scope.names.lookup y=some .free):(relabel scope env).names.lookup y=some .cell\/(relabel scope env).names.lookup y=some .free:=by
 have key:∀l:List (Str×NameKind),l.lookup y=some .free->(l.map fun(n,k)=>if (k == NameKind.free&&env.scope.kind == .function&&env.kindOf n == some .cell) then(n,NameKind.cell) else(n,k)).lookup y=some .cell \/
  (l.map fun(n,k)=>if (k == NameKind.free&&env.scope.kind == .function&&env.kindOf n == some .cell) then(n,NameKind.cell) else(n,k)).lookup y=some .free:=by
  intro l;induction l with
  |nil=>intro h;simp at h
  |cons z r ih =>
   obtain⟨n,k'⟩:=z;intro h;rw[lookup_cons]at h;rw[map_cons];cases hy:y == n
   ·rw[hy]at h;rcases ih h with q|q
    ·left;rw[lookup_cons];split
     ·rename_i hb;split at hb<;>(simp only at hb;rw[hy]at hb;cases hb)
     ·exact q
    ·right;rw[lookup_cons];split
     ·rename_i hb;split at hb<;>(simp only at hb;rw[hy]at hb;cases hb)
     ·exact q
   ·rw[hy]at h;cases h;by_cases hc:(NameKind.free == NameKind.free&&env.scope.kind == .function&&env.kindOf n == some .cell)=true
    ·left;simp only[hc,if_true,lookup_cons,hy]
    ·right;show List.lookup y ((if (NameKind.free == NameKind.free&&env.scope.kind == .function&&env.kindOf n == some .cell)=true then(n,NameKind.cell) else(n,NameKind.free))::_)=_;rw[if_neg hc,lookup_cons,hy]
 exact key _ h
def PF (X:Cx)(ifs:List Expr)(t:TT):Prop :=
 ∀(pins:List (Addr×Obj))(s:Shared)(σ:St)(H:Hp)(Q:Bool->Hp->Prop),Inv X pins σ H s->t σ H Q ->
  wpAny (model X.prog X.w) X.A (forIn ifs true fun c r=>if r=true then do let ok <-isTrue c X.env (eval c X.env);pure (ForInStep.yield ok) else pure (ForInStep.yield r)) (TP X pins σ Q) X.xe s
def tYes:TT:=fun _ H Q=>Q true H
theorem j5f {X:Cx}:PF X [] tYes:=fun _ _ _ H _ I h=>wpAny_pure ⟨H,I,h⟩
theorem j4c {X:Cx}{c:Expr}{t:TT}(h:PT X c t):PF X [c] t:=fun pins s σ H Q I q=>wpAny_tests_one (h pins s σ H Q I q)
def z3x (X:Cx)(scope:Scope)(N:List Str)(pins:List (Addr×Obj))(ex:List Addr)(H₀:Hp)(s₀:Shared)(C:Addr):Cx :=
 { X with N:=N,s₀:=s₀,H₀:=H₀,env:=compEnvC scope (z7v scope.names X.env.cells []) C X.env,outer:=X.stack,stack:=X.stack,ex:=ex,fn:=fun _=>false,pn:=X.pn++pins,xe:=fun _ _=>False }
noncomputable def namesOk (sc:Scope):List Str->List Str->Bool
 | [],[]=>true
 |n::N,m::M=>(sc.names.lookup m == none||(m == n&&sc.names.lookup m == some .free))&&namesOk sc N M
 |_,_=>false
theorem namesOk.get {sc:Scope}:∀{N M:List Str},namesOk sc N M=true->N.length=M.length/\∀(i:Nat)(y:Str),M[i]? = some y->sc.names.lookup y=none\/(N[i]? = some y/\sc.names.lookup y=some .free)
 | [],[],_=>⟨rfl,fun i y h=>by simp at h⟩
 |n::N,m::M,h=>by
  rw[namesOk,and_eq_true]at h;obtain⟨h1,h2⟩:=h;obtain⟨l,ih⟩:=namesOk.get h2;refine⟨by simp[l],fun i y e=>?_⟩;cases i with
  |zero =>
   have e':m=y:=by simpa using e
   subst e';rcases(or_eq_true _ _).mp h1 with h|h
   ·exact .inl (by simpa using h)
   ·obtain⟨h3,h4⟩:=(and_eq_true _ _).mp h;exact .inr ⟨by rw[eq_of_beq h3];rfl,by simpa using h4⟩
  |succ i=>simpa using ih i y (by simpa using e)
 | [],_::_,h=>by cases h
 |_::_,[],h=>by cases h
structure CScope (osc:Scope)(N:List Str)(x:Str)(sc:Scope)(M:List Str):Prop where
 kind:sc.kind=.function
 cell:∀y∈sc.names,y.2≠.cell
 names:∀y∈sc.names,y.2=.local->sc.names.lookup y.1=some .local
 hx:sc.names.lookup x=some .local
 free:∀y∈sc.names,y.2=.free->osc.names.lookup y.1=some .cell\/osc.names.lookup y.1=some .free
 nd:(x::M).Nodup
 ok:namesOk sc N M=true
inductive EqT (H:Hp):Nat->V->V->Prop
 |int {n:Nat}(i:Int):EqT H n (.int i) (.int i)
 |str {n:Nat}(x:Str):EqT H n (.str x) (.str x)
 |lst {n:Nat}{a b:Addr}{xs ys:List V}(ha:H a=some (.lst xs)) (hb:H b=some (.lst ys)) (hl:xs.length=ys.length) (h:∀(i:Nat) x y,xs[i]? = some x->ys[i]? = some y->EqT H n x y):EqT H (n+1) (.ref a) (.ref b)
 |tup {n:Nat}{a b:Addr}{xs ys:List V}(ha:H a=some (.tup xs)) (hb:H b=some (.tup ys)) (hl:xs.length=ys.length) (h:∀(i:Nat) x y,xs[i]? = some x->ys[i]? = some y->EqT H n x y):EqT H (n+1) (.ref a) (.ref b)
theorem y5p (n:Nat):(range n).all (fun _=>true)=true:=by simp
theorem EqT.items {X:Cx}{H:Hp}{n:Nat}{A:Around}{s:Shared}{xs ys:List V}{us ws:List Value}(r1:Vals xs us)(r2:Vals ys ws)(hl:xs.length=ys.length)
  (ih:∀(i:Nat) x y,xs[i]? = some x->ys[i]? = some y->∀{v' u':Value},RelV x v'->RelV y u'->SeqAt.EqAt A.in1 s v' u' true)(j:Nat)(h1:j<us.toArray.size)(h2:j<ws.toArray.size):SeqAt.EqAt A.in1 s us.toArray[j] ws.toArray[j] true:=by
 have l1:=r1.length;have l2:=r2.length;have hj:j<xs.length:=by simpa[l1] using h1
 have hj2:j<ys.length:=by omega
 obtain⟨u,e1,q1⟩:=r1.get (i:=j) (x:=xs[j]) (by simp[hj]);obtain⟨w',e2,q2⟩:=r2.get (i:=j) (x:=ys[j]) (by simp[hj2]);have z1:us.toArray[j]=u:=by
  have:us[j]? = some (us.toArray[j]):=by simp at h1;simp[h1]
  rw[this]at e1;exact Option.some.inj e1
 have z2:ws.toArray[j]=w':=by
  have:ws[j]? = some (ws.toArray[j]):=by simp at h2;simp[h2]
  rw[this]at e2;exact Option.some.inj e2
 rw[z1,z2];exact ih j xs[j] ys[j] (by simp[hj]) (by simp[hj2]) q1 q2
theorem EqT.at {X:Cx}{pins:List (Addr×Obj)}{σ:St}{H:Hp}{s:Shared}(I:Inv X pins σ H s){n:Nat}{v u:V}(h:EqT H n v u):∀{A:Around}{v' u':Value},RelV v v'->RelV u u'->A.units+n<cLine->SeqAt.EqAt A s v' u' true:=by
 induction h with
 |int i =>
  intro A v' u' r1 r2 _;obtain⟨t,rfl⟩:=r1;obtain⟨t',rfl⟩:=r2;have q:=SeqAt.EqAt.int_int (A:=A) (s:=s) i t i t';rw[beq_self_eq_true]at q;exact q
 |str x =>
  intro A v' u' r1 r2 _;obtain⟨t,rfl⟩:=r1;obtain⟨t',rfl⟩:=r2;have q:=SeqAt.EqAt.str_str (A:=A) (s:=s) x t x t';rw[beq_self_eq_true]at q;exact q
 | @lst n a b xs ys ha hb hl h ih =>
  intro A v' u' r1 r2 hu;cases r1;cases r2;by_cases hab:a=b
  ·subst hab;exact SeqAt.EqAt.same _
  ·obtain⟨us,ru,pu,_⟩:=I.list (SqL.of ha);obtain⟨ws,rw',pw,_⟩:=I.list (SqL.of hb);have q:=SeqAt.RcAt.lists (A:=A) (e:=fun _=>true) pu.isList pw.isList (by simp[<-ru.length,<-rw'.length,hl]) (by omega) (fun j h1 h2=>EqT.items (X:=X) (H:=H) (n:=n) ru rw' hl (fun i x y e1 e2 _ _ q1 q2=>ih i x y e1 e2 q1 q2 (by show A.units+1+n<cLine;omega)) j h1 h2);rw[y5p]at q;exact SeqAt.EqAt.of_refs hab q
 | @tup n a b xs ys ha hb hl h ih =>
  intro A v' u' r1 r2 hu;cases r1;cases r2;by_cases hab:a=b
  ·subst hab;exact SeqAt.EqAt.same _
  ·obtain⟨us,ru,pu,_⟩:=I.tuple (SqT.of ha);obtain⟨ws,rw',pw,_⟩:=I.tuple (SqT.of hb);have q:=SeqAt.RcAt.tuples (A:=A) (e:=fun _=>true) (show s.heap.IsTuple a us.toArray from pu) (show s.heap.IsTuple b ws.toArray from pw) (by omega) (fun j h1 h2=>EqT.items (X:=X) (H:=H) (n:=n) ru rw' hl (fun i x y e1 e2 _ _ q1 q2=>ih i x y e1 e2 q1 q2 (by show A.units+1+n<cLine;omega)) j h1 h2);have e:us.toArray.size=ws.toArray.size:=by simp[<-ru.length,<-rw'.length,hl]
   rw[y5p,e,beq_self_eq_true,Bool.true_and]at q;exact SeqAt.EqAt.of_refs hab q
theorem x3j {X:Cx}:OpR X (compareOp .Eq) (fun x y H Q=>∃n a b xs ys,x=.ref a/\y=.ref b/\H a=some (.lst xs)/\H b=some (.lst ys)/\xs.length=ys.length/\(∀(i:Nat) x y,xs[i]? = some x->ys[i]? = some y->EqT H n x y)/\X.A.units+n+1<cLine/\Q (.bl true) H):=by
 intro pins s σ H x y v u Q I rx ry h;obtain⟨n,a,b,xs,ys,rfl,rfl,ha,hb,hl,h,hu,q⟩:=h;cases rx;cases ry;obtain⟨us,ru,pu,_⟩:=I.list (SqL.of ha);obtain⟨ws,rw',pw,_⟩:=I.list (SqL.of hb);refine SeqAt.eq_listAt (e:=fun _=>true) pu.isList pw.isList (by simp[<-ru.length,<-rw'.length,hl]) (by omega) (fun j h1 h2=>EqT.items (X:=X) (H:=H) (n:=n) ru rw' hl (fun i x y e1 e2 _ _ q1 q2=>(h i x y e1 e2).at I q1 q2 (by show X.A.units+1+n<cLine;omega)) j h1 h2) ?_;rw[y5p];exact⟨.bl true,H,I,rfl,q⟩
def j5u (K:PySem.W.Frag)(a:Addr)(g:TG)(tb:TS)(D:Ends)(σ:St)(H:Hp):Prop:=∃W:Nat->Nat->St->Hp->Prop,(∃m,W 0 m σ H)/\∀i m σ H,W i m σ H ->
 ((Itl K a).stop i H/\D.nx σ H)\/((Itl K a).go i H/\∃N:St->Hp->Prop,(∀σ' H',N σ' H'->∃m',m' < m/\W (i+1) m' σ' H')/\∀x H',(Itl K a).yld i H x H'->g x σ H' fun σ2 H2=>tb { D with nx:=N,ct:=N,bk:=D.nx } σ2 H2)
theorem z8b {K:W.Frag}{tl:TE}{g:TG}{tb:TS}{D:Ends}{σ:St}{H:Hp}:tFor (j4k K tl) g tb D σ H=tl σ H fun x H1=>∃a,x=.ref a/\(∃xs,SqL K H1 a xs)/\j5u K a g tb D σ H1:=rfl
theorem q1k {K:W.Frag}{a:Addr}{xs:List V}{g:TG}{tb:TS}{D:Ends}{σ:St}{H:Hp}(Pv:Nat->St->Hp->Prop)(h0:Pv 0 σ H)(hl:∀i σ H,i<=xs.length->Pv i σ H->SqL K H a xs)
  (hs:∀i x σ H,xs[i]? = some x->Pv i σ H->g x σ H fun σ2 H2=>tb { D with nx:=Pv (i+1),ct:=Pv (i+1),bk:=D.nx } σ2 H2)(hd:∀σ H,Pv xs.length σ H->D.nx σ H):j5u K a g tb D σ H:=q0y Pv h0 hl hs hd
theorem Same.upd {H H':Hp}{a:Addr}{o:HO}(s:Same H H')(h:H a=none):Same H (upd H' a o):=fun b u e=>by
 rw[z0j (z0s e h)];exact s b u e
theorem Same.of_new {H:Hp}{a:Addr}{o:HO}(h:H a=none):Same H (L2.upd H a o):=(Same.refl H).upd h
theorem z8d {CX:CXT}{P:Program}{w:World}{K:W.Frag}{mg:Str->Option Value}{base:Heap}{N:List Str}{qual:Str}{scope:Scope}{f:Addr}{cd:Value}{A:Around}{outer:List Env}{s:Shared}{H:Hp}{E:XK}:(cxOf CX P w K mg base N qual scope f cd A outer s H E).K=K:=rfl
theorem z7z {CX:CXT}{P:Program}{w:World}{K:W.Frag}{mg:Str->Option Value}{base:Heap}{N:List Str}{qual:Str}{scope:Scope}{f:Addr}{cd:Value}{A:Around}{outer:List Env}{s:Shared}{H:Hp}{E:XK}:(cxOf CX P w K mg base N qual scope f cd A outer s H E).A=A.deeper (envOfC qual scope s.heap.objs.size f cd):=rfl
theorem z1t:IxR X (fun x y H Q=>∃p i,x=.ref p/\y=.int i/\∃xs,H p=some (.lst xs)/\∃v,atI xs i=some v/\Q v H):=fun value slice pins s σ H x y v u Q I rx ry h hs =>
 ix_list value slice pins s σ H x y v u Q I rx ry (by obtain⟨p,i,e1,e2,xs,e3,v,e4,q⟩:=h;exact⟨p,xs,i,v,e1,e2,SqL.of e3,e4,q⟩) hs
theorem z1d:IxR X (fun x y H Q=>∃p i,x=.ref p/\y=.int i/\∃xs,H p=some (.tup xs)/\∃v,atI xs i=some v/\Q v H):=fun value slice pins s σ H x y v u Q I rx ry h hs =>
 ix_tup value slice pins s σ H x y v u Q I rx ry (by obtain⟨p,i,e1,e2,xs,e3,v,e4,q⟩:=h;exact⟨p,xs,i,v,e1,e2,SqT.of e3,e4,q⟩) hs
theorem z1e:z8i X (.builtin "len") (fun xs H Q=>∃p,xs=[.ref p]/\∃ys,H p=some (.lst ys)/\Q (.int ys.length) H):=fun pins s σ H xs us Q I r h =>
 z4g pins s σ H xs us Q I r (by obtain⟨p,e,ys,e2,q⟩:=h;exact⟨p,ys,e,.inl (SqL.of e2),q⟩)
theorem z9b:z8i X (.type "list") (fun xs H Q=>∃p,xs=[.ref p]/\∃ys,H p=some (.lst ys)/\∀l,H l=none->Q (.ref l) (upd H l (.lst ys))):=fun pins s σ H xs us Q I r h =>
 y8c pins s σ H xs us Q I r (by obtain⟨p,e,ys,e2,q⟩:=h;exact⟨p,ys,e,.inl (SqL.of e2),q⟩)
theorem q4z:SlR X (fun x lo hi H Q=>∃a,x=.ref a/\∃xs,H a=some (.lst xs)/\∀p,H p=none->Q (.ref p) (upd H p (.lst (cutV xs lo hi)))):=fun pins s σ H x v vl vu lo hi sl Q I rx hs pl pu h =>
 x6k pins s σ H x v vl vu lo hi sl Q I rx hs pl pu (by obtain⟨a,e,xs,e2,q⟩:=h;exact⟨a,xs,e,SqL.of e2,q⟩)
theorem x5z {K:W.Frag}{H:Hp}{p:Addr}{xs:List V}(h:H p=some (.lst xs)):tyV K "list" (.ref p) H:=.inl ⟨rfl,_,SqL.of h⟩
variable {o e:Expr}{es:List Expr}{to:TE}{t:TA}{name:Str}{apos cpos:Pos}{id:String}{r:V->List V->Hp->VK->Prop}
def tLM (r:V->List V->Hp->VK->Prop)(to:TE)(t:TA):TE:=fun σ H Q=>to σ H fun x H1=>∃p,x=.ref p/\(∃xs,H1 p=some (.lst xs))/\t σ H1 fun vs H2=>r (.ref p) vs H2 Q
def tLM0 (r:V->List V->Hp->VK->Prop)(to:TE):TE:=fun σ H Q=>to σ H fun x H1=>∃p,x=.ref p/\(∃xs,H1 p=some (.lst xs))/\r (.ref p) [] H1 Q
theorem q0a (slot:Slot "list" name id)(hty:typeOf (.builtin id)=pure (.type "method_descriptor"))(hm:MtR X id r)(ho:PE X o to)
  (hbase:attributeBase o name X.env (eval o X.env)=eval o X.env:=by rfl)(hline:(apos.endLine == cpos.line)=true:=by rfl):PE X (.Call (.Attribute o name apos) [] [] cpos) (tLM0 r to):=by
 intro pins s σ H Q I h;refine wpAny_Call_method0_late hbase hline (thn (ho pins s σ H _ I h) fun v s1 zq=>?_);obtain⟨x,H1,I1,r1,p,e1,⟨xs,hx⟩,q1⟩:=zq;subst e1;obtain⟨h1,h2⟩:=x7f I1 r1 (x5z hx);exact⟨"list",id,PySem.F.plainAttrs_list,slot,hty,h1,h2,Calls.callWith_builtin rfl (PySem.evalArgs_none (hm pins s1 σ H1 _ [] v [] Q I1 r1 .nil q1))⟩
theorem y4l (slot:Slot "list" name id)(hty:typeOf (.builtin id)=pure (.type "method_descriptor"))(hm:MtR X id r)(ho:PE X o to)(ha:PA X (e::es) t)
  (hbase:attributeBase o name X.env (eval o X.env)=eval o X.env:=by rfl)
  (hfew:((backTo cpos (starEach (e::es) X.env)).all (fun x=>!x.1)&&(backToKw cpos (keywordEach [] X.env)).all (fun x=>x.1.isSome)
  &&decide ((e::es).length+([]:List Keyword).length+(if ([]:List Keyword).isEmpty then 0 else 1)<30))=true:=by rfl)
  (hline:(apos.endLine == cpos.line)=true:=by rfl)(hs:starEach (e::es) X.env=(false,eval e X.env)::starEach es X.env:=by rfl)(hplain:(backTo cpos (starEach es X.env)).any (·.1)=false:=by rfl) :
  PE X (.Call (.Attribute o name apos) (e::es) [] cpos) (tLM r to t):=by
 intro pins s σ H Q I h;refine wpAny_Call_method_late hbase hfew hline rfl (thn (ho pins s σ H _ I h) fun v s1 zq=>?_);obtain⟨x,H1,I1,r1,p,e1,⟨xs,hx⟩,q1⟩:=zq;subst e1;obtain⟨h1,h2⟩:=x7f I1 r1 (x5z hx);refine⟨"list",id,PySem.F.plainAttrs_list,slot,hty,h1,h2,?_⟩;have hA:=ha cpos pins s1 σ H1 _ I1 q1;rw[hs]at hA ⊢;refine Calls.callWith_builtin (by show(false||(backTo cpos (starEach es X.env)).any (·.1))=false;rw[hplain]<;>rfl) (Calls.evalArgs_plain ?_);exact thn hA fun us s2 ⟨vs,H2,I2,r2,q2⟩=>hm pins s2 σ H2 _ vs v us Q I2 r1 r2 q2
theorem q8j {H:Hp}{a b:Addr}{o:HO}:upd H a o b=if b=a then some o else H b:=rfl
theorem z2y {H:Hp}{a b:Addr}{o:HO}:upd H a o b=none↔b≠a/\H b=none:=by
 rw[q8j];by_cases h:b=a<;>simp[h]
theorem atI0 {α:Type}{a:α}{l:List α}:atI (a::l) 0=some a:=by
 have:=z2w (xs:=a::l) (j:=0) (v:=a) rfl;simpa using this
theorem atI1 {α:Type}{a b:α}{l:List α}:atI (a::b::l) 1=some b:=by
 have:=z2w (xs:=a::b::l) (j:=1) (v:=b) rfl;simpa using this
theorem atI2 {α:Type}{a b c:α}{l:List α}:atI (a::b::c::l) 2=some c:=by
 have:=z2w (xs:=a::b::c::l) (j:=2) (v:=c) rfl;simpa using this
theorem z0y:sizeLine=16777216:=sizeLine_eq
theorem scSS {a b:Str}:scal (.str a) (.str b)=true:=rfl
theorem scII {a b:Int}:scal (.int a) (.int b)=true:=rfl
open PySem.SeqAt
theorem z5n:plainId "list.__eq__.loop" = true:=by decide +kernel
theorem y0o:entryFor table "list.__eq__.loop" = some Builtin.«list.__eq__.loop»:=entryFor_of_tree (by kernel_rfl)
open AutoSeq1 (wpAny_loadPart')
theorem y7q (l b:Addr)(us ws:Array Value)(n n2:Nat)(hsz:us.size=ws.size)(k:Nat) :
  ∀i:Nat,us.size - i=k->Meets (Builtin.«list.__eq__.loop» ⟨[.ref l,.ref b,rawInt i,rawInt 3],[]⟩)
   (fun A R s=>s.heap.get? l=some { cls:=.type "list",data:=.seq us n }/\s.heap.get? b=some { cls:=.type "list",data:=.seq ws n2 } /\
    (∀j (h1:j<us.size) (h2:j<ws.size),EqAt A.in1 s us[j] ws[j] true)/\R (.ok (.ret (.bool false))) s):=by
 induction k with
 |zero =>
  intro i hk prog w A R s h;obtain⟨hp,g,d,tk,os⟩:=s;obtain⟨hl,hb,he,h⟩:=h
  wp_walk using wpAny_loadPart' hl,wpAny_loadPart' hb
  have hi1:us[((i:Nat):Int).toNat]? = none:=by simp;omega
  have hi2:ws[((i:Nat):Int).toNat]? = none:=by simp;omega
  rw[hi1,hi2]
  wp_walk using wpAny_loadPart' hl,wpAny_loadPart' hb
  show R (.ok (.ret (.bool (us.size != ws.size)))) _;rw[hsz];simpa using h
 |succ k ih =>
  intro i hk prog w A R s h;obtain⟨hp,g,d,tk,os⟩:=s;obtain⟨hl,hb,he,h⟩:=h
  wp_walk using wpAny_loadPart' hl,wpAny_loadPart' hb
  have hlt:i<us.size:=by omega
  have hlt2:i<ws.size:=by omega
  have hi1:us[((i:Nat):Int).toNat]? = some us[i]:=by simp[hlt]
  have hi2:ws[((i:Nat):Int).toNat]? = some ws[i]:=by simp[hlt2]
  have hc:((i:Int)+1)=((i+1:Nat):Int):=by omega
  rw[hi1,hi2];refine wpAny_bind (he i hlt hlt2 prog w _ _ ?_)
  wp_walk
  rw[hc];exact⟨plainId_quiet z5n _,codeAny_builtin y0o (by
   rw[Around.under_plainId z5n _];exact ih (i+1) (by omega) prog w A R _ ⟨hl,hb,he,h⟩)⟩
theorem y6z (l b:Addr)(us ws:Array Value)(n n2:Nat)(hsz:us.size=ws.size) :
  Meets (Builtin.«list.__ne__» ⟨[.ref l,.ref b],[]⟩)
   (fun A R s=>s.heap.get? l=some { cls:=.type "list",data:=.seq us n }/\s.heap.get? b=some { cls:=.type "list",data:=.seq ws n2 } /\
    (∀j (h1:j<us.size) (h2:j<ws.size),EqAt A.in1 s us[j] ws[j] true)/\R (.ok (.ret (.bool false))) s):=by
 intro prog w A R s h;obtain⟨hp,g,d,tk,os⟩:=s;obtain⟨hl,hb,he,h⟩:=h;have f3:=AutoSeq1.sub_list_list;have hne:¬(us.size != ws.size)=true:=by simp[hsz]
 wp_walk using wpAny_loadPart' hl,wpAny_loadPart' hb
 exact⟨plainId_quiet z5n _,codeAny_builtin y0o (by
  rw[Around.under_plainId z5n _];exact y7q l b us ws n n2 hsz _ 0 rfl prog w A R _ ⟨hl,hb,he,h⟩)⟩
theorem y9x (l b:Addr)(us ws:Array Value)(n n2:Nat)(hc0:(us.size != ws.size)=true) :
  Meets (Builtin.«list.__ne__» ⟨[.ref l,.ref b],[]⟩)
   (fun _ R s=>s.heap.get? l=some { cls:=.type "list",data:=.seq us n }/\s.heap.get? b=some { cls:=.type "list",data:=.seq ws n2 }/\R (.ok (.ret (.bool true))) s) :=
 .of_wp fun prog w A R s h=>by
  obtain⟨hp,g,d,tk,os⟩:=s;obtain⟨hl,hb,h⟩:=h;have f3:=AutoSeq1.sub_list_list
  wp_walk using wpAny_loadPart' hl,wpAny_loadPart' hb
  exact⟨_,rfl,h⟩
theorem Inv.plainL {pins:List (Addr×Obj)}{σ:St}{H:Hp}{s:Shared}{p:Addr}{xs:List V}(I:Inv X pins σ H s)(h:H p=some (.lst xs)) :
  ∃(its:List Value)(n:Nat),Vals xs its/\s.heap.get? p=some { cls:=.type "list",data:=.seq its.toArray n }:=by
 obtain⟨_,its,n,r,e⟩:=I.hok p _ h;exact⟨its,n,r,e⟩
theorem z5v:OpR X (compareOp .NotEq) (fun x y H Q=>∃a b,x=.ref a/\y=.ref b/\∃xs,H a=some (.lst xs)/\∃ys,H b=some (.lst ys)/\X.A.units<cLine /\
  ((xs.length≠ys.length/\Q (.bl true) H)\/(xs.length=ys.length/\(∃n,(∀(i:Nat) x y,xs[i]? = some x->ys[i]? = some y->EqT H n x y)/\X.A.units+n+1<cLine)/\Q (.bl false) H))):=by
 intro pins s σ H x y v u Q I rx ry h;obtain⟨a,b,rfl,rfl,xs,ha,ys,hb,hu,h⟩:=h;cases rx;cases ry;obtain⟨us,n1,ru,eu⟩:=I.plainL ha;obtain⟨ws,n2,rw',ew⟩:=I.plainL hb;have l1:=ru.length;have l2:=rw'.length;rcases h with ⟨hl,q⟩|⟨hl,⟨n,h,hn⟩,q⟩
 ·exact richCompare_meets_room (op:=.NotEq) ⟨_,eu,rfl⟩ ⟨_,ew,rfl⟩ F.slot_list_ne F.entry_list_ne (F.args_list_ne_2 _ _) (y9x a b us.toArray ws.toArray n1 n2 (by simp;omega))
   ⟨eu,ew,(show Value.bool true≠Value.notImplemented/\EP X pins σ Q (.bool true) s from⟨(fun z=>nomatch z),⟨.bl true,H,I,rfl,q⟩⟩)⟩ hu
 ·exact richCompare_meets_room (op:=.NotEq) ⟨_,eu,rfl⟩ ⟨_,ew,rfl⟩ F.slot_list_ne F.entry_list_ne (F.args_list_ne_2 _ _) (y6z a b us.toArray ws.toArray n1 n2 (by simp;omega))
   ⟨eu,ew,fun j h1 h2=>EqT.items (X:=X) (H:=H) (n:=n) ru rw' hl (fun i x y e1 e2 _ _ q1 q2=>(h i x y e1 e2).at I q1 q2 (by show X.A.units+1+n<cLine;omega)) j h1 h2,(show Value.bool false≠Value.notImplemented/\EP X pins σ Q (.bool false) s from⟨(fun z=>nomatch z),⟨.bl false,H,I,rfl,q⟩⟩)⟩ hu
theorem z4p:OpR X (compareOp .Eq) (fun x y H Q=>∃a b,x=.ref a/\y=.ref b/\∃xs,H a=some (.lst xs)/\∃ys,H b=some (.lst ys)/\X.A.units<cLine /\
  ((xs.length≠ys.length/\Q (.bl false) H)\/(xs.length=ys.length/\(∃n,(∀(i:Nat) x y,xs[i]? = some x->ys[i]? = some y->EqT H n x y)/\X.A.units+n+1<cLine)/\Q (.bl true) H))):=by
 intro pins s σ H x y v u Q I rx ry h;obtain⟨a,b,rfl,rfl,xs,ha,ys,hb,hu,h⟩:=h;rcases h with ⟨hl,q⟩|⟨hl,⟨n,h,hn⟩,q⟩
 ·cases rx;cases ry;obtain⟨us,ru,pu,_⟩:=I.list (SqL.of ha);obtain⟨ws,rw',pw,_⟩:=I.list (SqL.of hb);exact SeqAt.eq_list_lengthsAt pu.isList pw.isList (by simp[<-ru.length,<-rw'.length,hl]) hu ⟨.bl false,H,I,rfl,q⟩
 ·exact x3j pins s σ H _ _ v u Q I rx ry ⟨n,a,b,xs,ys,rfl,rfl,ha,hb,hl,h,hn,q⟩
theorem y0w:OpR X (compareOp .In) (fun x y H Q=>∃p,y=.ref p/\∃xs,H p=some (.tup xs)/\z5q x=true/\xs.all z5q=true/\Q (.bl (inV x xs)) H):=fun pins s σ H x y v u Q I rx ry h =>
 y6u pins s σ H x y v u Q I rx ry (by obtain⟨p,e,xs,e2,h1,h2,q⟩:=h;exact⟨p,xs,e,.inr (SqT.of e2),h1,h2,q⟩)
theorem y8b:OpR X (compareOp .In) (fun x y H Q=>∃p,y=.ref p/\∃xs,H p=some (.lst xs)/\z5q x=true/\xs.all z5q=true/\Q (.bl (inV x xs)) H):=fun pins s σ H x y v u Q I rx ry h =>
 y6u pins s σ H x y v u Q I rx ry (by obtain⟨p,e,xs,e2,h1,h2,q⟩:=h;exact⟨p,xs,e,.inl (SqL.of e2),h1,h2,q⟩)
theorem y0m:OpR X (compareOp .NotIn) (fun x y H Q=>∃p,y=.ref p/\∃xs,H p=some (.lst xs)/\z5q x=true/\xs.all z5q=true/\Q (.bl (!inV x xs)) H):=fun pins s σ H x y v u Q I rx ry h =>
 y8s pins s σ H x y v u Q I rx ry (by obtain⟨p,e,xs,e2,h1,h2,q⟩:=h;exact⟨p,xs,e,.inl (SqL.of e2),h1,h2,q⟩)
theorem y6g (k:Str)(ks:List Str):inV (.str k) (ks.map V.str)=decide (k∈ks):=by
 unfold inV;induction ks with
 |nil=>simp
 |cons a r ih =>
  rw[map_cons,any_cons,ih,Bool.eq_iff_iff];show((a == k)||decide (k∈r))=true↔_;simp[@eq_comm _ a k]
theorem y1j (ks:List Str):(ks.map V.str).all z5q=true:=by
 induction ks with
 |nil=>rfl
 |cons a r ih=>rw[map_cons,all_cons,ih];rfl
theorem x0i {prog:Program}{w:World}{A:Around}{its:List Value}{bs:List Bool}(r:Vals (bs.map V.bl) its):TruthOf prog w A (fun i v=>its.toArray[i]? = some v) (fun i=>bs.getD i false):=by
 intro i v s Q E hP hq;have e:its[i]? = some v:=by simpa using hP
 have hi:i<bs.length:=by
  have:=(List.getElem?_eq_some_iff.mp e).1;have:=r.length;simp at this;omega
 obtain⟨u,eu,ru⟩:=r.get (i:=i) (x:=.bl bs[i]) (by simp[hi]);rw[e]at eu;cases eu;cases(show v=Value.bool bs[i] from ru);refine wpAny_truthy_bool ?_;simpa[hi] using hq
end
section
open PySem.SeqAt
open AutoSeq1 (wpAny_loadPart')
variable {X:Cx}
theorem x9l (bs:List Bool)(n:Nat)(h:n=bs.length):(range n).all (fun i=>bs.getD i false)=bs.all id:=by
 subst h;induction bs with
 |nil=>rfl
 |cons b r ih =>
  rw[length_cons,List.range_succ_eq_map,all_cons,all_map,all_cons];congr 1
theorem y6v (hc:X.calm=true):z8i X (.builtin "all") (fun xs H Q=>∃p,xs=[.ref p]/\∃bs:List Bool,H p=some (.lst (bs.map V.bl))/\Q (.bl (bs.all id)) H):=by
 intro pins s σ H xs us Q I r h;obtain⟨p,rfl,bs,hp,q⟩:=h;obtain⟨u,rfl,ru⟩:=z8w r;cases ru;obtain⟨its,rv,pl,hz⟩:=I.list (SqL.of hp);obtain⟨ol,hol,_⟩:=id pl.isList;have hlt:=lt_size hol;refine call_all_walk (wpAny_pyIter_list pl.isList ⟨s.heap.objs.size,_,_,_,_,_,_,rfl,Walks.list (A:=X.A.in1) (I.ok.hd hc) s.heap.objs.size p (ne_of_lt hlt) its.toArray,⟨⟨_,get?_push_size _ rfl,rfl,rfl⟩,pl.isList.push _⟩,x0i rv,fun h' tk hk=>?_⟩);rw[x9l bs _ (by have:=rv.length;simp at this;simp[this])];have hk':∀b o,s.heap.get? b=some o->h'.get? b=some o:=fun b o e=>hk b o (by simpa using ne_of_lt (lt_size e)) (get?_push_of_some _ e);exact⟨.bl (bs.all id),H,I.kept hk',rfl,q⟩
theorem DGet.o {H:Hp}{a:Addr}{kvs:List (Key×V)}{k:Str}(e:H a=some (.dK kvs)):DGet H a (.str k) (valV kvs (Sum.inr k)):=DGet.k (k:=Sum.inr k) e
theorem DPut.s {H:Hp}{a:Addr}{kvs:List (Key×V)}{k:Str}{v:V}(e:H a=some (.dK kvs))(hl:kvs.length<sizeLine):DPut H a (.str k) v (upd H a (.dK (putK kvs (Sum.inr k) v))):=DPut.k (k:=Sum.inr k) e hl
def j6k:V->List V->Hp->VK->Prop:=fun x vs H Q=>∃l,x=.ref l/\∃k,vs=[.str k]/\∃ks:List Str,H l=some (.lst (ks.map V.str))/\∃j:Nat,ks[j]? = some k/\(∀m,m<j->ks[m]? ≠ some k)/\Q (.int j) H
theorem q3p:MtM X "list.index" j6k:=by
 intro pins s σ H x vs v us Q I rx rv h;obtain⟨l,rfl,k,rfl,ks,hH,j,hj,hno,q⟩:=h;cases rx;obtain⟨u,rfl,tk,rfl⟩:=rv.one;obtain⟨z,its,n,r,hl,e⟩:=I.lstM hH;have hjl:j<ks.length:=(List.getElem?_eq_some_iff.mp hj).1;have hl':ks.length=its.length:=by simpa using hl
 have h24:=z0y;have hz:ks.length<=sizeLine:=by simpa using z
 have at_:∀m (hm:m<its.toArray.size),∃t,its.toArray[m]=.str (ks[m]'(by simp at hm;omega)) t:=fun m hm=>by
  have hm':m<ks.length:=by simp at hm;omega
  obtain⟨w',e1,q1⟩:=r.get (i:=m) (x:=.str ks[m]) (by simp[hm']);have:its[m]? = some (its.toArray[m]):=by simp at hm;simp[hm]
  rw[this]at e1;cases e1;exact q1
 refine call_meets F.slot_list_index ⟨_,e,rfl⟩ F.entry_list_index (F.args_list_index_2 _ _) (SeqAt.list_indexAt l its.toArray n none #[] (.str k tk) (fun v=>match v with | .str y _=>y == k|_=>false) j (by simp;omega) (by omega) ?_ ?_) ⟨e,?_,?_⟩
 ·obtain⟨t,e1⟩:=at_ j (by simp;omega);rw[e1];have:ks[j]=k:=by rw[getElem?_eq_getElem hjl]at hj;exact Option.some.inj hj
  simp[this]
 ·intro m hm hmj;obtain⟨t,e1⟩:=at_ m hm;rw[e1];have hm':m<ks.length:=by omega
  have:=hno m hmj;rw[getElem?_eq_getElem hm']at this;simp only;exact beq_eq_false_iff_ne.mpr fun z=>this (by rw[z])
 ·intro y hy;obtain⟨m,hm,rfl⟩:=Array.mem_iff_getElem.mp hy;obtain⟨t,e1⟩:=at_ m hm;rw[e1];exact SeqAt.EqAt.str_str _ _ _ _
 ·exact⟨.int j,H,I.tok _,⟨_,rfl⟩,q⟩
theorem Inv.turnsLaid {pins:List (Addr×Obj)}{σ:St}{H:Hp}{s:Shared}{h':Heap}{ch:List Addr}{a:Addr}{o:HO}{t':Nat}(I:Inv X pins σ H s)(k:∀b u,b∉ch->s.heap.get? b=some u->h'.get? b=some u)(f:∀b∈ch,FpOk X pins H b)(hp:s.heap.objs.size<=a)
  (new:ObjOk X.prog X.w (upd H a o) h' a o):Inv X pins σ (upd H a o) { s with heap:=h',toks:=t' }:=by
 have hn:H a=none:=I.hok.fresh hp;have ne:∀b u,s.heap.get? b=some u->b≠a:=fun b u e=>ne_of_lt (lt_of_lt_of_le (lt_size e) hp);have nch:∀b u,H b=some u->b∉ch:=fun b u e z=>by rw[(f b z).1]at e;cases e
 refine I.step (g':=s.gens) (d':=s.drawn) (ch:=ch) (fun b hb=>?_) (fun b u _ _ hc e _=>k b u hc e) (fun b u _ _ hc e _=>⟨u.slots,k b u hc e⟩) (fun b u _ e n=>by rw[z0j (ne b u e)];exact n)
  (fun b u hc e=>⟨u,k b u hc e⟩) (fun b xs e=>by rw[z0j (z0s e hn)];exact e) (fun b u v e=>by rw[z0j (z0s e hn)];exact e) (fun b e=>by rw[z0j (z0s e hn)];exact e) (fun m hm=>?_) (fun b u e=>?_) I.bare
 ·obtain⟨_,f1,_,f3,f4,f5⟩:=f b hb;exact⟨f3,f1,f4,f5⟩
 ·obtain⟨o',es,ep,ho,r⟩:=hm;exact⟨o',es,ep,k _ o' (fun z=>(f _ z).2.1 rfl) ho,r⟩
 ·by_cases hb:b=a
  ·subst hb;rw[z0g]at e;cases e;exact new
  ·rw[z0j hb]at e;refine(I.hok b u e).stay (fun c v hc q=>k c v ?_ q) (fun c q=>by rw[z0j (z0s q hn)];exact q) fun c xs q=>by rw[z0j (z0s q hn)];exact q
   rcases hc with z|z
   ·rw[z];exact nch b u e
   ·exact nch c _ z
theorem Inv.turneds {pins:List (Addr×Obj)}{σ:St}{H:Hp}{s:Shared}{h':Heap}{ch:List Addr}{t':Nat}(I:Inv X pins σ H s)(k:∀b u,b∉ch->s.heap.get? b=some u->h'.get? b=some u)(f:∀b∈ch,FpOk X pins H b):Inv X pins σ H { s with heap:=h',toks:=t' }:=by
 have nch:∀b u,H b=some u->b∉ch:=fun b u e z=>by rw[(f b z).1]at e;cases e
 refine I.step (g':=s.gens) (d':=s.drawn) (ch:=ch) (fun b hb=>?_) (fun b u _ _ hc e _=>k b u hc e) (fun b u _ _ hc e _=>⟨u.slots,k b u hc e⟩) (fun b u _ _ n=>n)
  (fun b u hc e=>⟨u,k b u hc e⟩) (fun b xs e=>e) (fun b u v e=>e) (fun b e=>e) (fun m hm=>?_) (fun b u e=>?_) I.bare
 ·obtain⟨_,f1,_,f3,f4,f5⟩:=f b hb;exact⟨f3,f1,f4,f5⟩
 ·obtain⟨o',es,ep,ho,r⟩:=hm;exact⟨o',es,ep,k _ o' (fun z=>(f _ z).2.1 rfl) ho,r⟩
 ·refine(I.hok b u e).stay (fun c v hc q=>k c v ?_ q) (fun c q=>q) fun c xs q=>q;rcases hc with z|z
  ·rw[z];exact nch b u e
  ·exact nch c _ z
end
end L2
namespace L2
open PySem PySem.Spec PyProof.Rows
structure CScopeG (osc:Scope)(N:List Str)(xs:List Str)(sc:Scope)(M:List Str):Prop where
 kind:sc.kind=.function
 cell:∀y∈sc.names,y.2≠.cell
 names:∀y∈sc.names,y.2=.local->sc.names.lookup y.1=some .local
 free:∀y∈sc.names,y.2=.free->osc.names.lookup y.1=some .cell\/osc.names.lookup y.1=some .free
 ok:namesOk sc N M=true
def x9s (n:Nat)(wi:TI)(g:TG)(tc:TT)(te:TE):TE:=fun σ H Q=>wi σ H fun J H1=>∀D,H1 D=none->∃W:Nat->Nat->List V->Hp->Prop,(∃m,W 0 m [] (upd H1 D (.lst [])))/\∀i m ys H2,W i m ys H2 ->
 H2 D=some (.lst ys)/\((J.stop i H2/\Q (.ref D) H2)\/(J.go i H2/\∃N:List V->Hp->Prop,(∀ys' H',N ys' H'->∃m',m' < m/\W (i+1) m' ys' H')/\∀v H3,J.yld i H2 v H3->∀τ:L2.St,τ.length=n->g v (τ++σ) H3 fun σ4 H4=>(∃τ':L2.St,τ'.length=n/\σ4=τ'++σ)/\tc σ4 H4 fun b H5=>if b=true then te σ4 H5 fun y H6=>H6 D=some (.lst ys)/\ys.length<sizeLine/\N (ys++[y]) (upd H6 D (.lst (ys++[y])))
   else N ys H5))
theorem z5y {prog:Program}{w:World}{A:Around}{R:Result->Shared->Prop}{s:Shared}{elt target iter:Expr}{ifs:List Expr}{scope:Scope}{pos:Pos}{it acc:Value}{env:Env}(I:Nat->Shared->Prop)
  (turn:∀n s,I n s->wpAny (model prog w) A (pyNext it) (fun r s₁=>match r with
   |none=>R (.ok .next) s₁
   |some v=>wpAny (model prog w) A (letOwnedTupleGo target it v >>= fun _=>assign target env v) (fun _ s₂ =>
     wpAny (model prog w) A (forIn ifs true fun c r=>if r=true then do let ok <-isTrue c env (eval c env);pure (ForInStep.yield ok) else pure (ForInStep.yield r)) (fun ok s₃ =>
      if ok=true then wpAny (model prog w) A (eval elt env) (fun x s₄ =>
       wpAny (model prog w) A (call (.builtin "list.append") [acc,x]) (fun _ s₅=>∃m,m<n/\I m s₅) (notedBy (model prog w) A env fun e s'=>R (.error e) s') s₄) (notedBy (model prog w) A env fun e s'=>R (.error e) s') s₃
      else ∃m,m<n/\I m s₃) (notedBy (model prog w) A env fun e s'=>R (.error e) s') s₂) (notedBy (model prog w) A env fun e s'=>R (.error e) s') s₁) (notedBy (model prog w) A env fun e s'=>R (.error e) s') s)
  (n:Nat)(h:I n s) :
  codeAny (model prog w) A (.compLoop (.ListComp elt [⟨target,iter,ifs,0⟩] scope pos) 0 it acc env) R s:=by
 refine codeAny_loop rfl I (fun n s hI=>?_) n h;show wpAny _ A ((compTurn (.ListComp elt [⟨target,iter,ifs,0⟩] scope pos) 0 it acc env).onRaise (fun x=>do noteFrame x env;theTreesLotGoes x)) _ _ s;refine wpAny_noted ?_;rw[compTurn_list];refine wpAny_bind (wpAny_standAt (wpAny_bind (wpAny_mono (turn n s hI) (fun r s₁ h₁=>?_) fun _ _ h'=>h')));cases r with
 |none=>exact wpAny_pure h₁
 |some v =>
  show wpAny _ A (letOwnedTupleGo target it v >>= fun _=>assign target env v >>= _) _ _ s₁;rw[<-bind_assoc];refine wpAny_bind (wpAny_mono h₁ (fun _ s₂ h₂=>wpAny_bind (wpAny_mono h₂ (fun ok s₃ h₃=>?_) fun _ _ h'=>h')) fun _ _ h'=>h');cases ok with
  |false=>exact wpAny_pure ⟨rfl,h₃⟩
  |true =>
   exact wpAny_bind (wpAny_bind (wpAny_mono h₃ (fun x s₄ h₄=>wpAny_bind (wpAny_mono h₄ (fun _ s₅ h₅=>wpAny_pure (wpAny_pure ⟨rfl,h₅⟩)) fun _ _ h'=>h')) fun _ _ h'=>h'))
section
variable {X:Cx}
theorem y8l {elt iter tg:Expr}{xs:List Str}{pos:Pos}{ifs:List Expr}{sc:Scope}{M:List Str}{pins:List (Addr×Obj)}{σ:L2.St}{H2:Hp}{s2:Shared}{it:Addr}{fp:List Addr}{tn:Nat->Heap->Prop}{J:It}{g:TG}{tc:TT}{te:TE}{Q:VK}
  {RR:Value->Addr->Result->Shared->Prop}{E:Value->Shared->Prop}
  (hc:X.calm=true)(hg:∀pins ex H₀ s₀ C,PG (z3x X sc (xs++M) pins ex H₀ s₀ C) tg g)(S:CScopeG X.env.scope X.N xs sc M)
  (ht:∀pins ex H₀ s₀ C,PF (z3x X sc (xs++M) pins ex H₀ s₀ C) ifs tc)(he:∀pins ex H₀ s₀ C,PE (z3x X sc (xs++M) pins ex H₀ s₀ C) elt te)
  (I2:Inv X pins σ H2 s2)(T:Turn X.prog X.w X.K tg J fp it tn)(st2:tn 0 s2.heap)(f2:∀b∈fp,FpOk X pins H2 b)
  (hw:∀D,H2 D=none->∃W:Nat->Nat->List V->Hp->Prop,(∃m,W 0 m [] (upd H2 D (.lst [])))/\∀i m ys H2,W i m ys H2 ->
   H2 D=some (.lst ys)/\((J.stop i H2/\Q (.ref D) H2)\/(J.go i H2/\∃N:List V->Hp->Prop,(∀ys' H',N ys' H'->∃m',m' < m/\W (i+1) m' ys' H')/\∀v H3,J.yld i H2 v H3->∀τ:L2.St,τ.length=xs.length->g v (τ++σ) H3 fun σ4 H4=>(∃τ':L2.St,τ'.length=xs.length/\σ4=τ'++σ)/\tc σ4 H4 fun b H5=>if b=true then te σ4 H5 fun y H6=>H6 D=some (.lst ys)/\ys.length<sizeLine/\N (ys++[y]) (upd H6 D (.lst (ys++[y])))
   else N ys H5)))
  (hRR:∀(D C:Addr)(s':Shared)(H':Hp)(m:Str->Option Value),Inv X pins σ H' s'->s'.heap.Ns C m->H' C=none->s2.heap.objs.size<=C->Q (.ref D) H'->RR (.ref D) C (.ok .next) s') :
  wpAny (model X.prog X.w) X.A (newList []) (fun acc s₃=>wpAny (model X.prog X.w) X.A (newFunctionEnv sc X.env.globals (z7v sc.names X.env.cells []) [] X.env.qual none .none (some X.env)) (fun cenv s₄ =>
   codeAny (model X.prog X.w) X.A (.compStart (.ListComp elt [⟨tg,iter,ifs,0⟩] sc pos) 0 (.ref it) acc { cenv with scope:=relabel sc X.env }) (RR acc cenv.locals) s₄) E s₃) E s2:=by
 obtain⟨W,⟨m0,w0⟩,turn⟩:=hw s2.heap.objs.size I2.fresh;have hfreeC:∀y∈sc.names,y.2=.free->∃c,X.env.cells.lookup y.1=some c:=fun y hy hf=>I2.ok.has y.1 (S.free y hy hf);have clk:∀{y:Str}{c:Addr},(z7v sc.names X.env.cells []).lookup y=some c->X.env.cells.lookup y=some c:=fun {y c} e=>y0n sc.names [] hfreeC (fun z=>by cases z) e;obtain⟨nlen,nget⟩:=namesOk.get S.ok;have I3:Inv X pins σ (upd H2 s2.heap.objs.size (.lst [])) { s2 with heap:=s2.heap.push { cls:=.type "list",data:=.seq ([]:List Value).toArray } }:=I2.lnew (its:=[]) (t':=s2.toks) .nil (zero_le _);refine wpAny_newObj_type ?_;generalize hs3:({ s2 with heap:=s2.heap.push { cls:=.type "list",data:=.seq ([]:List Value).toArray } }:Shared)=s3 at I3;have e3:s3.heap=s2.heap.push { cls:=.type "list",data:=.seq ([]:List Value).toArray }:=by rw[<-hs3]
 have sz3:s3.heap.objs.size=s2.heap.objs.size+1:=by rw[e3,size_push]
 have up3:∀b o,s2.heap.get? b=some o->s3.heap.get? b=some o:=fun b o e=>by rw[e3];exact get?_push_of_some _ e
 have st3:tn 0 s3.heap:=T.keep _ _ _ st2 fun b _ o e=>up3 b o e;have fpL:∀b∈fp,b<s2.heap.objs.size:=fun b hb=>let ⟨_,e,_⟩:=T.obj _ _ st2 b hb;lt_size e;have f3:∀b∈fp,FpOk X pins (upd H2 s2.heap.objs.size (.lst [])) b:=fun b hb=>⟨by rw[z0j (ne_of_lt (fpL b hb))];exact(f2 b hb).1,(f2 b hb).2⟩;show wpAny _ _ (newFunctionEnv sc X.env.globals (z7v sc.names X.env.cells []) [] X.env.qual none .none (some X.env)) _ _ s3;refine wpAny_newFunctionEnv S.cell (by intro y hy;simp at hy) (fun h₁ hns₁ hsb₁=>?_) S.kind;have old:∀b o,s3.heap.get? b=some o->h₁.get? b=some o:=fun b o e=>hsb₁.extBut b o (ne_of_lt (lt_size e)) (get?_push_of_some _ e);have cellLt:∀{y:Str}{c:Addr},X.env.cells.lookup y=some c->c<s3.heap.objs.size:=fun {y c} e=>let ⟨_,z⟩:=I3.cell y c e;z.lt;have locLt:=I3.lt;generalize hC:s3.heap.objs.size=C at hns₁ hsb₁ cellLt locLt ⊢;have hle:s2.heap.objs.size<=C:=by rw[<-hC,sz3];exact le_succ _
 let X':Cx:=z3x X sc (xs++M) pins fp (upd H2 s2.heap.objs.size (.lst [])) s3 C;have ok':X'.Ok:={
  mod:=I3.ok.mod
  kind:=S.kind
  glob:=I3.ok.glob
  blt:=I3.ok.blt
  above:=le_of_eq hC
  inj:=fun y z c e1 e2=>I3.ok.inj y z c (clk e1) (clk e2)
  has:=fun y hy=>by
   have hf:sc.names.lookup y=some .free:=by
    rcases hy with hy|hy
    ·rcases z8k hy with q|⟨_,q⟩
     ·exact absurd rfl (S.cell _ (z5t q))
     ·exact q
    ·rcases z8k hy with q|⟨q,_⟩
     ·exact q
     ·cases q
   exact isSome_iff_exists.mp (y1s sc.names [] (.inl (z5t hf)))
  cab:=fun y c h _=>by cases h
  hd:=I3.ok.hd
  frames:=I3.ok.frames
  stk:=.inl rfl
  exf:=fun b hb=>⟨ne_of_lt (lt_of_lt_of_le (fpL b hb) hle),fun y c e=>(f3 b hb).2.2.2.2.1 y c (clk e)⟩
  bs:=I3.bs
  bsz:=le_trans I3.ok.bsz I3.sz
  noex:=fun b o e hb=>by
   rcases(f3 b hb).2.2.2.1 with z|z
   ·exact I3.ok.noex b o e z
   ·exact absurd (lt_of_lt_of_le (lt_size e) (le_trans I3.ok.bsz z)) (lt_irrefl _)
  exfs:=fun b hb z=>by
   rcases mem_cons.mp (I3.stkSub b z) with q|q
   ·exact(f3 b hb).2.1 q
   ·exact(f3 b hb).2.2.1 q
  funs:=I3.stack
  frf:=I3.stkFree
  lam:=fun p e=>I3.base.tbls p (I3.ok.lam p e) }
 have seen:∀{h':Heap}{m:Str->Option Value},(∀b o,s3.heap.get? b=some o->h'.get? b=some o)->∀(i:Nat)(y:Str)(v:V),(xs++M)[i]? = some y->(replicate xs.length none++σ)[i]? = some (some v)->Vis (relabel sc X.env) y->∃u,RelV v u/\Look (compEnvC sc (z7v sc.names X.env.cells []) C X.env) h' m y u:=by
  intro h' m kp i y v e1 e2 e3;by_cases hi:i<xs.length
  ·rw[getElem?_append_left (by simpa using hi),getElem?_replicate,if_pos hi]at e2;cases e2
  ·obtain⟨i,rfl⟩:∃k,i=xs.length+k:=⟨i - xs.length,by omega⟩;have e1':M[i]? = some y:=by rw[getElem?_append_right (by omega)]at e1;simpa using e1
   have e2':σ[i]? = some (some v):=by rw[getElem?_append_right (by simp)]at e2;simpa using e2
   rcases nget i y e1' with q|⟨q1,q2⟩
   ·rcases e3 with z|z|z<;>rcases z8k z with z|⟨_,z⟩<;>rw[q]at z<;>cases z
   ·have ofree:=S.free (y,.free) (z5t q2) rfl;obtain⟨mo,_,hl⟩:=I3.loc;obtain⟨u,r,l⟩:=hl i y v q1 e2' (by rcases ofree with z|z;exact .inr (.inl z);exact .inr (.inr z));refine⟨u,r,.inr ⟨y7u q2,?_⟩⟩;rcases l with ⟨z,_⟩|⟨_,c,z1,z2⟩
    ·have z':X.env.scope.names.lookup y=some .local:=z;rcases ofree with q|q<;>rw[z']at q<;>cases q
    ·obtain⟨c',hc'⟩:=isSome_iff_exists.mp (y1s (cells:=X.env.cells) (y:=y) sc.names [] (.inl (z5t q2)));have z3:=clk hc';rw[z1]at z3;cases z3;obtain⟨o,ho,hd⟩:=z2;exact⟨c,hc',o,kp c o ho,hd⟩
 have I4:Inv X' [] (replicate xs.length none++σ) (upd H2 s2.heap.objs.size (.lst [])) { s3 with heap:=h₁,toks:=s3.toks+([]:List (Str×Value)).length }:={
  ok:=ok'
  os:=rfl
  bare:=I3.bare
  base:=Un.kept old
  loc:=⟨_,hns₁,fun i y v e1 e2 e3=>seen old i y v e1 e2 e3⟩
  cell:=fun y c e=>by
   obtain⟨v,o,ho,hd⟩:=I3.cell y c (clk e);exact⟨v,o,old c o ho,hd⟩
  free:=I3.hok.fresh (le_of_eq hC)
  freeC:=fun y c e=>I3.freeC y c (clk e)
  pin:=fun p hp=>by
   have hp':p∈X.pn++pins:=by simpa[X',z3x] using hp
   obtain⟨e,n,ne,nf,d⟩:=I3.pin p hp';refine⟨old _ _ e,n,?_,fun z=>?_,d⟩
   ·exact ne_of_lt (lt_of_lt_of_le (lt_size e) (le_of_eq hC))
   ·rcases mem_cons.mp (I3.stkSub p.1 z) with q|q
    ·exact ne q
    ·exact nf q
  hok:=I3.hok.kept old
  len:=by
   have l3:=I3.len;show(replicate xs.length none++σ).length=(xs++M).length;rw[length_append,length_append,List.length_replicate,l3,nlen] }
 have fx:∀{H':Hp},(∀b∈fp,H' b=none)->∀b∈fp,FpOk X' [] H' b:=fun hn b hb=>by
  refine⟨hn b hb,(ok'.exf b hb).1,ok'.exfs b hb,.inl hb,(ok'.exf b hb).2,fun p hp=>?_⟩;exact(f3 b hb).2.2.2.2.2 p (by simpa[X',z3x] using hp)
 have envE:({ newEnv sc C X.env.globals (z7v sc.names X.env.cells []) X.env.qual none .none (some X.env) builtinsNs with scope:=relabel sc X.env }:Env)=compEnvC sc (z7v sc.names X.env.cells []) C X.env:=rfl;have loop:codeAny (model X.prog X.w) X.A (.compLoop (.ListComp elt [⟨tg,iter,ifs,0⟩] sc pos) 0 (.ref it) (.ref s2.heap.objs.size) (compEnvC sc (z7v sc.names X.env.cells []) C X.env)) (RR (.ref s2.heap.objs.size) C)
   { s3 with heap:=h₁,toks:=s3.toks+([]:List (Str×Value)).length }:=by
  refine z5y (fun n s'=>∃i ys τ H',τ.length=xs.length/\Inv X' [] (τ++σ) H' s'/\tn i s'.heap/\(∀b∈fp,H' b=none)/\W i n ys H') ?_ m0 ⟨0,[],replicate xs.length none,_,by simp,I4,T.keep _ _ _ st3 fun b _ o e=>old b o e,fun b hb=>(f3 b hb).1,w0⟩;rintro n s' ⟨i,ys,τ0,H',hτ,I',st',fr',w'⟩;obtain⟨hD,step⟩:=turn i n ys H' w';rcases step with ⟨stop,q⟩|⟨go,N,hN,step⟩
  ·refine thn (T.done X' rfl rfl rfl hc i [] s' _ H' _ I' (fx fr') st' stop) fun r s5 zq=>?_;obtain⟨hr,I5⟩:=zq;subst hr;obtain⟨m5,hn5,_⟩:=I5.loc;refine hRR _ C s5 H' m5 ?_ hn5 I5.free hle q;refine I3.call' (ch:=fp) I5.os I5.base I5.hok I5.bare fun b hb=>?_;obtain⟨_,z1,_,z3,z4,z5⟩:=f3 b hb;exact⟨z3,z1,z4,z5⟩
  ·refine thn (T.item X' rfl rfl rfl hc i [] s' _ H' _ I' (fx fr') st' go) fun r s5 zq=>?_;obtain⟨u,hr,h5⟩:=zq;subst hr;have h6:wpAny (model X.prog X.w) X.A (letOwnedTupleGo tg (.ref it) u >>= fun _=>assign tg X'.env u) (fun _ s7=>∃(σ7:L2.St)(H7:Hp)(s6:Shared),Inv X' ([]++y5i fp s6.heap) σ7 H7 s7/\tn (i+1) s6.heap/\(∃τ':L2.St,τ'.length=xs.length/\σ7=τ'++σ)/\tc σ7 H7 fun b H5=>if b=true then te σ7 H5 fun y H6=>H6 s2.heap.objs.size=some (.lst ys)/\ys.length<sizeLine/\N (ys++[y]) (upd H6 s2.heap.objs.size (.lst (ys++[y]))) else N ys H5)
     (notedBy (model X.prog X.w) X.A (compEnvC sc (z7v sc.names X.env.cells []) C X.env) fun e s'=>RR (.ref s2.heap.objs.size) C (.error e) s') s5:=by
    refine wpAny_bind (thn h5 fun _ s6 zq=>?_);obtain⟨v,H6,I6,r6,y6,st6,fr6⟩:=zq;have I6':=I6.pinned (fx fr6) (T.obj _ _ st6);refine wpAny_mono (hg pins fp _ s3 C _ s6 _ H6 v u _ I6' r6 (step v H6 y6 τ0 hτ)) (fun _ s7 zq=>?_) fun _ _ z=>z.elim;obtain⟨σ7,H7,I7,q7⟩:=zq;exact⟨σ7,H7,s6,I7,st6,q7⟩
   refine wpAny_mono h6 (fun _ s7 zq=>?_) fun _ _ z=>z;obtain⟨σ7,H7,s6,I7,st6,⟨τ',hτ',eσ⟩,q7⟩:=zq;subst eσ;have again:∀{σ8:L2.St}{H7:Hp}{s8:Shared},Inv X' ([]++y5i fp s6.heap) σ8 H7 s8->tn (i+1) s8.heap/\∀b∈fp,H7 b=none:=fun {σ8 H7 s8} I8=>by
    refine⟨T.keep _ _ _ st6 fun b hb o e=>(I8.pin (b,o) (mem_append_right _ (mem_append_right _ (z7p hb e)))).1,fun b hb=>?_⟩;obtain⟨o,e,d⟩:=T.obj _ _ st6 b hb;exact(I8.pin (b,o) (mem_append_right _ (mem_append_right _ (z7p hb e)))).2.1
   refine wpAny_mono (ht pins fp _ s3 C _ s7 _ H7 _ I7 q7) (fun ok s8 zq=>?_) fun _ _ z=>z.elim;obtain⟨H8,I8,q8⟩:=zq;cases ok with
   |false =>
    rw[if_neg Bool.false_ne_true]at q8 ⊢;obtain⟨m',hm,w8⟩:=hN _ _ q8;obtain⟨t8,n8⟩:=again I8;exact⟨m',hm,i+1,ys,τ',H8,hτ',I8.unpinned,t8,n8,w8⟩
   |true =>
    rw[if_pos rfl]at q8 ⊢;refine wpAny_mono (he pins fp _ s3 C _ s8 _ H8 _ I8 q8) (fun y s9 zq=>?_) fun _ _ z=>z.elim;obtain⟨vy,H9,I9,r9,hD9,hz,q9⟩:=zq;refine wpAny_mono (z1m (X:=X') _ s9 _ H9 (.ref s2.heap.objs.size) [vy] (.ref s2.heap.objs.size) [y] (fun _ H'=>H' = upd H9 s2.heap.objs.size (.lst (ys++[vy]))) I9 rfl (.cons r9 .nil) ⟨_,ys,vy,rfl,rfl,hD9,hz,rfl⟩) (fun _ s10 zq=>?_) fun _ _ z=>z.elim;obtain⟨_,H10,I10,_,e10⟩:=zq;subst e10;obtain⟨t10,n10⟩:=again I10;obtain⟨m',hm,w9⟩:=hN _ _ q9;exact⟨m',hm,i+1,ys++[vy],τ',_,hτ',I10.unpinned,t10,n10,w9⟩
 exact codeAny_compStart_list loop (T.self _ 0 _ _ _ (T.keep _ _ _ st3 fun b _ o e=>old b o e) loop)
theorem q3e {elt iter tg:Expr}(xs:List Str){pos:Pos}{ifs:List Expr}{sc:Scope}(M:List Str){wi:TI}{g:TG}{tc:TT}{te:TE}(hc:X.calm=true)(hg:∀pins ex H₀ s₀ C,PG (z3x X sc (xs++M) pins ex H₀ s₀ C) tg g)(S:CScopeG X.env.scope X.N xs sc M)(hi:PI X tg iter wi)
  (ht:∀pins ex H₀ s₀ C,PF (z3x X sc (xs++M) pins ex H₀ s₀ C) ifs tc)(he:∀pins ex H₀ s₀ C,PE (z3x X sc (xs++M) pins ex H₀ s₀ C) elt te)
  (hs:∀v,foldedSetIterable iter X.env v=pure v:=by intro _;rfl):PE X (.ListComp elt [⟨tg,iter,ifs,0⟩] sc pos) (x9s xs.length wi g tc te):=by
 intro pins s σ H Q I h;rw[eval_ListComp];refine wpAny_comprehension_free (use:=none) rfl hs (z8x fun y hy hf=>I.ok.has y.1 (S.free y hy hf)) S.kind S.names (thn (hi pins s σ H _ I h) fun v s1 h1=>thn h1 fun itv s2 h2=>?_);obtain⟨it,fp,tn,J,H2,rfl,I2,T,st2,f2,hw⟩:=h2;refine y8l (RR:=fun acc C=>compPost (model X.prog X.w) X.A X.xe none (EP X pins σ Q) acc C) hc hg S ht he I2 T st2 f2 hw fun D C s' H' m I' hn hC hle q=>?_;refine⟨m,hn,fun h' hs'=>⟨.ref D,H',?_,rfl,q⟩⟩;have fC:=I2.fpOk (H':=H') hle hC;exact I'.turned (t':=s'.toks) (fun b o hb e=>(hs'.2 b hb).trans e) hC fC.2.1 fC.2.2.2.1 fC.2.2.2.2.1 fC.2.2.2.2.2
theorem q0s {elt iter tg:Expr}{y:Str}(xs:List Str){py pos spos:Pos}{ifs:List Expr}{sc:Scope}{j:Nat}(M:List Str){wi:TI}{g:TG}{tc:TT}{te:TE}(hN:X.N.Nodup)(hj:X.N[j]? = some y)(hy:X.env.scope.names.lookup y=some .local)(hc:X.calm=true)(hg:∀pins ex H₀ s₀ C,PG (z3x X sc (xs++M) pins ex H₀ s₀ C) tg g)(S:CScopeG X.env.scope X.N xs sc M)(hi:PI X tg iter wi)
  (ht:∀pins ex H₀ s₀ C,PF (z3x X sc (xs++M) pins ex H₀ s₀ C) ifs tc)(he:∀pins ex H₀ s₀ C,PE (z3x X sc (xs++M) pins ex H₀ s₀ C) elt te)
  (hsw:swapsWith (.ListComp elt [⟨tg,iter,ifs,0⟩] sc pos) (some (.Name y py)) spos.line X.env=pure true:=by rfl)
  (hs:∀v,foldedSetIterable iter X.env v=pure v:=by intro _;rfl):PS X (.Assign [.Name y py] (.ListComp elt [⟨tg,iter,ifs,0⟩] sc pos) spos) (tAsg (x9s xs.length wi g tc te) (z7w j)):=by
 intro pins s σ H D I h;rw[exec_Assign_Name_used _ _ _ _ hsw];refine wpAny_bind (wpAny_standAt (wpAny_bind ?_));show wpAny _ _ (do let _ <-comprehension (.ListComp elt [⟨tg,iter,ifs,0⟩] sc pos) sc X.env _ (newList []) false (eval iter X.env) (some (assign (.Name y py) X.env))) _ _ s;refine wpAny_bind (wpAny_mono (wpAny_comprehension_free (use:=some (assign (.Name y py) X.env)) (Q:=fun _ s'=>SP X pins D .next s') rfl hs (z8x fun y hy hf=>I.ok.has y.1 (S.free y hy hf)) S.kind S.names
  (thn (hi pins s σ H _ I h) fun v s1 h1=>thn h1 fun itv s2 h2=>?_)) (fun _ s' hq=>wpAny_pure (wpAny_pure hq)) fun _ _ e=>e)
 obtain⟨it,fp,tn,J,H2,rfl,I2,T,st2,f2,hw⟩:=h2;refine y8l (Q:=fun x H1=>z7w j x σ H1 D.nx) (RR:=fun acc C=>compPost (model X.prog X.w) X.A X.xe (some (assign (.Name y py) X.env)) (fun _ s'=>SP X pins D .next s') acc C) hc hg S ht he I2 T st2 f2 hw fun D' C s' H' m I' hn hC hle q=>?_;have fC:=I2.fpOk (H':=H') hle hC;show wpAny _ _ (assign (.Name y py) X.env (.ref D')) _ _ s';refine wpAny_assign_Name (y8d (v:=.ref D') I' hN hj (.inl hy) rfl (fun s3 I3 ⟨a,sb,ha⟩=>?_) (.inr hy));have haC:C≠a:=by
  rcases ha with rfl|ha
  ·exact fC.2.1
  ·exact fun z=>fC.2.2.2.2.1 y a ha z.symm
 refine⟨m,hn.sameBut sb haC,fun h' hs'=>⟨_,H',?_,q⟩⟩;exact I3.turned (t':=s3.toks) (fun b o hb e=>(hs'.2 b hb).trans e) hC fC.2.1 fC.2.2.2.1 fC.2.2.2.2.1 fC.2.2.2.2.2
theorem j6v:SlR X (fun x lo hi H Q=>∃z,x=.str z/\z.length<=sizeLine/\Q (.str (Txt.slice z lo hi)) H):=by
 intro pins s σ H x v vl vu lo hi sl Q I rx hs pl pu h;obtain⟨z,rfl,hz,q⟩:=h;obtain⟨t,rfl⟩:=rx;refine⟨"str",_,F.slot_str_getitem.lookup,typeIs_str _ _ _,?_⟩;have key:∀(l u:Option (Int×Tok)),vl=partValue l->vu=partValue u->lo=l.map (·.1)->hi=u.map (·.1)->wpAny (model X.prog X.w) X.A (getItem (.str z t) (.ref sl)) (EP X pins σ Q) X.xe s:=by
  intro l u e1 e2 e3 e4;subst e1 e2 e3 e4;refine wpAny_getItem_str_slice (l:=l) (u:=u) (st:=none) hs rfl (post_val_or_str ⟨le_trans (slice_le z _ _) hz,fun t' k=>?_⟩);exact⟨.str _,H,I.tok k,⟨t',rfl⟩,q⟩
 cases pl with
 |none =>
  cases pu with
  |none=>exact key none none rfl rfl rfl rfl
  |int j u=>exact key none (some (j,u)) rfl rfl rfl rfl
 |int i u' =>
  cases pu with
  |none=>exact key (some (i,u')) none rfl rfl rfl rfl
  |int j u=>exact key (some (i,u')) (some (j,u)) rfl rfl rfl rfl
theorem y5d:∀{ts:List Str}{us:List Value},Vals (ts.map V.str) us->∃l:List (Str×Tok),us=strValues l/\l.map (·.1)=ts
 | [],_,.nil=>⟨[],rfl,rfl⟩
 |t::ts,_,.cons r rs=>by
  obtain⟨k,rfl⟩:=r;obtain⟨l,rfl,e⟩:=y5d rs;exact⟨(t,k)::l,rfl,by simp[e]⟩
theorem q8i:MtR X "str.join" (fun x vs H Q=>∃sep p,x=.str sep/\vs=[.ref p]/\∃ts:List Str,H p=some (.lst (ts.map V.str))/\JoinOk sep ts=true/\Q (.str (join sep ts)) H):=by
 intro pins s σ H x xs v us Q I rx rs h;obtain⟨sep,p,rfl,rfl,ts,hp,ok,q⟩:=h;obtain⟨t,rfl⟩:=rx;obtain⟨u,rfl,ru⟩:=z8w rs;cases ru;obtain⟨its,rv,pl,hz⟩:=I.list (SqL.of hp);obtain⟨l,rfl,el⟩:=y5d rv;exact SC.join pl.isList el ok fun t' k=>⟨.str _,H,I.tok k,⟨t',rfl⟩,q⟩
theorem y9d:typeLookup (.type "list") "keys" = pure none:=by rw[typeLookup_type,builtinLookup_eq_fast];kernel_rfl
theorem getAttr?_miss_list {prog:Program}{w:World}{A:Around}{E:Value->Shared->Prop}{s:Shared}{a:Addr}{xs:Array Value}{k:Nat}{Q:Option Value->Shared->Prop}
  (hx:s.heap.get? a=some { cls:=.type "list",data:=.seq xs k })(hA:A.handled=none)
  (h:∀h' tk,(∀b o,s.heap.get? b=some o->h'.get? b=some o)->Q none { s with heap:=h',toks:=tk }) :
  wpAny (model prog w) A (getAttr? (.ref a) "keys") Q E s:=by
 obtain⟨hp,g,d,tk,os⟩:=s;have hT:∀tk',(⟨hp,g,d,tk',os⟩:Shared).TypeIs (.ref a) "list":=fun _=>⟨_,hx,rfl⟩;have f1:=sub_AttributeError;have f3:=F.slot_list_getattribute.lookup;have f4:=F.slot_list_getattribute.bind (.ref a);have f5:=am_list_getattr_none;unfold getAttr? getAttrBy? getAttrBy
 repeat (any_goals (first|assumption|exact hT _|((with_reducible show wpAny _ _ (call (Value.builtin "list.__getattribute__") _ _) _ _ _);refine call_meets F.slot_list_getattribute (hT _) am_entry_list_getattribute (F.args_list_getattribute_2 _ _) (meets_getattribute_miss_list a xs k #[] "keys" _ y9d (by decide +kernel) (by decide +kernel)) ⟨hx,hA,fun h' tk' e hx'=>?_⟩)|wp_step))
 obtain⟨t',u',he⟩:=hx'.there;show wpAny _ _ (getattributeRaised _ _ _ _ _ _ _) _ _ _;unfold getattributeRaised
 repeat (any_goals (first|assumption|wp_step))
 exact h _ _ hx'.keeps
theorem y5b:entryFor table "dict.update.loop" = some Builtin.«dict.update.loop»:=entryFor_of_tree (by kernel_rfl)
theorem z7q:plainId "dict.update.loop" = true:=by decide +kernel
theorem y5v {prog:Program}{w:World}{A:Around}{E:Value->Shared->Prop}{s:Shared}{b:Addr}{its:Array Value}{Q:List Value->Shared->Prop}(h:IsTup s.heap b its)(q:Q its.toList s):wpAny (model prog w) A (Builtin.Dict.pairItems (.ref b)) Q E s:=by
 obtain⟨o,ho,hc,n,hd⟩:=h;unfold Builtin.Dict.pairItems;refine wpAny_bind (wpAny_typeOf (show s.TypeIs (.ref b) "tuple" from⟨o,ho,hc⟩) ?_);have hT:s.TypeIs (.ref b) "tuple":=⟨o,ho,hc⟩;obtain⟨hp,g,d,tk,os⟩:=s;unfold seqItems?;have hd':o.data=.seq its n:=hd;obtain⟨c,dct,dat,sl⟩:=o;subst hd'
 repeat (any_goals (first|assumption|wp_step))
def q5l (h:Heap)(u:Value)(k:Key)(r:Value):Prop:=∃b ku,u=.ref b/\IsTup h b #[ku,r]/\RelV (kV k) ku
variable {prog:Program}{w:World}{A:Around}{R:Result->Shared->Prop}
theorem q0d {it l S:Addr}{items:Array Value}(hh:A.in1.handled=none)(hne:l≠it)(hSi:S≠it)(hSl:S≠l)(ps:List (Key×Value))(hps:ps.length=items.size)(hps':ps.length<=sizeLine) :
  ∀(k i:Nat)(s:Shared)(vs:List (Key×Value)),items.size - i=k->i<=items.size->s.heap.IsListIter it l i->s.heap.IsList l items->s.heap.DictOf (z2c prog w) S vs->vs.length<=i ->
  (∀(j:Nat)(kv:Key×Value)(u:Value),ps[j]? = some kv->items[j]? = some u->∃b,u=.ref b/\b≠S/\b≠it/\q5l s.heap u kv.1 kv.2) ->
  (∀h' tk,(∀b o,b≠it->b≠S->s.heap.get? b=some o->h'.get? b=some o)->h'.DictOf (z2c prog w) S (merged vs (ps.drop i))->R (.ok (.ret .none)) { s with heap:=h',toks:=tk }) ->
  codeAny (model prog w) A (.builtin "dict.update.loop" ⟨[.ref S,.ref it,rawInt i,.none],[]⟩) R s:=by
 intro k;have W:=(Walks.list (prog:=prog) (w:=w) (A:=A.in1) hh it l hne items);induction k with
 |zero =>
  intro i s vs hk hi h1 h2 hd hvl hp hR;have hin:i=items.size:=by omega
  subst hin;refine codeAny_builtin y5b ?_;rw[Around.under_plainId z7q _];show wpAny _ A.in1 (pyNext (.ref it) >>= _) _ _ s;refine wpAny_bind (W.done s _ _ ⟨h1,h2⟩ fun h' tk' hm=>?_);show wpAny _ _ (Builtin.Dict.addKeywords S [] >>= _) _ _ _;refine wpAny_bind (wpAny_pure (wpAny_pure (hR h' tk' (fun b o hb hb' e=>hm b o (by simpa using hb) e) ?_)));rw[drop_of_length_le (by omega)];obtain⟨o,es,ep,g,rest⟩:=hd;exact⟨o,es,ep,hm S o (by simpa using hSi) g,rest⟩
 |succ k ih =>
  intro i s vs hk hi h1 h2 hd hvl hp hR;have hlt:i<items.size:=by omega
  have hlt':i<ps.length:=by omega
  refine codeAny_builtin y5b ?_;rw[Around.under_plainId z7q _];show wpAny _ A.in1 (pyNext (.ref it) >>= _) _ _ s;refine wpAny_bind (W.item i s _ _ hlt ⟨h1,h2⟩ fun v h' tk' hv st' hm=>?_);obtain⟨b,eb,nbS,nbi,pa⟩:=hp i ps[i] v (getElem?_eq_getElem hlt') hv;obtain⟨b',ku,e2,ht,rk⟩:=pa;rw[eb]at e2;cases e2;subst eb;have kp:∀c o,c≠it->s.heap.get? c=some o->h'.get? c=some o:=fun c o hc e=>hm c o (by simpa using hc) e;have ht':IsTup h' b #[ku,ps[i].2]:=by obtain⟨o,ho,r⟩:=ht;exact⟨o,kp b o nbi ho,r⟩
  have hd':h'.DictOf (z2c prog w) S vs:=by
   obtain⟨o,es,ep,g,rest⟩:=hd;exact⟨o,es,ep,kp S o hSi g,rest⟩
  show wpAny _ A.in1 (holding [Value.ref b] _ >>= _) _ _ _;refine wpAny_bind (wpAny_holding ?_);refine wpAny_bind ?_;refine wpAny_tryCatch (y5v (s:={ s with heap:=h',toks:=tk' }) ht' ?_);show wpAny _ A.in1 (holding [ku,ps[i].2] (dictSet S ku ps[i].2)) _ _ _;refine wpAny_holding (wpAny_dictSet_pairs (x7l rk) hd' (fun h2' hd2 hs2=>?_) (by omega));show wpAny _ A.in1 (again _) _ _ _;refine wpAny_pure ⟨plainId_quiet z7q _,?_⟩;have kp2:∀c o,c≠it->c≠S->s.heap.get? c=some o->h2'.get? c=some o:=fun c o hc hc' e=>(hs2.2 c hc').trans (kp c o hc e);have ec:((i:Int)+1)=((i+1:Nat):Int):=by omega
  show codeAny _ _ (.builtin "dict.update.loop" ⟨[.ref S,.ref it,rawInt ((i:Int)+1),.none],[]⟩) _ _;rw[ec];refine ih (i+1) _ (stored vs ps[i].1 ps[i].2) (by omega) hlt (st'.1.at fun o e=>(hs2.2 it (Ne.symm hSi)).trans e) (st'.2.at fun o e=>(hs2.2 l (Ne.symm hSl)).trans e) hd2 ?_ ?_ ?_
  ·have:(stored vs ps[i].1 ps[i].2).length<=vs.length+1:=by
    unfold stored;split
    ·simp
    ·simp
   omega
  ·intro j kv u ej eu;obtain⟨c,e1,n1,n2,c',ku',e2,t2,r2⟩:=hp j kv u ej eu;rw[e1]at e2;cases e2;refine⟨c,e1,n1,n2,c,ku',e1,?_,r2⟩;obtain⟨o,ho,r⟩:=t2;exact⟨o,kp2 c o n2 n1 ho,r⟩
  ·intro h3 tk3 k3 d3;refine hR h3 tk3 (fun c o hc hc' e=>k3 c o hc hc' (kp2 c o hc hc' e)) ?_;have e4:ps.drop i=ps[i]::ps.drop (i+1):=drop_eq_getElem_cons hlt';rw[e4];exact d3
theorem q5q:∀{ps:List (Key×V)}{ys:List V}{us:List Value}{H:Hp}{h:Heap},(∀b o,H b=some o->ObjOk X.prog X.w H h b o)->Vals ys us->ps.length=ys.length->(∀(i:Nat) y kv,ys[i]? = some y->ps[i]? = some kv->∃b,y=.ref b/\H b=some (.tup [kV kv.1,kv.2])) ->
  ∃qs:List (Key×Value),KV ps qs/\qs.length=ps.length/\∀(j:Nat) kv u,qs[j]? = some kv->us[j]? = some u->∃b,u=.ref b/\(∃o,H b=some o)/\q5l h u kv.1 kv.2
 | [],[],_,H,h,hok,.nil,_,_=>⟨[],.nil,rfl,fun j kv u e=>by simp at e⟩
 | [],y::ys,_,H,h,hok,_,hl,_=>by simp at hl
 |p::ps,[],_,H,h,hok,_,hl,_=>by simp at hl
 |p::ps,y::ys,_,H,h,hok,.cons (b:=u) (l₂:=us) r rs,hl,hp=>by
  obtain⟨qs,k1,k2,k3⟩:=q5q (ps:=ps) (ys:=ys) (us:=us) hok rs (by simpa using hl) fun i y kv e1 e2=>hp (i+1) y kv (by simpa using e1) (by simpa using e2);obtain⟨b,rfl,hb⟩:=hp 0 y p rfl rfl;cases r;obtain⟨_,its,rv,ht⟩:=hok b _ hb;obtain⟨ku,u2,rfl,rk,ru⟩:=q8x rv;refine⟨(p.1,u2)::qs,.cons ⟨rfl,ru⟩ k1,by simp[k2],fun j kv u e1 e2=>?_⟩;cases j with
  |zero =>
   simp at e1 e2;subst e1 e2;exact⟨b,rfl,⟨_,hb⟩,b,ku,rfl,ht,rk⟩
  |succ j=>exact k3 j kv u (by simpa using e1) (by simpa using e2)
theorem y3t (hc:X.calm=true):z8i X (.type "dict") (fun xs H Q=>∃p ys,xs=[.ref p]/\H p=some (.lst ys)/\∃ps:List (Key×V),ps.length=ys.length/\(∀(i:Nat) y kv,ys[i]? = some y->ps[i]? = some kv->∃b,y=.ref b/\H b=some (.tup [kV kv.1,kv.2])) /\
  ∀l,H l=none->Q (.ref l) (upd H l (.dK (z7e [] ps)))):=by
 intro pins s σ H xs us Q I r h;obtain⟨p,ys,rfl,hp,ps,hl,hpair,q⟩:=h;obtain⟨u,rfl,ru⟩:=z8w r;cases ru;obtain⟨hz,its,nn,rv,el⟩:=I.hok p _ hp;have hlen:=rv.length;obtain⟨qs,kv1,kv2,kv3⟩:=q5q (X:=X) I.hok rv hl hpair;have lp:p<s.heap.objs.size:=lt_size el;refine callType_codes (Q₁:=fun obj s₁=>obj=.ref s.heap.objs.size/\s₁ = { s with heap:=s.heap.push { cls:=.type "dict",data:=.dict #[] } }) F.kt_called_dict (F.kt_typeCall_dict_1 _) F.entry_dict_init (kt_code_dict_new _ ⟨rfl,rfl⟩) ?_;rintro obj s₁ ⟨rfl,rfl⟩;have hnew:(s.heap.push { cls:=.type "dict",data:=.dict #[] }).DictOf (z2c X.prog X.w) s.heap.objs.size []:=Heap.DictOf.new s.heap;refine⟨hnew.typeIs,F.args_dict_init_2 _ _,?_⟩;unfold Builtin.«dict.__init__»;refine wpAny_bind ?_;unfold Builtin.Dict.selfAndRest;refine wpAny_bind (wpAny_notOrdered_dict hnew.typeIs ?_);show wpAny _ _ (pure (s.heap.objs.size,[Value.ref p])) _ _ _;refine wpAny_pure ?_;show wpAny _ _ (Builtin.Dict.updateFrom "dict.__init__" s.heap.objs.size (.ref p) [] .none) _ _ _;unfold Builtin.Dict.updateFrom;have el1:(s.heap.push { cls:=.type "dict",data:=.dict #[] }).get? p=some { cls:=.type "list",data:=.seq its.toArray nn }:=get?_push_of_some _ el;refine wpAny_bind (wpAny_typeOf (show Shared.TypeIs _ (.ref p) "list" from⟨_,el1,rfl⟩) ?_);rw[if_pos (by decide)];refine wpAny_bind (getAttr?_miss_list el1 (I.ok.hd hc) fun h2 tk2 k2=>?_);show wpAny _ _ (rule _ >>= fun _=>pyIter (.ref p) >>= fun it=>again (Code.builtin "dict.update.loop" { pos:=[Value.ref s.heap.objs.size,it,rawInt 0,Value.none] })) _ _ _;refine wpAny_bind (wpAny_rule ?_);have up1:∀b o,s.heap.get? b=some o->h2.get? b=some o:=fun b o e=>k2 b o (get?_push_of_some _ e);have el2:h2.get? p=some { cls:=.type "list",data:=.seq its.toArray nn }:=up1 _ _ el;have isl2:h2.IsList p its.toArray:=⟨_,el2,rfl,_,rfl⟩;refine wpAny_bind (wpAny_pyIter_list (s:={ s with heap:=h2,toks:=tk2 }) isl2 ?_);have hS2:∃o,h2.get? s.heap.objs.size=some o:=⟨_,k2 _ _ (get?_push_size _ rfl)⟩;have ltS:s.heap.objs.size<h2.objs.size:=let ⟨_,e⟩:=hS2;lt_size e;have ltp:p<h2.objs.size:=lt_size el2;have hd2:h2.DictOf (z2c X.prog X.w) s.heap.objs.size []:=by
  obtain⟨o,es,ep,g,rest⟩:=hnew;exact⟨o,es,ep,k2 _ _ g,rest⟩
 have hd3:(h2.push { cls:=.type "list_iterator",data:=.fields #[.ref p,.int 0 0] }).DictOf (z2c X.prog X.w) s.heap.objs.size []:=hd2.push _;refine wpAny_pure ⟨plainId_quiet z7q _,?_⟩;refine q0d (A:=X.A.in1) (prog:=X.prog) (w:=X.w) (it:=h2.objs.size) (l:=p) (S:=s.heap.objs.size) (items:=its.toArray) (I.ok.hd hc) (ne_of_lt ltp) (ne_of_lt ltS) (ne_of_gt lp) qs (by simp[kv2,hl,hlen]) (by rw[kv2,hl];exact hz) _ 0 { s with heap:=h2.push { cls:=.type "list_iterator",data:=.fields #[.ref p,.int 0 0] },toks:=tk2 } [] rfl (zero_le _) ⟨_,get?_push_size _ rfl,rfl,rfl⟩ (isl2.push _) hd3 (le_refl _) ?_ ?_
 ·intro j kv u e1 e2;obtain⟨b,rfl,⟨o,hb⟩,b',ku,e3,t3,r3⟩:=kv3 j kv u e1 (by simpa using e2);cases e3;obtain⟨o',ho',rr⟩:=t3;have lb:b<s.heap.objs.size:=lt_size ho';exact⟨b,rfl,ne_of_lt lb,ne_of_lt (lt_trans lb ltS),b,ku,rfl,⟨o',get?_push_of_some _ (up1 _ _ ho'),rr⟩,r3⟩
 ·intro h' tk k3 d3;refine⟨rfl,.ref s.heap.objs.size,upd H s.heap.objs.size (.dK (z7e [] ps)),I.laid (t':=tk) (fun b o e=>?_) (le_refl _) (q5w ?_ (beq_eq_false_iff_ne.mpr (Ne.symm (ne_of_lt I.big))) (KV.merge kv1 .nil) d3),rfl,q _ I.fresh⟩
  ·have lb:b<s.heap.objs.size:=lt_size e;exact k3 b o (ne_of_lt (lt_trans lb ltS)) (ne_of_lt lb) (get?_push_of_some _ (up1 b o e))
  ·have:∀(ps kvs:List (Key×V)),(z7e kvs ps).length<=kvs.length+ps.length:=by
    intro ps;induction ps with
    |nil=>intro kvs;exact le_refl _
    |cons a r ih =>
     intro kvs;have h1:=ih (putK kvs a.1 a.2);have h2:=z8h kvs a.1 a.2;show(z7e (putK kvs a.1 a.2) r).length<=_;simp only[length_cons];omega
   have:=this ps [];simp at this;omega
open PySem.SeqAt
noncomputable def Itn (a:Addr):It :=
 ⟨fun i H=>∃xs x,H a=some (.lst xs)/\xs[i]? = some x,
 fun i H v H'=>∃t,v=.ref t/\H t=none/\∀xs,H a=some (.lst xs)->∃x,xs[i]? = some x/\H' = upd H t (.tup [.int (i:Int),x]),
 fun i H=>∃xs,H a=some (.lst xs)/\xs[i]? = none⟩
theorem x8h {P:Program}{w:World}{K:W.Frag}{elts:List Expr}{x1:Nat}{pos:Pos}{l e it:Addr}(nd:e≠it) :
  Turn P w K (.Tuple elts x1 pos) (Itn l) [e,it] e (fun i h=>(∃old,IsEnum h e it ((i:Nat):Int) old)/\h.IsListIter it l i) where
 mem:=by simp
 obj:=fun i h st b hb=>by
  obtain⟨⟨old,h1⟩,⟨o4,e4,c4,d4⟩⟩:=st;simp only[mem_cons,not_mem_nil,or_false]at hb;rcases hb with rfl|rfl
  ·exact⟨_,h1,fun v z=>by cases z⟩
  ·exact⟨_,e4,fun v z=>by rw[d4]at z;cases z⟩
 keep:=fun i h h' ⟨⟨old,h1⟩,h4⟩ k=>⟨⟨old,k e (by simp) _ h1⟩,h4.at fun o q=>k it (by simp) o q⟩
 item:=by
  intro X hP hw hK hc i pins s σ H E I hf st hg;subst hP hw hK;obtain⟨⟨old,h1⟩,h4⟩:=st;obtain⟨xs,x,ha,hx⟩:=hg;obtain⟨us,ru,pu,_⟩:=I.list (SqL.of ha);obtain⟨ux,ex,rx⟩:=ru.get hx;refine wpAny_pyNext_enum_item h1 h4 pu.isList (x:=ux) (by simpa using ex) nd fun h' a1 a3 a5 a6 a7=>?_;have I1:Inv X pins σ (upd H s.heap.objs.size (.tup [.int (i:Int),x])) { s with heap:=h',toks:=s.toks+1 }:=I.turnsLaid (t':=s.toks+1) (ch:=[e,it]) (fun b u hb q=>a7 b u (fun z=>hb (by simp[z])) (fun z=>hb (by simp[z])) q)
   hf (le_refl _) (show ObjOk X.prog X.w _ h' _ (.tup [.int (i:Int),x]) from⟨by show 2<=sizeLine;decide,[_,ux],.cons ⟨_,rfl⟩ (.cons rx .nil),⟨_,a5,rfl,_,rfl⟩⟩)
  have hfr:=I.fresh;have old':∀b∈[e,it],upd H s.heap.objs.size (.tup [.int (i:Int),x]) b=none:=fun b hb=>by
   rw[z2y];refine⟨fun q=>?_,(hf b hb).1⟩;have ob:∃o,s.heap.get? b=some o:=by
    obtain⟨o4,e4,_⟩:=h4;simp only[mem_cons,not_mem_nil,or_false]at hb;rcases hb with rfl|rfl
    ·exact⟨_,h1⟩
    ·exact⟨_,e4⟩
   obtain⟨o,eo⟩:=ob;exact absurd (lt_size eo) (by rw[q];exact lt_irrefl _)
  refine⟨_,rfl,wpAny_letOwnedTupleGo_enum (s:={ s with heap:=h',toks:=s.toks+1 }) a1 fun h2' b1 b2=>?_⟩;obtain⟨_,f1,f2,f3,f4⟩:=hf e (by simp);have I2:Inv X pins σ (upd H s.heap.objs.size (.tup [.int (i:Int),x])) { s with heap:=h2',toks:=s.toks+1 }:=I1.turned (t':=s.toks+1) (fun b o hb q=>(b2.2 b hb).trans q) (old' e (by simp)) f1 f3 f4.1 f4.2;refine⟨.ref s.heap.objs.size,_,I2,rfl,⟨_,rfl,hfr,fun xs' q1=>?_⟩,⟨⟨ux,?_⟩,a3.at fun o q=>(b2.2 it (Ne.symm nd)).trans q⟩,old'⟩
  ·rw[ha]at q1;cases q1;exact⟨x,hx,rfl⟩
  ·have:((i+1:Nat):Int)=(i:Int)+1:=by push_cast;rfl
   rw[this];exact b1
 done:=by
  intro X hP hw hK hc i pins s σ H E I hf st hg;subst hP hw hK;obtain⟨⟨old,h1⟩,h4⟩:=st;obtain⟨xs,ha,hend⟩:=hg;obtain⟨us,ru,pu,_⟩:=I.list (SqL.of ha);refine wpAny_pyNext_enum_end (I.ok.hd hc) h1 h4 pu.isList (by simpa using Vals.none_of ru hend) fun h' hk=>⟨rfl,I.turneds (t':=s.toks) (ch:=[e,it]) (fun b u hb q=>hk b u (fun z=>hb (by simp[z])) q) hf⟩
 self:=fun _ _ _ _ _ st h=>by
  obtain⟨⟨old,h1⟩,_⟩:=st;exact wpAny_pyIter_enum h1 h
def j9 (ta:TA):TI:=fun σ H R=>ta σ H fun vs H1=>∃a,vs=[.ref a]/\∃xs,H1 a=some (.lst xs)/\R (Itn a) H1
theorem q9i {elts:List Expr}{x1:Nat}{pt:Pos}{e1:Expr}{ta:TA}{p pos:Pos}(hg:Gl X "enumerate")(hm:X.mg "enumerate" = none)(ha:PA X [e1] ta)(hs:starEach [e1] X.env=(false,eval e1 X.env)::starEach [] X.env:=by rfl)(hpl:(backTo pos (starEach [] X.env)).any (·.1)=false:=by rfl) :
  PI X (.Tuple elts x1 pt) (.Call (.Name "enumerate" p) [e1] [] pos) (j9 ta):=by
 intro pins s σ H R I h;refine wpAny_Call_Name_kw (z9k I hg hm boot_enumerate ?_);refine PyProof.Rows.callWith_type1 (thn (ha pos pins s σ H _ I h) fun us s1 zq=>?_) hs hpl;obtain⟨vs,H1,I1,r1,q1⟩:=zq;obtain⟨a,rfl,xs,hA,q⟩:=q1;obtain⟨u,rfl,ru⟩:=z8w r1;cases ru;obtain⟨us,ru,pu,_⟩:=I1.list (SqL.of hA);refine call_enumerate_list pu.isList fun h' z1 z2 z3 z7=>wpAny_pyIter_enum z1 ?_;refine⟨s1.heap.objs.size+1,_,_,_,H1,rfl,I1.kept (t':=s1.toks) z7,x8h (by show(_:Nat)≠_;omega),⟨⟨_,z1⟩,z2⟩,fun c hc=>?_,q⟩;have hge:s1.heap.objs.size<=c:=by
  simp only[mem_cons,not_mem_nil,or_false]at hc;rcases hc with rfl|rfl
  ·exact le_add_right _ _
  ·exact le_refl _
 exact I1.fpOk hge (I1.hok.fresh hge)
end
end L2
namespace L2
open PySem PySem.Spec PyProof.Rows
noncomputable def z6k (acc:List Str)(x:Str):List Str:=if x∈acc then acc else acc++[x]
noncomputable def metS (val:Nat->Str)(i:Nat):List Str:=((range i).map val).foldl z6k []
theorem y9a (val:Nat->Str)(i:Nat):metS val (i+1)=z6k (metS val i) (val i):=by
 unfold metS;rw[List.range_succ,map_append,List.foldl_append];rfl
theorem y7w (acc:List Str)(x:Str):(z6k acc x).length=if decide (x∈acc)=true then acc.length else acc.length+1:=by
 unfold z6k;by_cases h:x∈acc<;>simp[h]
theorem x9k (acc:List Str)(x y:Str):decide (y∈z6k acc x)=(decide (y∈acc)||decide (y=x)):=by
 unfold z6k;by_cases h:x∈acc
 ·rw[if_pos h];by_cases e:y=x
  ·subst e;simp[h]
  ·simp[e]
 ·rw[if_neg h];simp
theorem y6e (val:Nat->Str):∀i,(metS val i).length<=i
 |0=>le_refl _
 |i+1=>by
  have h0:=y6e val i;rw[y9a,y7w];split<;>omega
section
variable {pg:Program}{w:World}{A:Around}{R:Result->Shared->Prop}{J:Addr}{fp wr:List Addr}{G:Array GenState->Array GenState->Prop}{n:Nat}{P:Nat->Value->Prop}{St:Nat->Shared->Prop}
theorem y5g {a:Addr}{M:Str->Bool}{c:Nat}{h1 h2:Heap}(k:∀o,h1.get? a=some o->h2.get? a=some o)(z:h1.SetOf (strKind pg w) a M c):h2.SetOf (strKind pg w) a M c:=by
 obtain⟨o,es,ep,tb,ho,more⟩:=z;exact⟨o,es,ep,tb,k _ ho,more⟩
theorem y4m (W:WalksS pg w A.in1 J fp wr G n P St)(a:Addr)(out:a∉fp)(val:Nat->Str)(txt:∀i v,P i v->∃t,v=.str (val i) t)(room:n+1<scanBound) :
  ∀(k i:Nat)(s:Shared),n - i=k->i<=n->St i s->s.heap.SetOf (strKind pg w) a (fun c=>decide (c∈metS val i)) (metS val i).length ->
   (∀s2,Moved (a::wr) G s s2->s2.heap.SetOf (strKind pg w) a (fun c=>decide (c∈metS val n)) (metS val n).length->R (.ok (.ret .none)) s2) ->
   codeAny (model pg w) A (.builtin "set.update.loop" ⟨[.ref a,.ref J],[]⟩) R s:=by
 have outw:a∉wr:=fun z=>out (W.sub _ z);have wider:∀b∈wr,b∈a::wr:=fun b q=>mem_cons_of_mem _ q;intro k;induction k with
 |zero =>
  intro i s ek le st z kR;have e:i=n:=by omega
  subst e;refine codeAny_builtin PyProof.Rows.F.entry_set_update_loop ?_;rw[Around.under_plainId PyProof.Rows.F.plain_set_update_loop _];show wpAny _ A.in1 (pyNext (.ref J) >>= _) _ _ s;refine wpAny_bind (W.done s _ _ st fun s2 mv=>?_);show wpAny _ A.in1 (ret Value.none) _ _ s2;exact wpAny_pure (kR s2 (mv.mono wider) (y5g (fun o q=>mv.heap a o outw q) z))
 |succ k ih =>
  intro i s ek le st z kR;have lt:i<n:=by omega
  refine codeAny_builtin PyProof.Rows.F.entry_set_update_loop ?_;rw[Around.under_plainId PyProof.Rows.F.plain_set_update_loop _];show wpAny _ A.in1 (pyNext (.ref J) >>= _) _ _ s;refine wpAny_bind (W.item i s _ _ lt st fun v s2 hP st2 mv=>?_);obtain⟨t,rfl⟩:=txt i v hP;have z2:=y5g (pg:=pg) (w:=w) (fun o q=>mv.heap a o outw q) z;show wpAny _ A.in1 (holding [Value.str (val i) t] (setAdd a (.str (val i) t)) >>= _) _ _ s2;refine wpAny_bind (wpAny_holding ?_);unfold setAdd;refine wpAny_holding ?_;refine wpAny_bind ((strKind pg w).pyHash (k:=val i) (strKind_is _ _ _ _) ?_);have few:=y6e val i;refine wpAny_setAddHashed_of (knd:=strKind pg w) (s:={ s2 with toks:=s2.toks+1 }) (strKind_is _ _ _ _) rfl z2 (by omega) fun h2 sb z3=>?_;have z4:h2.SetOf (strKind pg w) a (fun c=>decide (c∈metS val (i+1))) (metS val (i+1)).length :=
   PyProof.Rows.SetOf_congr z3 (fun c=>by rw[y9a,x9k]) (by rw[y9a,y7w])
  refine wpAny_pure ⟨plainId_quiet PyProof.Rows.F.plain_set_update_loop _,ih (i+1) _ (by omega) lt (W.frame _ s2 _ _ st2 (le_succ _) fun b hb o q=>?_) z4 fun s3 mv3 z5=>?_⟩
  ·rw[sb.2 b (fun y:b=a=>out (by rw[<-y];exact hb))];exact q
  ·refine kR s3 (Moved.trans W.gtrans ((mv.mono wider).then_heap (le_succ _) fun b o hb q=>?_) mv3) z5;rw[sb.2 b (fun y:b=a=>hb (by rw[y];exact mem_cons_self))];exact q
variable {E:Value->Shared->Prop}{s:Shared}
set_option maxHeartbeats 3200000 in
theorem y4u {l:Addr}{its:Array Value}{ks:List Str}{Q:Value->Shared->Prop}(calm:A.handled=none)(lst:s.heap.IsList l its)
  (txt:∀(i:Nat)(v:Value),its[i]? = some v->∃t,v=.str (ks.getD i "") t)(room:its.size+1<scanBound)
  (kQ:∀(h2:Heap)(tk:Nat),h2.SetOf (strKind pg w) s.heap.objs.size (fun c=>decide (c∈metS (fun i=>ks.getD i "") its.size)) (metS (fun i=>ks.getD i "") its.size).length ->
   (∀b o,b<s.heap.objs.size->s.heap.get? b=some o->h2.get? b=some o)->Q (.ref s.heap.objs.size) { s with heap:=h2,toks:=tk }) :
  wpAny (model pg w) A (call (.type "set") [.ref l]) Q E s:=by
 obtain⟨c0,c1,mro⟩:=called_set.mro;have made0:=called_set.made;have sub0:=called_set.sub;refine wpAny_call (codeAny_of_tree (?_:wpAny _ _ (callAny (.type "set") _) _ _ _));refine wpAny_pure ⟨Code.quiet_builtin _ (by decide +kernel),codeAny_builtin PySem.F.entry_type_call ?_⟩;rw[Around.under_plain (weight_type_call_type "set" [.ref l] []) rfl];have f1:=called_set.notType;have f2:=called_set.canCreate;have f3:=PySem.F.typeCall_set_1 (.ref l)
 repeat (any_goals (first|assumption|wp_step))
 refine codeAny_mono (code_set_new_1 (.ref l) (E:=E) (Q₁:=fun ob s2=>∃led:Bool,ob=.ref s.heap.objs.size/\s2 = { s with heap:=s.heap.push (⟨.type "set",none,.set #[] 0 (.fresh 0 0 led),#[]⟩:Obj) }) fun led=>⟨led,rfl,rfl⟩) fun r s2 hr=>?_;cases r with
 |error e=>exact hr
 |ok fl =>
  cases fl with
  |ret ob =>
   obtain⟨led,rfl,rfl⟩:=hr;have at0:(s.heap.push (⟨.type "set",none,.set #[] 0 (.fresh 0 0 led),#[]⟩:Obj)).get? s.heap.objs.size=some ⟨.type "set",none,.set #[] 0 (.fresh 0 0 led),#[]⟩:=get?_push_size _ rfl;have ty0:Shared.TypeIs { s with heap:=s.heap.push (⟨.type "set",none,.set #[] 0 (.fresh 0 0 led),#[]⟩:Obj) } (.ref s.heap.objs.size) "set":=⟨_,at0,rfl⟩;have f4:=called_set.init.lookup;have f5:=called_set.init.bind (.ref s.heap.objs.size)
   repeat (any_goals (first|assumption|wp_step))
   refine codeAny_mono (codeAny_call_builtin (R:=wants (fun r s3=>r=.none/\∃h2 tk,s3 = { s with heap:=h2,toks:=tk } /\
     h2.SetOf (strKind pg w) s.heap.objs.size (fun c=>decide (c∈metS (fun i=>ks.getD i "") its.size)) (metS (fun i=>ks.getD i "") its.size).length /\
     (∀b o,b<s.heap.objs.size->s.heap.get? b=some o->h2.get? b=some o)) E) called_set.init.plain PySem.F.entry_set_init (check_set_init_1 ty0 ?_)) fun r3 s3 hr3=>?_
   ·obtain⟨⟨ocls,odict,odata,oslots⟩,ol1,ol2,nl,ol3⟩:=lst;replace ol2:ocls=.type "list":=ol2;replace ol3:odata=.seq its nl:=ol3;subst ol2 ol3;have ol4:(s.heap.push (⟨.type "set",none,.set #[] 0 (.fresh 0 0 led),#[]⟩:Obj)).get? l=some ⟨.type "list",odict,.seq its nl,oslots⟩:=get?_push_of_some _ ol1;have f6:=PySem.F.sub_list_set;have f7:=PySem.F.sub_list_frozenset;have f8:(Value.type "list" == Value.type "dict")=false:=by decide
    have lst1:(s.heap.push (⟨.type "set",none,.set #[] 0 (.fresh 0 0 led),#[]⟩:Obj)).IsList l its:=⟨_,ol4,rfl,nl,rfl⟩;unfold Builtin.«set.__init__» noKeywords Builtin.Frozenset.updateFrom;generalize ePI:pyIter=PI
    wp_walk
    subst ePI;refine wpAny_pyIter_list lst1 (wpAny_bind (wpAny_runValue ?_));have lt0:l<s.heap.objs.size:=lt_size ol1;have calm3:A.in1.in1.in1.handled=none:=by simp[calm]
    have far:l≠(s.heap.push (⟨.type "set",none,.set #[] 0 (.fresh 0 0 led),#[]⟩:Obj)).objs.size:=by
     rw[size_push];exact ne_of_lt (Nat.lt_succ_of_lt lt0)
    have out:s.heap.objs.size∉[(s.heap.push (⟨.type "set",none,.set #[] 0 (.fresh 0 0 led),#[]⟩:Obj)).objs.size,l]:=by
     rw[size_push];simp only[mem_cons,mem_singleton,not_mem_nil,or_false,not_or];exact⟨ne_of_lt (Nat.lt_succ_self _),ne_of_gt lt0⟩
    refine y4m ((Walks.list calm3 _ l far its).toS) s.heap.objs.size out (fun i=>ks.getD i "") txt room (its.size - 0) 0 _ (by omega) (zero_le _) ⟨⟨_,get?_push_size _ rfl,rfl,rfl⟩,lst1.push _⟩ ?z0 ?kR
    case z0 =>
     have at1:=get?_push_of_some (⟨.type "list_iterator",none,.fields #[.ref l,.int 0 0],#[]⟩:Obj) at0;exact PyProof.Rows.SetOf_congr ((PyProof.Rows.setObjOf_fresh (knd:=strKind pg w) led).setOf at1 (by unfold scanBound;omega)) (fun _=>rfl) rfl
    case kR =>
     rintro⟨h2,g2,d2,tk2,os2⟩ mv z;have eg:g2=s.gens:=mv.gens;have ed:d2=s.drawn:=mv.drawn;have eo:os2=s.os:=mv.os;subst eg ed eo;refine(?_:wpAny _ _ _ _ _ _);refine wpAny_pure (?_:wpAny _ _ (ret Value.none) _ _ _);refine wpAny_pure ⟨rfl,h2,tk2,rfl,z,fun b o hb q=>mv.heap b o ?_ (get?_push_of_some _ (get?_push_of_some _ q))⟩;simp only[mem_cons,mem_singleton,not_mem_nil,or_false,not_or];exact⟨ne_of_lt hb,by rw[size_push];exact ne_of_lt (Nat.lt_succ_of_lt hb)⟩
   ·cases r3 with
    |error e=>exact hr3
    |ok fl3 =>
     cases fl3 with
     |ret r =>
      obtain⟨rfl,h2,tk,rfl,z,kk⟩:=hr3
      repeat (any_goals (first|assumption|wp_step))
      exact kQ _ _ z kk
     |_=>exact hr3.elim
  |_=>exact hr.elim
variable {X:Cx}
def z5h (te:TE):TE:=fun σ H Q=>te σ H fun x H1=>∃(a:Addr)(ks:List Str),x=.ref a/\H1 a=some (.lst (ks.map V.str))/\ks.length<=4000/\Q (.int (metS (fun i=>ks.getD i "") ks.length).length) H1
theorem y8g {e:Expr}{te:TE}{p p2 p3 p4:Pos}(hc:X.calm=true)(gl:Gl X "len")(ml:X.mg "len" = none)(gs:Gl X "set")(ms:X.mg "set" = none)(he:PE X e te)
  (s2:starEach [e] X.env=(false,eval e X.env)::starEach [] X.env:=by rfl)(n2:(backTo p3 (starEach [] X.env)).any (·.1)=false:=by rfl)
  (s1:starEach [.Call (.Name "set" p2) [e] [] p3] X.env=(false,eval (.Call (.Name "set" p2) [e] [] p3) X.env)::starEach [] X.env:=by rfl)(n1:(backTo p4 (starEach [] X.env)).any (·.1)=false:=by rfl) :
  PE X (.Call (.Name "len" p) [.Call (.Name "set" p2) [e] [] p3] [] p4) (z5h te):=by
 intro pins s σ H Q I h;refine wpAny_Call_Name_kw (z9k I gl ml PySem.boot_len ?_);refine PyProof.Rows.callWith_builtin1 ?_ s1 n1;rw[s1];show wpAny _ _ (spliced ((false,eval (.Call (.Name "set" p2) [e] [] p3) X.env)::backTo p4 (starEach [] X.env))) _ _ s;refine Calls.spliced_cons ?_;refine wpAny_Call_Name_kw (z9k I gs ms boot_set ?_);refine PyProof.Rows.callWith_type1 (thn (z0i he z0p s2 p3 pins s σ H (fun vs H1=>∃(a:Addr)(ks:List Str),vs=[.ref a]/\H1 a=some (.lst (ks.map V.str))/\ks.length<=4000/\Q (.int (metS (fun i=>ks.getD i "") ks.length).length) H1) I ?_) fun us sa ⟨vs,H1,I1,r1,q1⟩=>?_) s2 n2
 ·show te σ H fun x H1=>_;refine(?_:te σ H _);have e:(fun(x:V)(H1:Hp)=>∃(a:Addr)(ks:List Str),x=V.ref a/\H1 a=some (.lst (ks.map V.str))/\ks.length<=4000/\Q (.int (metS (fun i=>ks.getD i "") ks.length).length) H1)=fun x H1=>tNil σ H1 fun vs H2=>∃(a:Addr)(ks:List Str),x::vs=[V.ref a]/\H2 a=some (.lst (ks.map V.str))/\ks.length<=4000/\Q (.int (metS (fun i=>ks.getD i "") ks.length).length) H2:=by
   funext x H1;simp only[tNil,List.cons.injEq,and_true]
  rw[<-e];exact h
 ·obtain⟨a,ks,rfl,ha,hl,q⟩:=q1;obtain⟨u,rfl,ru⟩:=z8w r1;cases ru;obtain⟨its,rv,pl,_⟩:=I1.list (SqL.of ha);have len:its.length=ks.length:=by have:=rv.length;simp at this;exact this.symm
  refine y4u (ks:=ks) (I1.ok.hd hc) pl.isList (fun i v ev=>?_) (by simp[len,scanBound];omega) fun h2 tk z kk=>?_
  ·have ev':its[i]? = some v:=by simpa using ev
   have hi:i<ks.length:=by rw[<-len];exact(List.getElem?_eq_some_iff.mp ev').1
   obtain⟨u,eu,ru⟩:=rv.get (i:=i) (x:=.str (ks.getD i "")) (by simp[hi]);rw[ev']at eu;cases eu;exact ru
  ·refine Calls.spliced_nil ?_;obtain⟨o,es,ep,tb,ho,ex,hd,_,_,_,hf,hz⟩:=z;have I2:Inv X pins σ H1 { sa with heap:=h2,toks:=tk }:=I1.kept (t':=tk) fun b o q=>kk b o (lt_size q) q;have few:=y6e (fun i=>ks.getD i "") its.toArray.size;refine call_len_set ho ex hd hf (by rw[hz];simp at few ⊢;omega) ⟨.int (es.size:Int),H1,I2.tok _,⟨_,rfl⟩,?_⟩;rw[hz];simpa[len] using q
def tSlR (te:TE):TE:=fun σ H Q=>te σ H fun x H1=>∃a,x=.ref a/\∃xs,H1 a=some (.lst xs)/\∀p,H1 p=none->Q (.ref p) (upd H1 p (.lst xs.reverse))
theorem x9e {e:Expr}{te:TE}{k1:Nat}{p1 p0 p2 pos:Pos}(he:PE X e te):PE X (.Subscript e (.Slice none none (some (.UnaryOp .USub (.Constant (.int 1) k1 p1) p0)) p2) pos) (tSlR te):=by
 intro pins s σ H Q I h;refine Subscript_ (thn (he pins s σ H _ I h) fun v s1 zq=>?_);obtain⟨x,H1,I1,r1,q1⟩:=zq;obtain⟨a,rfl,xs,ha,q⟩:=q1;cases r1;refine wpAny_Slice ?_;rw[evalPart_none];refine wpAny_pure (wpAny_pure ?_);refine thn (y9y (x3v y5h z2q) pins s1 σ H1 (fun o H2=>o=some (-1)/\H2=H1) I1 ⟨1,rfl,-1,rfl,rfl,rfl⟩) fun vu s3 zq=>?_;obtain⟨o,H3,I3,pu,eo,eH⟩:=zq;subst eo eH;have I4:Inv X pins σ H3 { s3 with heap:=s3.heap.push { cls:=.type "slice",data:=.fields #[.none,.none,vu] } }:=I3.kept (t':=s3.toks) fun b ob q=>get?_push_of_some _ q;refine(?_:wpAny (model X.prog X.w) X.A (subscriptTail e _ (.ref a) (.ref s3.heap.objs.size)) (EP X pins σ Q) X.xe { s3 with heap:=s3.heap.push { cls:=.type "slice",data:=.fields #[.none,.none,vu] } });obtain⟨its,r,ht,hz⟩:=I4.list (SqL.of ha);have hlen:=r.length;refine tail_any (ops:=[.ref a,.ref s3.heap.objs.size]) ht.isList.typeIs slot_list_getitem.lookup ?_ (by with_unfolding_all rfl);refine wpAny_getItem_list_slice ht.isList (Heap.IsSliceOf.new ..) .none .none pu (by simp) ?_ (by rw[size_toArray]<;>omega);rw[W.krv_pick];refine⟨.ref _,_,I4.laid (t':=s3.toks) (o:=.lst xs.reverse) (fun b ob q=>get?_push_of_some _ q) (le_refl _) ?_,rfl,q _ (I4.hok.fresh (le_refl _))⟩;exact⟨by simpa using hz,its.reverse,0,r.reverse,get?_push_size _ rfl⟩
end
end L2
namespace VL
open PySem L2
inductive D where
 |non|bl (b:Bool)|int (i:Int)|str (x:Str)|ty (n:String)
 |lst (xs:List D)|tup (xs:List D)|dct (kvs:List (Key×D))
mutual
def Rep (F:Hp):D->V->Prop
 |.non,v=>v=.non
 |.bl b,v=>v=.bl b
 |.int i,v=>v=.int i
 |.str x,v=>v=.str x
 |.ty n,v=>v=.ty n
 |.lst ds,v=>∃a vs,v=.ref a/\F a=some (.lst vs)/\Reps F ds vs
 |.tup ds,v=>∃a vs,v=.ref a/\F a=some (.tup vs)/\Reps F ds vs
 |.dct kds,v=>∃a kvs,v=.ref a/\F a=some (.dK kvs)/\RepK F kds kvs
def Reps (F:Hp):List D->List V->Prop
 | [],vs=>vs=[]
 |d::ds,vs=>∃v r,vs=v::r/\Rep F d v/\Reps F ds r
def RepK (F:Hp):List (Key×D)->List (Key×V)->Prop
 | [],vs=>vs=[]
 |p::ds,vs=>∃v r,vs=v::r/\RepP F p v/\RepK F ds r
def RepP (F:Hp):Key×D->Key×V->Prop
 |(k,d),q=>q.1=k/\Rep F d q.2
end
mutual
theorem Rep.mono {F F':Hp}(s:Same F F'):∀(d:D)(v:V),Rep F d v->Rep F' d v
 |.non,v,h=>h
 |.bl b,v,h=>h
 |.int i,v,h=>h
 |.str x,v,h=>h
 |.ty n,v,h=>h
 |.lst ds,v,h=>by obtain⟨a,vs,e,h1,h2⟩:=h;exact⟨a,vs,e,s _ _ h1,Reps.mono s ds vs h2⟩
 |.tup ds,v,h=>by obtain⟨a,vs,e,h1,h2⟩:=h;exact⟨a,vs,e,s _ _ h1,Reps.mono s ds vs h2⟩
 |.dct kds,v,h=>by obtain⟨a,vs,e,h1,h2⟩:=h;exact⟨a,vs,e,s _ _ h1,RepK.mono s kds vs h2⟩
theorem Reps.mono {F F':Hp}(s:Same F F'):∀(ds:List D)(vs:List V),Reps F ds vs->Reps F' ds vs
 | [],vs,h=>h
 |d::ds,vs,h=>by obtain⟨v,r,e,h1,h2⟩:=h;exact⟨v,r,e,Rep.mono s d v h1,Reps.mono s ds r h2⟩
theorem RepK.mono {F F':Hp}(s:Same F F'):∀(ds:List (Key×D))(vs:List (Key×V)),RepK F ds vs->RepK F' ds vs
 | [],vs,h=>h
 |p::ds,vs,h=>by obtain⟨v,r,e,h1,h2⟩:=h;exact⟨v,r,e,RepP.mono s p v h1,RepK.mono s ds r h2⟩
theorem RepP.mono {F F':Hp}(s:Same F F'):∀(p:Key×D)(q:Key×V),RepP F p q->RepP F' p q
 |(k,d),q,h=>⟨h.1,Rep.mono s d q.2 h.2⟩
end
theorem Reps.len {F:Hp}:∀{ds:List D}{vs:List V},Reps F ds vs->ds.length=vs.length
 | [],vs,h=>by cases(show vs=[] from h);rfl
 |d::ds,vs,h=>by obtain⟨v,r,rfl,h1,h2⟩:=h;simp[Reps.len h2]
theorem Reps.get {F:Hp}:∀{ds:List D}{vs:List V}{i:Nat}{d:D},Reps F ds vs->ds[i]? = some d->∃v,vs[i]? = some v/\Rep F d v
 | [],vs,i,d,h,e=>by simp at e
 |d::ds,vs,0,d',h,e=>by obtain⟨v,r,rfl,h1,h2⟩:=h;simp at e;subst e;exact⟨v,rfl,h1⟩
 |d::ds,vs,i+1,d',h,e=>by obtain⟨v,r,rfl,h1,h2⟩:=h;simpa using Reps.get h2 (by simpa using e)
theorem Reps.app {F:Hp}:∀{ds es:List D}{vs us:List V},Reps F ds vs->Reps F es us->Reps F (ds++es) (vs++us)
 | [],es,vs,us,h,h'=>by cases(show vs=[] from h);exact h'
 |d::ds,es,vs,us,h,h'=>by obtain⟨v,r,rfl,h1,h2⟩:=h;exact⟨v,r++us,rfl,h1,Reps.app h2 h'⟩
theorem Reps.one {F:Hp}{d:D}{v:V}(h:Rep F d v):Reps F [d] [v]:=⟨v,[],rfl,h,rfl⟩
theorem Reps.take {F:Hp}:∀{ds:List D}{vs:List V}(n:Nat),Reps F ds vs->Reps F (ds.take n) (vs.take n)
 |_,_,0,_=>by rw[take_zero,take_zero];rfl
 | [],vs,n+1,h=>by cases(show vs=[] from h);rfl
 |d::ds,vs,n+1,h=>by obtain⟨v,r,rfl,h1,h2⟩:=h;exact⟨v,r.take n,rfl,h1,Reps.take n h2⟩
theorem Reps.drop {F:Hp}:∀{ds:List D}{vs:List V}(n:Nat),Reps F ds vs->Reps F (ds.drop n) (vs.drop n)
 |_,_,0,h=>h
 | [],vs,n+1,h=>by cases(show vs=[] from h);rfl
 |d::ds,vs,n+1,h=>by obtain⟨v,r,rfl,h1,h2⟩:=h;exact Reps.drop n h2
theorem Reps.set {F:Hp}{d:D}{v:V}(h:Rep F d v):∀{ds:List D}{vs:List V}(n:Nat),Reps F ds vs->Reps F (ds.set n d) (vs.set n v)
 | [],vs,n,h=>by cases(show vs=[] from h);rfl
 |d::ds,vs,0,h=>by obtain⟨v',r,rfl,h1,h2⟩:=h;exact⟨_,r,rfl,by assumption,h2⟩
 |d::ds,vs,n+1,h=>by obtain⟨v',r,rfl,h1,h2⟩:=h;exact⟨v',r.set n v,rfl,h1,Reps.set (by assumption) n h2⟩
theorem Reps.rev {F:Hp}:∀{ds:List D}{vs:List V},Reps F ds vs->Reps F ds.reverse vs.reverse
 | [],vs,h=>by cases(show vs=[] from h);rfl
 |d::ds,vs,h=>by
  obtain⟨v',r,rfl,h1,h2⟩:=h;rw[reverse_cons,reverse_cons];exact(Reps.rev h2).app (.one h1)
theorem Reps.dropLast {F:Hp}{ds:List D}{vs:List V}(h:Reps F ds vs):Reps F ds.dropLast vs.dropLast:=by
 rw[List.dropLast_eq_take,List.dropLast_eq_take,h.len];exact h.take _
inductive Slot where
 |no
 |fz (d:D)
 |ob (io:Bool)(c:D)
 |sc (K:W.Frag)(ns:List Int)
def Cont (F H:Hp)(a:Addr):D->Prop
 |.lst ds=>∃vs,H a=some (.lst vs)/\Reps F ds vs
 |.dct kds=>∃kvs,H a=some (.dK kvs)/\RepK F kds kvs
 |_=>False
theorem Cont.mono {F F' H H':Hp}{a:Addr}{c:D}(s:Same F F')(e:∀o,H a=some o->H' a=some o)(h:Cont F H a c):Cont F' H' a c:=by
 cases c with
 |lst ds=>obtain⟨vs,h1,h2⟩:=h;exact⟨vs,e _ h1,Reps.mono s _ _ h2⟩
 |dct ds=>obtain⟨vs,h1,h2⟩:=h;exact⟨vs,e _ h1,RepK.mono s _ _ h2⟩
 |_=>exact h.elim
theorem Cont.some {F H:Hp}{a:Addr}{c:D}(h:Cont F H a c):∃o,H a=some o:=by
 cases c with
 |lst ds=>obtain⟨vs,h1,h2⟩:=h;exact⟨_,h1⟩
 |dct ds=>obtain⟨vs,h1,h2⟩:=h;exact⟨_,h1⟩
 |_=>exact h.elim
theorem Cont.rep {F H:Hp}{a:Addr}{c:D}(h:Cont F H a c)(hf:F a=none):∃o,H a=Option.some o/\Rep (upd F a o) c (.ref a):=by
 have s:∀o,Same F (upd F a o):=fun o=>Same.of_new hf;cases c with
 |lst ds=>obtain⟨vs,h1,h2⟩:=h;exact⟨_,h1,a,vs,rfl,z0g,Reps.mono (s _) _ _ h2⟩
 |dct ds=>obtain⟨vs,h1,h2⟩:=h;exact⟨_,h1,a,vs,rfl,z0g,RepK.mono (s _) _ _ h2⟩
 |_=>exact h.elim
def SOk (H0 F H:Hp)(io:Option Addr)(o:Option V):Slot->Prop
 |.no=>True
 |.fz d=>∃v,o=some v/\Rep F d v
 |.ob b c=>∃a,o=some (.ref a)/\H0 a=none/\F a=none/\Cont F H a c/\(b=true->io=some a)
 |.sc K ns=>∃a,o=some (.ref a)/\SqL K F a (ns.map V.int)
structure EI (io:List (Option Addr))(H0 F0 F:Hp)(δ:List Slot)(σ:St)(H:Hp):Prop where
 base:Same H0 H
 sub:Same F H
 ext:Same F0 F
 new:∀b o,F b=some o->F0 b=none->H0 b=none
 len:δ.length=σ.length
 get:∀i s,δ[i]? = some s->SOk H0 F H (io.getD i none) (σ.getD i none) s
 apart:∀i j b c b' c' a,i≠j->δ[i]? = some (.ob b c)->δ[j]? = some (.ob b' c')->σ.getD i none=some (.ref a)->σ.getD j none=some (.ref a)->False
noncomputable def rsl:Bool->D->Slot
 |true,d=>.ob false d
 |false,d=>.fz d
section
variable {io:List (Option Addr)}{H0 F0 F:Hp}{δ:List Slot}{σ:St}{H:Hp}
theorem SOk.mono {F' H':Hp}{i:Option Addr}{o:Option V}{s:Slot}(sf:Same F F')(h:SOk H0 F H i o s)(hn:∀a b c,s=.ob b c->o=some (.ref a)->F' a=none/\∀u,H a=some u->H' a=some u):SOk H0 F' H' i o s:=by
 cases s with
 |no=>trivial
 |fz d=>obtain⟨v,e,r⟩:=h;exact⟨v,e,Rep.mono sf _ _ r⟩
 |sc K ns=>obtain⟨a,e,r⟩:=h;exact⟨a,e,sf.seq r⟩
 |ob b c =>
  obtain⟨a,e,h1,h2,h3,h4⟩:=h;obtain⟨n1,n2⟩:=hn a b c rfl e;exact⟨a,e,h1,n1,h3.mono sf n2,h4⟩
theorem EI.alloc {p:Addr}{o:HO}(I:EI io H0 F0 F δ σ H)(hp:H p=none):EI io H0 F0 F δ σ (upd H p o) where
 base:=I.base.upd (I.base.free hp)
 sub:=I.sub.upd (I.sub.free hp)
 ext:=I.ext
 new:=I.new
 len:=I.len
 get:=fun i s e=>(I.get i s e).mono (Same.refl _) fun a b c es eo=>by
  have h:=I.get i s e;subst es;obtain⟨a',e1,h1,h2,h3,h4⟩:=h;rw[eo]at e1;cases e1;obtain⟨u,hu⟩:=h3.some;exact⟨h2,fun u' hu'=>by rw[z0j (z0s hu hp)];exact hu'⟩
 apart:=I.apart
theorem EI.allocF {p:Addr}{o:HO}(I:EI io H0 F0 F δ σ H)(hp:H p=none):EI io H0 F0 (upd F p o) δ σ (upd H p o) where
 base:=I.base.upd (I.base.free hp)
 sub:=fun b u e=>by
  by_cases hb:b=p
  ·subst hb;rw[z0g]at e ⊢;exact e
  ·rw[z0j hb]at e ⊢;exact I.sub b u e
 ext:=I.ext.upd (I.ext.free (I.sub.free hp))
 new:=fun b u e h=>by
  by_cases hb:b=p
  ·subst hb;exact I.base.free hp
  ·rw[z0j hb]at e;exact I.new b u e h
 len:=I.len
 get:=fun i s e=>(I.get i s e).mono (Same.of_new (I.sub.free hp)) fun a b c es eo=>by
  have h:=I.get i s e;subst es;obtain⟨a',e1,h1,h2,h3,h4⟩:=h;rw[eo]at e1;cases e1;obtain⟨u,hu⟩:=h3.some;have ne:=z0s hu hp;exact⟨by rw[z0j ne];exact h2,fun u' hu'=>by rw[z0j ne];exact hu'⟩
 apart:=I.apart
theorem EI.push {s:Slot}{v:V}(I:EI io H0 F0 F δ σ H)(h:SOk H0 F H none (some v) s)(ha:∀b c a,s=.ob b c->v=.ref a->∀j b' c',δ[j]? = some (.ob b' c')->σ.getD j none=some (.ref a)->False):EI (none::io) H0 F0 F (s::δ) (some v::σ) H where
 base:=I.base
 sub:=I.sub
 ext:=I.ext
 new:=I.new
 len:=by simp[I.len]
 get:=fun i t e=>by
  cases i with
  |zero=>simp at e;subst e;exact h
  |succ i=>simpa using I.get i t (by simpa using e)
 apart:=fun i j b c b' c' a ne e1 e2 e3 e4=>by
  cases i with
  |zero =>
   cases j with
   |zero=>exact ne rfl
   |succ j =>
    simp at e1 e2 e3 e4;exact ha b c a e1 e3 j b' c' e2 (by simpa using e4)
  |succ i =>
   cases j with
   |zero =>
    simp at e1 e2 e3 e4;exact ha b' c' a e2 e4 i b c e1 (by simpa using e3)
   |succ j =>
    simp at e1 e2 e3 e4;exact I.apart i j b c b' c' a (by omega) e1 e2 (by simpa using e3) (by simpa using e4)
theorem EI.pushF {d:D}{v:V}(I:EI io H0 F0 F δ σ H)(h:Rep F d v):EI (none::io) H0 F0 F (.fz d::δ) (some v::σ) H :=
 I.push ⟨v,rfl,h⟩ fun b c a e=>by cases e
theorem EI.pop {x:Option Addr}{s:Slot}{o:Option V}(I:EI (x::io) H0 F0 F (s::δ) (o::σ) H):EI io H0 F0 F δ σ H where
 base:=I.base
 sub:=I.sub
 ext:=I.ext
 new:=I.new
 len:=by simpa using I.len
 get:=fun i t e=>by simpa using I.get (i+1) t (by simpa using e)
 apart:=fun i j b c b' c' a ne e1 e2 e3 e4=>I.apart (i+1) (j+1) b c b' c' a (by omega) (by simpa using e1) (by simpa using e2) (by simpa using e3) (by simpa using e4)
theorem EI.freeze {i:Nat}{c:D}(I:EI io H0 F0 F δ σ H)(e:δ[i]? = some (.ob false c)):∃F' a,Same F F'/\EI io H0 F0 F' (δ.set i (.fz c)) σ H/\σ.getD i none=some (.ref a)/\Rep F' c (.ref a):=by
 obtain⟨a,e1,h1,h2,h3,_⟩:=I.get i _ e;obtain⟨o,ho,hr⟩:=h3.rep h2;have hs:Same F (upd F a o):=Same.of_new h2;refine⟨upd F a o,a,hs,⟨I.base,fun b u eb=>?_,I.ext.trans hs,fun b u eb hb=>?_,by simp[I.len],fun j s ej=>?_,fun j k b c1 b' c' a' ne e1 e2 e3 e4=>?_⟩,e1,hr⟩
 ·by_cases hb:b=a
  ·subst hb;rw[z0g]at eb;cases eb;exact ho
  ·rw[z0j hb]at eb;exact I.sub b u eb
 ·by_cases hb':b=a
  ·subst hb';exact h1
  ·rw[z0j hb']at eb;exact I.new b u eb hb
 ·rw[getElem?_set]at ej;split at ej
  ·rename_i hij;subst hij;split at ej
   ·cases ej;exact⟨_,e1,hr⟩
   ·cases ej
  ·rename_i hij;refine(I.get j s ej).mono hs fun a' b' c' es eo=>?_;subst es;obtain⟨a'',q1,q2,q3,q4,_⟩:=I.get j _ ej;rw[eo]at q1;cases q1;refine⟨?_,fun u hu=>hu⟩;rw[z0j]
   ·exact q3
   ·rintro rfl;exact I.apart i j _ _ _ _ _ hij e ej e1 eo
 ·rw[getElem?_set]at e1 e2;split at e1
  ·split at e1<;>cases e1
  ·split at e2
   ·split at e2<;>cases e2
   ·exact I.apart j k b c1 b' c' a' ne e1 e2 e3 e4
theorem EI.fr {b:Bool}{d:D}{v:V}(I:EI (none::io) H0 F0 F (rsl b d::δ) (some v::σ) H):∃F',Same F F'/\EI io H0 F0 F' δ σ H/\Rep F' d v:=by
 cases b with
 |false =>
  obtain⟨v',e,r⟩:=I.get 0 _ rfl;simp at e;subst e;exact⟨F,Same.refl _,I.pop,r⟩
 |true =>
  obtain⟨F',a,hs,I',e,r⟩:=I.freeze (i:=0) (c:=d) rfl;simp at e;subst e;exact⟨F',hs,I'.pop,r⟩
noncomputable def peek (δ:List Slot)(i:Nat):Option D :=
 match δ[i]? with
 |some (.fz d)=>some d
 |some (.ob _ c)=>some c
 |_=>none
def Pk (F H:Hp)(d:D)(v:V):Prop:=Rep F d v \/ ∃a,v=.ref a/\Cont F H a d
theorem EI.pk {i:Nat}{d:D}(I:EI io H0 F0 F δ σ H)(e:peek δ i=some d):∃v,σ[i]? = some (some v)/\Pk F H d v:=by
 unfold peek at e;split at e
 ·rename_i d' h;cases e;obtain⟨v,e1,r⟩:=I.get i _ h;refine⟨v,?_,.inl r⟩;rw[getD_eq_getElem?_getD]at e1;cases q:σ[i]? with
  |none=>rw[q]at e1;cases e1
  |some o=>rw[q]at e1;simp at e1;rw[e1]
 ·rename_i b c h;cases e;obtain⟨a,e1,_,_,h3,_⟩:=I.get i _ h;refine⟨.ref a,?_,.inr ⟨a,rfl,h3⟩⟩;rw[getD_eq_getElem?_getD]at e1;cases q:σ[i]? with
  |none=>rw[q]at e1;cases e1
  |some o=>rw[q]at e1;simp at e1;rw[e1]
 ·cases e
theorem Pk.lst {ds:List D}{v:V}(I:EI io H0 F0 F δ σ H)(h:Pk F H (.lst ds) v):∃a vs,v=.ref a/\H a=some (.lst vs)/\Reps F ds vs:=by
 rcases h with ⟨a,vs,e,h1,h2⟩|⟨a,e,vs,h1,h2⟩
 ·exact⟨a,vs,e,I.sub _ _ h1,h2⟩
 ·exact⟨a,vs,e,h1,h2⟩
theorem Pk.tup {ds:List D}{v:V}(I:EI io H0 F0 F δ σ H)(h:Pk F H (.tup ds) v):∃a vs,v=.ref a/\H a=some (.tup vs)/\Reps F ds vs:=by
 rcases h with ⟨a,vs,e,h1,h2⟩|⟨a,e,h⟩
 ·exact⟨a,vs,e,I.sub _ _ h1,h2⟩
 ·exact h.elim
theorem Pk.dct {ds:List (Key×D)}{v:V}(I:EI io H0 F0 F δ σ H)(h:Pk F H (.dct ds) v):∃a vs,v=.ref a/\H a=some (.dK vs)/\RepK F ds vs:=by
 rcases h with ⟨a,vs,e,h1,h2⟩|⟨a,e,vs,h1,h2⟩
 ·exact⟨a,vs,e,I.sub _ _ h1,h2⟩
 ·exact⟨a,vs,e,h1,h2⟩
theorem Pk.int {i:Int}{v:V}(h:Pk F H (.int i) v):v=.int i:=by
 rcases h with h|⟨a,e,h⟩
 ·exact h
 ·exact h.elim
theorem Pk.str {x:Str}{v:V}(h:Pk F H (.str x) v):v=.str x:=by
 rcases h with h|⟨a,e,h⟩
 ·exact h
 ·exact h.elim
theorem Pk.bl {x:Bool}{v:V}(h:Pk F H (.bl x) v):v=.bl x:=by
 rcases h with h|⟨a,e,h⟩
 ·exact h
 ·exact h.elim
theorem Pk.non {v:V}(h:Pk F H .non v):v=.non:=by
 rcases h with h|⟨a,e,h⟩
 ·exact h
 ·exact h.elim
theorem EI.setv {i:Nat}{b:Bool}{d:D}{v:V}(I:EI (none::io) H0 F0 F (rsl b d::δ) (some v::σ) H)(hn:∀c,δ[i]? ≠ some (.ob true c))(hi:i<δ.length):EI io H0 F0 F (δ.set i (rsl b d)) (σ.set i (some v)) H:=by
 have J:=I.pop;refine⟨I.base,I.sub,I.ext,I.new,by simpa using J.len,fun j s e=>?_,fun j k b1 c1 b2 c2 a ne e1 e2 e3 e4=>?_⟩
 ·rw[getElem?_set]at e;split at e
  ·rename_i hij;subst hij;cases e;have hl:i<σ.length:=by rw[<-J.len];exact hi
   have h0:=I.get 0 _ rfl;simp[getD_eq_getElem?_getD,hl];cases b with
   |false=>obtain⟨v',e',r⟩:=h0;simp at e';subst e';exact⟨v,rfl,r⟩
   |true=>obtain⟨a,e',h1,h2,h3,h4⟩:=h0;simp at e';subst e';exact⟨a,rfl,h1,h2,h3,fun z=>by cases z⟩
  ·rename_i hij;have:=J.get j s e;simp only[getD_eq_getElem?_getD]at this ⊢;rw[getElem?_set_ne hij];exact this
 ·have hl:i<σ.length:=by rw[<-J.len];exact hi
  have key:∀{j:Nat}{b' c' b1 c1 a},j≠i->(rsl b d)=.ob b1 c1->δ[j]? = some (.ob b' c')->v=.ref a->σ.getD j none=some (.ref a)->False:=fun {j b' c' b1 c1 a} hj e1 e2 e3 e4 =>
   I.apart 0 (j+1) b1 c1 b' c' a (by omega) (by simp[e1]) (by simpa using e2) (by simp[e3]) (by simpa using e4)
  rw[getElem?_set]at e1 e2;rw[getD_eq_getElem?_getD,getElem?_set]at e3 e4;by_cases hj:i=j
  ·subst hj;by_cases hk:i=k
   ·exact ne hk
   ·rw[if_pos rfl,if_pos hi]at e1;rw[if_pos rfl,if_pos hl]at e3;rw[if_neg hk]at e2 e4;exact key (fun z=>hk z.symm) (Option.some.inj e1) e2 (by simpa using e3) (by simpa[getD_eq_getElem?_getD] using e4)
  ·rw[if_neg hj]at e1 e3;by_cases hk:i=k
   ·subst hk;rw[if_pos rfl,if_pos hi]at e2;rw[if_pos rfl,if_pos hl]at e4;exact key (fun z=>hj z.symm) (Option.some.inj e2) e1 (by simpa using e4) (by simpa[getD_eq_getElem?_getD] using e3)
   ·rw[if_neg hk]at e2 e4;exact J.apart j k b1 c1 b2 c2 a ne e1 e2 (by simpa[getD_eq_getElem?_getD] using e3) (by simpa[getD_eq_getElem?_getD] using e4)
theorem EI.forget {i:Nat}(I:EI io H0 F0 F δ σ H):EI io H0 F0 F (δ.set i .no) σ H:=by
 refine⟨I.base,I.sub,I.ext,I.new,by simpa using I.len,fun j s e=>?_,fun j k b1 c1 b2 c2 a ne e1 e2 e3 e4=>?_⟩
 ·rw[getElem?_set]at e;split at e
  ·split at e
   ·cases e;trivial
   ·cases e
  ·exact I.get j s e
 ·rw[getElem?_set]at e1 e2;split at e1
  ·split at e1<;>cases e1
  ·split at e2
   ·split at e2<;>cases e2
   ·exact I.apart j k b1 c1 b2 c2 a ne e1 e2 e3 e4
theorem EI.change {i:Nat}{b:Bool}{c c':D}{a:Addr}{o:HO}(I:EI io H0 F0 F δ σ H)(e:δ[i]? = some (.ob b c))(ea:σ.getD i none=some (.ref a))(hc:Cont F (upd H a o) a c'):EI io H0 F0 F (δ.set i (.ob b c')) σ (upd H a o):=by
 obtain⟨a',e1,h1,h2,h3,h4⟩:=I.get i _ e;rw[ea]at e1;cases e1;refine⟨I.base.upd h1,I.sub.upd h2,I.ext,I.new,by simpa using I.len,fun j s ej=>?_,fun j k b1 c1 b2 c2 a' ne e1 e2 e3 e4=>?_⟩
 ·rw[getElem?_set]at ej;split at ej
  ·rename_i hij;subst hij;split at ej
   ·cases ej;exact⟨a,ea,h1,h2,hc,h4⟩
   ·cases ej
  ·rename_i hij;refine(I.get j s ej).mono (Same.refl _) fun a' b' c' es eo=>?_;subst es;obtain⟨a'',q1,q2,q3,q4,_⟩:=I.get j _ ej;rw[eo]at q1;cases q1;refine⟨q3,fun u hu=>?_⟩;rw[z0j]
   ·exact hu
   ·rintro rfl;exact I.apart i j _ _ _ _ _ hij e ej ea eo
 ·have key:∀{j:Nat}{b1:Bool}{c1:D},(δ.set i (.ob b c'))[j]? = some (Slot.ob b1 c1)->∃b2 c2,δ[j]? = some (Slot.ob b2 c2):=fun {j b1 c1} h=>by
   rw[getElem?_set]at h;split at h
   ·rename_i hij;subst hij;exact⟨_,_,e⟩
   ·exact⟨_,_,h⟩
  obtain⟨b3,c3,q1⟩:=key e1;obtain⟨b4,c4,q2⟩:=key e2;exact I.apart j k _ _ _ _ a' ne q1 q2 e3 e4
abbrev TEd:=List Slot->(Bool->D->List Slot->Prop)->Prop
abbrev TTd:=List Slot->(Bool->List Slot->Prop)->Prop
abbrev TLd:=List Slot->(List D->List Slot->Prop)->Prop
structure EndsD where
 nx:List Slot->Prop
 rt:Bool->D->List Slot->Prop
 bk:List Slot->Prop:=fun _=>False
 ct:List Slot->Prop:=fun _=>False
abbrev TSd:=EndsD->List Slot->Prop
abbrev TGd:=D->List Slot->(List Slot->Prop)->Prop
def Sim (te:TE)(td:TEd):Prop:=∀(io:List (Option Addr))(H0 F0 F:Hp)(δ:List Slot)(σ:St)(H:Hp)(Q:VK)(Qd:Bool->D->List Slot->Prop),EI io H0 F0 F δ σ H->td δ Qd ->
 (∀b d v δ' F' H',Same F F'->EI (none::io) H0 F0 F' (rsl b d::δ') (some v::σ) H'->Qd b d δ'->Q v H')->te σ H Q
def SimT (te:TT)(td:TTd):Prop:=∀(io:List (Option Addr))(H0 F0 F:Hp)(δ:List Slot)(σ:St)(H:Hp)(Q:Bool->Hp->Prop)(Qd:Bool->List Slot->Prop),EI io H0 F0 F δ σ H->td δ Qd ->
 (∀b δ' F' H',Same F F'->EI io H0 F0 F' δ' σ H'->Qd b δ'->Q b H')->te σ H Q
def SimL (te:TA)(td:TLd):Prop:=∀(io:List (Option Addr))(H0 F0 F:Hp)(δ:List Slot)(σ:St)(H:Hp)(Q:List V->Hp->Prop)(Qd:List D->List Slot->Prop),EI io H0 F0 F δ σ H->td δ Qd ->
 (∀ds vs δ' F' H',Same F F'->EI io H0 F0 F' δ' σ H'->Reps F' ds vs->Qd ds δ'->Q vs H')->te σ H Q
def SimG (g:TG)(gd:TGd):Prop:=∀(io:List (Option Addr))(H0 F0 F:Hp)(δ:List Slot)(σ:St)(H:Hp)(d:D)(v:V)(Q:St->Hp->Prop)(Qd:List Slot->Prop),EI io H0 F0 F δ σ H->Rep F d v->gd d δ Qd ->
 (∀δ' σ',EI io H0 F0 F δ' σ' H->Qd δ'->Q σ' H)->g v σ H Q
structure ESim (io:List (Option Addr))(H0 F0 F:Hp)(Ed:EndsD)(E:Ends):Prop where
 nx:∀F' δ' σ' H',Same F F'->EI io H0 F0 F' δ' σ' H'->Ed.nx δ'->E.nx σ' H'
 rt:∀b d v F' δ' σ' H',Same F F'->EI (none::io) H0 F0 F' (rsl b d::δ') (some v::σ') H'->Ed.rt b d δ'->E.rt v H'
 bk:∀F' δ' σ' H',Same F F'->EI io H0 F0 F' δ' σ' H'->Ed.bk δ'->E.bk σ' H'
 ct:∀F' δ' σ' H',Same F F'->EI io H0 F0 F' δ' σ' H'->Ed.ct δ'->E.ct σ' H'
theorem ESim.mono {io:List (Option Addr)}{H0 F0 F F1:Hp}{Ed:EndsD}{E:Ends}(s:Same F F1)(h:ESim io H0 F0 F Ed E):ESim io H0 F0 F1 Ed E :=
 ⟨fun F' δ' σ' H' q=>h.nx F' δ' σ' H' (s.trans q),fun b d v F' δ' σ' H' q=>h.rt b d v F' δ' σ' H' (s.trans q),fun F' δ' σ' H' q=>h.bk F' δ' σ' H' (s.trans q),fun F' δ' σ' H' q=>h.ct F' δ' σ' H' (s.trans q)⟩
def SimS (t:TS)(td:TSd):Prop:=∀(io:List (Option Addr))(H0 F0 F:Hp)(δ:List Slot)(σ:St)(H:Hp)(E:Ends)(Ed:EndsD),EI io H0 F0 F δ σ H->td Ed δ->ESim io H0 F0 F Ed E->t E σ H
def DE (X:Cx)(e:Expr)(td:TEd):Prop:=∃te,PE X e te/\Sim te td
def DT (X:Cx)(e:Expr)(td:TTd):Prop:=∃te,PT X e te/\SimT te td
def DW (X:Cx)(e:Expr)(td:TTd):Prop:=∃te,PW X e te/\SimT te td
def DL (X:Cx)(es:List Expr)(td:TLd):Prop:=∃te,PA X es te/\SimL te td
def DG (X:Cx)(e:Expr)(gd:TGd):Prop:=∃g,PG X e g/\SimG g gd
def DS (X:Cx)(s:Stmt)(td:TSd):Prop:=∃t,PS X s t/\SimS t td
def DSs (X:Cx)(s:List Stmt)(td:TSd):Prop:=∃t,PSs X s t/\SimS t td
theorem Sim.fz {te:TE}{td:TEd}(s:Sim te td){Q:VK}{Qd:D->List Slot->Prop}(I:EI io H0 F0 F δ σ H)(h:td δ fun _ d δ'=>Qd d δ')
  (k:∀d v δ' F' H',Same F F'->EI io H0 F0 F' δ' σ H'->Rep F' d v->Qd d δ'->Q v H'):te σ H Q :=
 s io H0 F0 F δ σ H Q _ I h fun b d v δ' F' H' sf I' q=>by
  obtain⟨F2,s2,I2,r⟩:=I'.fr;exact k d v δ' F2 H' (sf.trans s2) I2 r q
theorem z2n {o:V}{i:Nat}(h:σ.getD i none=some o):σ[i]? = some (some o):=by
 rw[getD_eq_getElem?_getD]at h;cases q:σ[i]? with
 |none=>rw[q]at h;cases h
 |some z=>rw[q]at h;simp at h;rw[h]
def dC (d:D):TEd:=fun δ Q=>Q false d δ
theorem x3w {d:D}{v:V}(h:∀F,Rep F d v):Sim (tC v) (dC d):=fun io H0 F0 F δ σ H Q Qd I q k=>k false d v δ F H (Same.refl _) (I.pushF (h F)) q
noncomputable def dVar (i:Nat):TEd:=fun δ Q =>
 match δ[i]? with
 |some (.fz d)=>Q false d δ
 |some (.ob false c)=>Q false c (δ.set i (.fz c))
 |_=>False
def dMv (i:Nat):TEd:=fun δ Q =>
 match δ[i]? with
 |some (.fz d)=>Q false d δ
 |some (.ob false c)=>Q true c (δ.set i .no)
 |_=>False
theorem q8p (i:Nat):Sim (tVar i) (dVar i):=by
 intro io H0 F0 F δ σ H Q Qd I q k;unfold dVar at q;split at q
 ·rename_i d h;obtain⟨v,e,r⟩:=I.get i _ h;exact⟨v,z2n e,k false d v δ F H (Same.refl _) (I.pushF r) q⟩
 ·rename_i c h;obtain⟨F',a,sf,I',e,r⟩:=I.freeze h;exact⟨.ref a,z2n e,k false c (.ref a) _ F' H sf (I'.pushF r) q⟩
 ·exact q.elim
theorem j3l (i:Nat):Sim (tVar i) (dMv i):=by
 intro io H0 F0 F δ σ H Q Qd I q k;unfold dMv at q;split at q
 ·rename_i d h;obtain⟨v,e,r⟩:=I.get i _ h;exact⟨v,z2n e,k false d v δ F H (Same.refl _) (I.pushF r) q⟩
 ·rename_i c h;obtain⟨a,e,h1,h2,h3,h4⟩:=I.get i _ h;refine⟨.ref a,z2n e,k true c (.ref a) _ F H (Same.refl _) (I.forget.push ⟨a,rfl,h1,h2,h3,fun z=>by cases z⟩ ?_) q⟩;intro b c' a' es ev j b2 c2 ej eo;cases ev;rw[getElem?_set]at ej;split at ej
  ·split at ej<;>cases ej
  ·rename_i hij;exact I.apart i j _ _ _ _ a hij h ej e eo
 ·exact q.elim
variable {X:Cx}{pos:Pos}
theorem z0c {i j pos}:DE X (.Constant (.int i) j pos) (dC (.int i)):=⟨_,z2q,x3w fun _=>rfl⟩
theorem x0r {b j pos}:DE X (.Constant (.bool b) j pos) (dC (.bl b)):=⟨_,y7i,x3w fun _=>rfl⟩
theorem z4a {j pos}:DE X (.Constant .none j pos) (dC .non):=⟨_,z6v,x3w fun _=>rfl⟩
theorem z0h {x j pos}:DE X (.Constant (.str x) j pos) (dC (.str x)):=⟨_,z3b,x3w fun _=>rfl⟩
theorem dv (i:Nat){x:Str}{pos:Pos}(hN:X.N[i]? = some x:=by rfl)(hv:Vis X.env.scope x:=by first|exact Or.inl rfl|exact Or.inr (Or.inl rfl)|exact Or.inr (Or.inr rfl))(hd:(x == ("__debug__":Str))=false:=by decide)
  (hcd:(x == ("__classdict__":Str))=false:=by decide):DE X (.Name x pos) (dVar i):=⟨_,y2n hN hv hd hcd,q8p i⟩
theorem dm (i:Nat){x:Str}{pos:Pos}(hN:X.N[i]? = some x:=by rfl)(hv:Vis X.env.scope x:=by first|exact Or.inl rfl|exact Or.inr (Or.inl rfl)|exact Or.inr (Or.inr rfl))(hd:(x == ("__debug__":Str))=false:=by decide)
  (hcd:(x == ("__classdict__":Str))=false:=by decide):DE X (.Name x pos) (dMv i):=⟨_,y2n hN hv hd hcd,j3l i⟩
theorem q9y {x:Str}{d:D}{v:V}{u:Value}{pos:Pos}(hs:∀F,Rep F d v)(hg:Gl X x)(hm:X.mg x=some u)(r:RelV v u)(hd:(x == ("__debug__":Str))=false:=by decide):DE X (.Name x pos) (dC d):=⟨_,y6i hg hm r hd,x3w hs⟩
theorem y8 {x:Str}{n:String}{pos:Pos}(hg:Gl X x)(hm:X.mg x=none)(hv:bootBuiltins x=some (.type n))(hn:x ≠ "__name__":=by decide)(hd:(x == ("__debug__":Str))=false:=by decide):DE X (.Name x pos) (dC (.ty n)):=⟨_,x6e (v:=.ty n) hg hm hv rfl hn hd,x3w fun _=>rfl⟩
def OpS (r:R2)(f:D->D->(Bool->D->Prop)->Prop):Prop:=∀(io:List (Option Addr))(H0 F0 F:Hp)(δ:List Slot)(σ:St)(H:Hp)(x y:D)(v u:V)(Q:VK)(Qd:Bool->D->Prop),EI io H0 F0 F δ σ H->Pk F H x v->Pk F H y u->f x y Qd ->
 (∀b d w F' H',Same F F'->EI (none::io) H0 F0 F' (rsl b d::δ) (some w::σ) H'->Qd b d->Q w H')->r v u H Q
def dOp (f:D->D->(Bool->D->Prop)->Prop)(da db:TEd):TEd:=fun δ Q=>da δ fun _ x δ1=>db δ1 fun _ y δ2=>f x y fun b d=>Q b d δ2
def dOpV (f:D->D->(Bool->D->Prop)->Prop)(i:Nat)(db:TEd):TEd:=fun δ Q=>(peek δ i).isSome=true/\db δ fun _ y δ2=>∃x,peek δ2 i=some x/\f x y fun b d=>Q b d δ2
def dOpW (f:D->D->(Bool->D->Prop)->Prop)(da:TEd)(j:Nat):TEd:=fun δ Q=>da δ fun _ x δ1=>∃y,peek δ1 j=some y/\f x y fun b d=>Q b d δ1
theorem x2w {r:R2}{f:D->D->(Bool->D->Prop)->Prop}{ta tb:TE}{da db:TEd}(hs:OpS r f)(sa:Sim ta da)(sb:Sim tb db):Sim (tOp r ta tb) (dOp f da db):=by
 intro io H0 F0 F δ σ H Q Qd I q k;refine sa.fz I q fun x v δ1 F1 H1 s1 I1 r1 q1=>sb.fz I1 q1 fun y u δ2 F2 H2 s2 I2 r2 q2=>?_;exact hs io H0 F0 F2 δ2 σ H2 x y v u Q _ I2 (.inl (Rep.mono s2 _ _ r1)) (.inl r2) q2 fun b d w F' H' s' I' z=>k b d w δ2 F' H' ((s1.trans s2).trans s') I' z
theorem y9w {r:R2}{f:D->D->(Bool->D->Prop)->Prop}{tb:TE}{i:Nat}{db:TEd}(hs:OpS r f)(sb:Sim tb db):Sim (tOp r (tVar i) tb) (dOpV f i db):=by
 intro io H0 F0 F δ σ H Q Qd I q k;obtain⟨p0,q⟩:=q;obtain⟨d0,e0⟩:=isSome_iff_exists.mp p0;obtain⟨v0,ev,_⟩:=I.pk e0;refine⟨v0,ev,?_⟩;refine sb.fz I q fun y u δ2 F2 H2 s2 I2 r2 q2=>?_;obtain⟨x,ex,q2⟩:=q2;obtain⟨v,ev',pv⟩:=I2.pk ex;rw[ev]at ev';cases ev';exact hs io H0 F0 F2 δ2 σ H2 x y _ u Q _ I2 pv (.inl r2) q2 fun b d w F' H' s' I' z=>k b d w δ2 F' H' (s2.trans s') I' z
theorem j0g {r:R2}{f:D->D->(Bool->D->Prop)->Prop}{ta:TE}{j:Nat}{da:TEd}(hs:OpS r f)(sa:Sim ta da):Sim (tOp r ta (tVar j)) (dOpW f da j):=by
 intro io H0 F0 F δ σ H Q Qd I q k;refine sa.fz I q fun x v δ1 F1 H1 s1 I1 r1 q1=>?_;obtain⟨y,ey,q1⟩:=q1;obtain⟨u,eu,pu⟩:=I1.pk ey;exact⟨u,eu,hs io H0 F0 F1 δ1 σ H1 x y v u Q _ I1 (.inl r1) pu q1 fun b d w F' H' s' I' z=>k b d w δ1 F' H' (s1.trans s') I' z⟩
variable {a b:Expr}{da db:TEd}{f:D->D->(Bool->D->Prop)->Prop}{r:R2}
theorem z0l {op:Operator}(hs:OpS r f)(ho:OpR X (binaryOp op) r)(ha:DE X a da)(hb:DE X b db):DE X (.BinOp a op b pos) (dOp f da db):=by
 obtain⟨ta,pa,sa⟩:=ha;obtain⟨tb,pb,sb⟩:=hb;exact⟨_,x0l ho pa pb,x2w hs sa sb⟩
theorem y5a {op:CmpOp}(hs:OpS r f)(ho:OpR X (compareOp op) r)(ha:DE X a da)(hb:DE X b db)(hm:behindInMarks op b=false):DE X (.Compare a [op] [b] pos) (dOp f da db):=by
 obtain⟨ta,pa,sa⟩:=ha;obtain⟨tb,pb,sb⟩:=hb;exact⟨_,x6r ho pa pb hm,x2w hs sa sb⟩
theorem q7u {op:CmpOp}{i:Nat}{x:Str}{p:Pos}(hs:OpS r f)(ho:OpR X (compareOp op) r)(ha:PE X (.Name x p) (tVar i))(hb:DE X b db)(hm:behindInMarks op b=false):DE X (.Compare (.Name x p) [op] [b] pos) (dOpV f i db):=by
 obtain⟨tb,pb,sb⟩:=hb;exact⟨_,x6r ho ha pb hm,y9w hs sb⟩
theorem x0s (hs:OpS r f)(ho:IxR X r)(ha:DE X a da)(hb:DE X b db)(h:x0m b):DE X (.Subscript a b pos) (dOp f da db):=by
 obtain⟨ta,pa,sa⟩:=ha;obtain⟨tb,pb,sb⟩:=hb;exact⟨_,z5r ho pa pb h,x2w hs sa sb⟩
theorem z0m {i:Nat}{x:Str}{p:Pos}(hs:OpS r f)(ho:IxR X r)(ha:PE X (.Name x p) (tVar i))(hb:DE X b db)(h:x0m b):DE X (.Subscript (.Name x p) b pos) (dOpV f i db):=by
 obtain⟨tb,pb,sb⟩:=hb;exact⟨_,z5r ho ha pb h,y9w hs sb⟩
def fI (g:Int->Int->D):D->D->(Bool->D->Prop)->Prop:=fun x y Q=>∃i j,x=.int i/\y=.int j/\Q false (g i j)
def fIc (C:Int->Int->Prop)(g:Int->Int->D):D->D->(Bool->D->Prop)->Prop:=fun x y Q=>∃i j,x=.int i/\y=.int j/\C i j/\Q false (g i j)
theorem os_I {g:Int->Int->V}{g':Int->Int->D}(h:∀i j F,Rep F (g' i j) (g i j)):OpS (rI0 g) (fI g'):=by
 intro io H0 F0 F δ σ H x y v u Q Qd I px py q k;obtain⟨i,j,rfl,rfl,q⟩:=q;exact⟨i,j,px.int,py.int,k false _ _ F H (Same.refl _) (I.pushF (h i j F)) q⟩
theorem q9a {C:Int->Int->Prop}{g:Int->Int->V}{g':Int->Int->D}(h:∀i j F,Rep F (g' i j) (g i j)):OpS (rI C g) (fIc C g'):=by
 intro io H0 F0 F δ σ H x y v u Q Qd I px py q k;obtain⟨i,j,rfl,rfl,c,q⟩:=q;exact⟨i,j,px.int,py.int,c,k false _ _ F H (Same.refl _) (I.pushF (h i j F)) q⟩
theorem EI.pS {x:Str}(I:EI io H0 F0 F δ σ H):EI (none::io) H0 F0 F (rsl false (.str x)::δ) (some (.str x)::σ) H:=I.pushF rfl
theorem EI.pI {x:Int}(I:EI io H0 F0 F δ σ H):EI (none::io) H0 F0 F (rsl false (.int x)::δ) (some (.int x)::σ) H:=I.pushF rfl
theorem EI.pB {x:Bool}(I:EI io H0 F0 F δ σ H):EI (none::io) H0 F0 F (rsl false (.bl x)::δ) (some (.bl x)::σ) H:=I.pushF rfl
theorem EI.pN (I:EI io H0 F0 F δ σ H):EI (none::io) H0 F0 F (rsl false .non::δ) (some .non::σ) H:=I.pushF rfl
theorem z1c:OpS (rI0 fun i j=>.int (i+j)) (fI fun i j=>.int (i+j)):=os_I fun _ _ _=>rfl
theorem q4c:OpS (rI0 fun i j=>.int (i - j)) (fI fun i j=>.int (i - j)):=os_I fun _ _ _=>rfl
theorem z6q:OpS (rI CMul fun i j=>.int (i * j)) (fIc CMul fun i j=>.int (i * j)):=q9a fun _ _ _=>rfl
theorem z1p:OpS (rI (fun _ j=>0<j) fun i j=>.int (i % j)) (fIc (fun _ j=>0<j) fun i j=>.int (i % j)):=q9a fun _ _ _=>rfl
theorem z3k:OpS (rI (fun _ j=>0<j/\j.natAbs.log2<9000) fun i j=>.int (i / j)) (fIc (fun _ j=>0<j/\j.natAbs.log2<9000) fun i j=>.int (i / j)):=q9a fun _ _ _=>rfl
theorem y7o:OpS (rI0 fun i j=>.bl (decide (i<j))) (fI fun i j=>.bl (decide (i<j))):=os_I fun _ _ _=>rfl
theorem q1t:OpS (rI0 fun i j=>.bl (decide (j<i))) (fI fun i j=>.bl (decide (j<i))):=os_I fun _ _ _=>rfl
theorem j9n:OpS (rI0 fun i j=>.bl (decide (j<=i))) (fI fun i j=>.bl (decide (j<=i))):=os_I fun _ _ _=>rfl
noncomputable def sEq:D->D->Option Bool
 |.int i,.int j=>some (decide (i=j))
 |.str i,.str j=>some (decide (i=j))
 |.bl i,.bl j=>some (decide (i=j))
 |.non,.non=>some true
 |.non,.int _=>some false | .int _,.non=>some false | .non,.str _=>some false | .str _,.non=>some false | .non,.bl _=>some false | .bl _,.non=>some false
 |.int _,.str _=>some false | .str _,.int _=>some false | .bl _,.str _=>some false | .str _,.bl _=>some false
 |_,_=>none
def fEq:D->D->(Bool->D->Prop)->Prop:=fun x y Q=>∃b,sEq x y=some b/\Q false (.bl b)
def fNe:D->D->(Bool->D->Prop)->Prop:=fun x y Q=>∃b,sEq x y=some b/\Q false (.bl (!b))
theorem x2y {F H:Hp}{x y:D}{v u:V}{b:Bool}(px:Pk F H x v)(py:Pk F H y u)(h:sEq x y=some b):scal v u=true/\decide (v=u)=b:=by
 cases x<;>cases y<;>first
  |(have e1:=px.int;have e2:=py.int;subst e1 e2;cases h;exact⟨rfl,by simp⟩)
  |(have e1:=px.str;have e2:=py.str;subst e1 e2;cases h;exact⟨rfl,by simp⟩)
  |(have e1:=px.bl;have e2:=py.bl;subst e1 e2;cases h;exact⟨rfl,by simp⟩)
  |(have e1:=px.non;have e2:=py.non;subst e1 e2;cases h;exact⟨rfl,by simp⟩)
  |(have e1:=px.non;have e2:=py.int;subst e1 e2;cases h;exact⟨rfl,by simp⟩)
  |(have e1:=px.int;have e2:=py.non;subst e1 e2;cases h;exact⟨rfl,by simp⟩)
  |(have e1:=px.non;have e2:=py.str;subst e1 e2;cases h;exact⟨rfl,by simp⟩)
  |(have e1:=px.str;have e2:=py.non;subst e1 e2;cases h;exact⟨rfl,by simp⟩)
  |(have e1:=px.non;have e2:=py.bl;subst e1 e2;cases h;exact⟨rfl,by simp⟩)
  |(have e1:=px.bl;have e2:=py.non;subst e1 e2;cases h;exact⟨rfl,by simp⟩)
  |(have e1:=px.int;have e2:=py.str;subst e1 e2;cases h;exact⟨rfl,by simp⟩)
  |(have e1:=px.str;have e2:=py.int;subst e1 e2;cases h;exact⟨rfl,by simp⟩)
  |(have e1:=px.bl;have e2:=py.str;subst e1 e2;cases h;exact⟨rfl,by simp⟩)
  |(have e1:=px.str;have e2:=py.bl;subst e1 e2;cases h;exact⟨rfl,by simp⟩)
  |(cases h)
theorem z2j:OpS rEq fEq:=by
 intro io H0 F0 F δ σ H x y v u Q Qd I px py q k;obtain⟨b,e,q⟩:=q;obtain⟨h1,h2⟩:=x2y px py e;refine⟨h1,k false (.bl b) _ F H (Same.refl _) (I.pushF ?_) q⟩;rw[h2];rfl
theorem z8j:OpS rNe fNe:=by
 intro io H0 F0 F δ σ H x y v u Q Qd I px py q k;obtain⟨b,e,q⟩:=q;obtain⟨h1,h2⟩:=x2y px py e;refine⟨h1,k false (.bl (!b)) _ F H (Same.refl _) (I.pushF ?_) q⟩;rw[h2];rfl
noncomputable def isNon:D->Bool
 |.non=>true
 |_=>false
theorem Rep.isNon {F H:Hp}{d:D}{v:V}(h:Pk F H d v):decide (v=.non)=VL.isNon d:=by
 rcases h with h|⟨a,rfl,h⟩
 ·cases d with
  |non=>cases(show v=.non from h);rfl
  |bl b=>cases(show v=.bl b from h);rfl
  |int b=>cases(show v=.int b from h);rfl
  |str b=>cases(show v=.str b from h);rfl
  |ty b=>cases(show v=.ty b from h);rfl
  |lst ds=>obtain⟨a,vs,rfl,_⟩:=h;rfl
  |tup ds=>obtain⟨a,vs,rfl,_⟩:=h;rfl
  |dct ds=>obtain⟨a,vs,rfl,_⟩:=h;rfl
 ·cases d with
  |lst ds=>rfl
  |dct ds=>rfl
  |_=>exact h.elim
def fIsN:D->D->(Bool->D->Prop)->Prop:=fun x y Q=>y=.non/\Q false (.bl (isNon x))
theorem y3s:OpS (fun x y H Q=>y=.non/\Q (.bl (decide (x=.non))) H) fIsN:=by
 intro io H0 F0 F δ σ H x y v u Q Qd I px py q k;obtain⟨rfl,q⟩:=q;refine⟨py.non,k false _ _ F H (Same.refl _) (I.pushF ?_) q⟩;rw[Rep.isNon px];rfl
def j0z:D->D->(Bool->D->Prop)->Prop:=fun x y Q=>∃i j,x=.str i/\y=.str j/\i.length+j.length<=sizeLine/\Q false (.str (i++j))
theorem z2l:OpS (fun x y H Q=>∃i j,x=.str i/\y=.str j/\i.length+j.length<=sizeLine/\Q (.str (i++j)) H) j0z:=by
 intro io H0 F0 F δ σ H x y v u Q Qd I px py q k;obtain⟨i,j,rfl,rfl,h,q⟩:=q;exact⟨i,j,px.str,py.str,h,k false _ _ F H (Same.refl _) I.pS q⟩
theorem EI.newL {io:List (Option Addr)}{H0 F0 F:Hp}{δ:List Slot}{σ:St}{H:Hp}{p:Addr}{ds:List D}{vs:List V}(I:EI io H0 F0 F δ σ H)(hp:H p=none)(r:Reps F ds vs):EI (none::io) H0 F0 F (rsl true (.lst ds)::δ) (some (.ref p)::σ) (upd H p (.lst vs)):=by
 refine(I.alloc hp).push ⟨p,rfl,I.base.free hp,I.sub.free hp,⟨vs,z0g,r⟩,fun z=>by cases z⟩ fun b c a es ev j b' c' ej eo=>?_;cases ev;obtain⟨a',e1,_,_,h3,_⟩:=I.get j _ ej;rw[eo]at e1;cases e1;obtain⟨u,hu⟩:=h3.some;rw[hp]at hu;cases hu
theorem EI.newT {io:List (Option Addr)}{H0 F0 F:Hp}{δ:List Slot}{σ:St}{H:Hp}{p:Addr}{ds:List D}{vs:List V}(I:EI io H0 F0 F δ σ H)(hp:H p=none)(r:Reps F ds vs):∃F',Same F F'/\EI io H0 F0 F' δ σ (upd H p (.tup vs))/\Rep F' (.tup ds) (.ref p) :=
 ⟨upd F p (.tup vs),Same.of_new (I.sub.free hp),I.allocF hp,p,vs,rfl,z0g,Reps.mono (Same.of_new (I.sub.free hp)) _ _ r⟩
def fCat:D->D->(Bool->D->Prop)->Prop:=fun x y Q=>∃xs ys,x=.lst xs/\y=.lst ys/\xs.length+ys.length<=sizeLine/\Q true (.lst (xs++ys))
theorem z3r:OpS j8 fCat:=by
 intro io H0 F0 F δ σ H x y v u Q Qd I px py q k;obtain⟨xs,ys,rfl,rfl,hl,q⟩:=q;obtain⟨a,vs,rfl,h1,r1⟩:=px.lst I;obtain⟨b,us,rfl,h2,r2⟩:=py.lst I;exact⟨a,b,vs,us,rfl,rfl,h1,h2,by rw[<-r1.len,<-r2.len];exact hl,fun p hp=>k true _ _ F _ (Same.refl _) (I.newL hp (r1.app r2)) q⟩
def fIxL:D->D->(Bool->D->Prop)->Prop:=fun x y Q=>∃xs i d,x=.lst xs/\y=.int i/\atI xs i=some d/\Q false d
def fIxT:D->D->(Bool->D->Prop)->Prop:=fun x y Q=>∃xs i d,x=.tup xs/\y=.int i/\atI xs i=some d/\Q false d
def fIxS:D->D->(Bool->D->Prop)->Prop:=fun x y Q=>∃z i c,x=.str z/\y=.int i/\z.length<=sizeLine/\atI z.cps.toList i=some c/\Q false (.str ⟨#[c]⟩)
theorem Reps.atI {F:Hp}{ds:List D}{vs:List V}{i:Int}{d:D}(r:Reps F ds vs)(h:atI ds i=some d):∃v,L2.atI vs i=some v/\Rep F d v:=by
 unfold L2.atI at h ⊢;rw[<-r.len];cases e:ixN ds.length i with
 |none=>rw[e]at h;cases h
 |some j=>rw[e]at h;exact r.get h
theorem z2f:OpS (fun x y H Q=>∃p i,x=.ref p/\y=.int i/\∃xs,H p=some (.lst xs)/\∃v,atI xs i=some v/\Q v H) fIxL:=by
 intro io H0 F0 F δ σ H x y v u Q Qd I px py q k;obtain⟨xs,i,d,rfl,rfl,h,q⟩:=q;obtain⟨a,vs,rfl,h1,r1⟩:=px.lst I;obtain⟨w,e,r⟩:=r1.atI h;exact⟨a,i,rfl,py.int,vs,h1,w,e,k false d w F H (Same.refl _) (I.pushF r) q⟩
theorem z0w:OpS (fun x y H Q=>∃p i,x=.ref p/\y=.int i/\∃xs,H p=some (.tup xs)/\∃v,atI xs i=some v/\Q v H) fIxT:=by
 intro io H0 F0 F δ σ H x y v u Q Qd I px py q k;obtain⟨xs,i,d,rfl,rfl,h,q⟩:=q;obtain⟨a,vs,rfl,h1,r1⟩:=px.tup I;obtain⟨w,e,r⟩:=r1.atI h;exact⟨a,i,rfl,py.int,vs,h1,w,e,k false d w F H (Same.refl _) (I.pushF r) q⟩
theorem z9r:OpS rIxS fIxS:=by
 intro io H0 F0 F δ σ H x y v u Q Qd I px py q k;obtain⟨z,i,c,rfl,rfl,hl,h,q⟩:=q;exact⟨z,i,c,px.str,py.int,hl,h,k false _ _ F H (Same.refl _) I.pS q⟩
mutual
noncomputable def eqb:D->Bool
 |.int _=>true
 |.str _=>true
 |.lst xs=>eqbL xs
 |.tup xs=>eqbL xs
 |_=>false
noncomputable def eqbL:List D->Bool
 | []=>true
 |d::r=>eqb d&&eqbL r
end
mutual
noncomputable def dep:D->Nat
 |.lst xs=>depL xs+1
 |.tup xs=>depL xs+1
 |_=>0
noncomputable def depL:List D->Nat
 | []=>0
 |d::r=>max (dep d) (depL r)
end
mutual
theorem j4r {F H:Hp}(s:Same F H):∀(d:D)(n:Nat)(v u:V),eqb d=true->dep d<=n->Rep F d v->Rep F d u->EqT H n v u
 |.int i,n,v,u,_,_,h1,h2=>by cases(show v=.int i from h1);cases(show u=.int i from h2);exact .int i
 |.str i,n,v,u,_,_,h1,h2=>by cases(show v=.str i from h1);cases(show u=.str i from h2);exact .str i
 |.lst ds,0,v,u,_,h,h1,h2=>by simp[dep]at h
 |.lst ds,n+1,v,u,he,hn,h1,h2=>by
  obtain⟨a,vs,rfl,e1,r1⟩:=h1;obtain⟨b,us,rfl,e2,r2⟩:=h2;exact .lst (s _ _ e1) (s _ _ e2) (by rw[<-r1.len,<-r2.len]) (y4d s ds n vs us (by simpa[eqb] using he) (by simp[dep]at hn;omega) r1 r2)
 |.tup ds,0,v,u,_,h,h1,h2=>by simp[dep]at h
 |.tup ds,n+1,v,u,he,hn,h1,h2=>by
  obtain⟨a,vs,rfl,e1,r1⟩:=h1;obtain⟨b,us,rfl,e2,r2⟩:=h2;exact .tup (s _ _ e1) (s _ _ e2) (by rw[<-r1.len,<-r2.len]) (y4d s ds n vs us (by simpa[eqb] using he) (by simp[dep]at hn;omega) r1 r2)
 |.non,n,v,u,h,_,h1,h2=>by simp[eqb]at h
 |.bl _,n,v,u,h,_,h1,h2=>by simp[eqb]at h
 |.ty _,n,v,u,h,_,h1,h2=>by simp[eqb]at h
 |.dct _,n,v,u,h,_,h1,h2=>by simp[eqb]at h
theorem y4d {F H:Hp}(s:Same F H):∀(ds:List D)(n:Nat)(vs us:List V),eqbL ds=true->depL ds<=n->Reps F ds vs->Reps F ds us->∀(i:Nat) x y,vs[i]? = some x->us[i]? = some y->EqT H n x y
 | [],n,vs,us,_,_,h1,h2,i,x,y,e1,e2=>by cases(show vs=[] from h1);simp at e1
 |d::ds,n,vs,us,he,hn,h1,h2,i,x,y,e1,e2=>by
  obtain⟨v,r,rfl,q1,r1⟩:=h1;obtain⟨u,r',rfl,q2,r2⟩:=h2;simp[eqbL]at he;simp[depL]at hn;cases i with
  |zero=>simp at e1 e2;subst e1 e2;exact j4r s d n v u he.1 (by omega) q1 q2
  |succ i=>exact y4d s ds n r r' he.2 (by omega) r1 r2 i x y (by simpa using e1) (by simpa using e2)
end
def fEqL:D->D->(Bool->D->Prop)->Prop:=fun x y Q=>∃xs ys,x=.lst xs/\y=.lst ys/\((xs.length≠ys.length/\Q false (.bl false))\/(xs=ys/\eqbL xs=true/\depL xs<=90/\Q false (.bl true)))
def fNeL:D->D->(Bool->D->Prop)->Prop:=fun x y Q=>∃xs ys,x=.lst xs/\y=.lst ys/\((xs.length≠ys.length/\Q false (.bl true))\/(xs=ys/\eqbL xs=true/\depL xs<=90/\Q false (.bl false)))
theorem y1h {X:Cx}(hu:X.A.units+100<cLine):OpS (fun x y H Q=>∃a b,x=.ref a/\y=.ref b/\∃xs,H a=some (.lst xs)/\∃ys,H b=some (.lst ys)/\X.A.units<cLine /\
  ((xs.length≠ys.length/\Q (.bl false) H)\/(xs.length=ys.length/\(∃n,(∀(i:Nat) x y,xs[i]? = some x->ys[i]? = some y->EqT H n x y)/\X.A.units+n+1<cLine)/\Q (.bl true) H))) fEqL:=by
 intro io H0 F0 F δ σ H x y v u Q Qd I px py q k;obtain⟨xs,ys,rfl,rfl,q⟩:=q;obtain⟨a,vs,rfl,h1,r1⟩:=px.lst I;obtain⟨b,us,rfl,h2,r2⟩:=py.lst I;refine⟨a,b,rfl,rfl,vs,h1,us,h2,by omega,?_⟩;rcases q with ⟨hl,q⟩|⟨rfl,he,hd,q⟩
 ·exact .inl ⟨by rw[<-r1.len,<-r2.len];exact hl,k false _ _ F H (Same.refl _) I.pB q⟩
 ·exact .inr ⟨by rw[<-r1.len,<-r2.len],⟨90,y4d I.sub xs 90 vs us he hd r1 r2,by omega⟩,k false _ _ F H (Same.refl _) I.pB q⟩
theorem x2f {X:Cx}(hu:X.A.units+100<cLine):OpS (fun x y H Q=>∃a b,x=.ref a/\y=.ref b/\∃xs,H a=some (.lst xs)/\∃ys,H b=some (.lst ys)/\X.A.units<cLine /\
  ((xs.length≠ys.length/\Q (.bl true) H)\/(xs.length=ys.length/\(∃n,(∀(i:Nat) x y,xs[i]? = some x->ys[i]? = some y->EqT H n x y)/\X.A.units+n+1<cLine)/\Q (.bl false) H))) fNeL:=by
 intro io H0 F0 F δ σ H x y v u Q Qd I px py q k;obtain⟨xs,ys,rfl,rfl,q⟩:=q;obtain⟨a,vs,rfl,h1,r1⟩:=px.lst I;obtain⟨b,us,rfl,h2,r2⟩:=py.lst I;refine⟨a,b,rfl,rfl,vs,h1,us,h2,by omega,?_⟩;rcases q with ⟨hl,q⟩|⟨rfl,he,hd,q⟩
 ·exact .inl ⟨by rw[<-r1.len,<-r2.len];exact hl,k false _ _ F H (Same.refl _) I.pB q⟩
 ·exact .inr ⟨by rw[<-r1.len,<-r2.len],⟨90,y4d I.sub xs 90 vs us he hd r1 r2,by omega⟩,k false _ _ F H (Same.refl _) I.pB q⟩
theorem Reps.strs {F:Hp}:∀{ks:List Str}{vs:List V},Reps F (ks.map D.str) vs->vs=ks.map V.str
 | [],vs,h=>h
 |k::ks,vs,h=>by obtain⟨v,r,rfl,h1,h2⟩:=h;rw[Reps.strs h2];cases(show v=.str k from h1);rfl
theorem Reps.bls {F:Hp}:∀{ks:List Bool}{vs:List V},Reps F (ks.map D.bl) vs->vs=ks.map V.bl
 | [],vs,h=>h
 |k::ks,vs,h=>by obtain⟨v,r,rfl,h1,h2⟩:=h;rw[Reps.bls h2];cases(show v=.bl k from h1);rfl
def fInL:D->D->(Bool->D->Prop)->Prop:=fun x y Q=>∃(k:Str)(ks:List Str),x=.str k/\y=.lst (ks.map .str)/\Q false (.bl (decide (k∈ks)))
def x6w:D->D->(Bool->D->Prop)->Prop:=fun x y Q=>∃(k:Str)(ks:List Str),x=.str k/\y=.lst (ks.map .str)/\Q false (.bl (!decide (k∈ks)))
def fInT:D->D->(Bool->D->Prop)->Prop:=fun x y Q=>∃(k:Str)(ks:List Str),x=.str k/\y=.tup (ks.map .str)/\Q false (.bl (decide (k∈ks)))
theorem q6y:OpS (fun x y H Q=>∃p,y=.ref p/\∃xs,H p=some (.lst xs)/\z5q x=true/\xs.all z5q=true/\Q (.bl (inV x xs)) H) fInL:=by
 intro io H0 F0 F δ σ H x y v u Q Qd I px py q k;obtain⟨s,ks,rfl,rfl,q⟩:=q;obtain⟨b,us,rfl,h2,r2⟩:=py.lst I;cases px.str;cases r2.strs;refine⟨b,rfl,_,h2,rfl,y1j ks,k false _ _ F H (Same.refl _) (I.pushF ?_) q⟩;rw[y6g];rfl
theorem y7d:OpS (fun x y H Q=>∃p,y=.ref p/\∃xs,H p=some (.lst xs)/\z5q x=true/\xs.all z5q=true/\Q (.bl (!inV x xs)) H) x6w:=by
 intro io H0 F0 F δ σ H x y v u Q Qd I px py q k;obtain⟨s,ks,rfl,rfl,q⟩:=q;obtain⟨b,us,rfl,h2,r2⟩:=py.lst I;cases px.str;cases r2.strs;refine⟨b,rfl,_,h2,rfl,y1j ks,k false _ _ F H (Same.refl _) (I.pushF ?_) q⟩;rw[y6g];rfl
theorem x0t:OpS (fun x y H Q=>∃p,y=.ref p/\∃xs,H p=some (.tup xs)/\z5q x=true/\xs.all z5q=true/\Q (.bl (inV x xs)) H) fInT:=by
 intro io H0 F0 F δ σ H x y v u Q Qd I px py q k;obtain⟨s,ks,rfl,rfl,q⟩:=q;obtain⟨b,us,rfl,h2,r2⟩:=py.tup I;cases px.str;cases r2.strs;refine⟨b,rfl,_,h2,rfl,y1j ks,k false _ _ F H (Same.refl _) (I.pushF ?_) q⟩;rw[y6g];rfl
def y8x (td:TEd):TTd:=fun δ Q=>td δ fun _ d δ'=>∃c,d=.bl c/\Q c δ'
theorem x2m {te:TE}{td:TEd}(s:Sim te td):SimT (tB te) (y8x td):=by
 intro io H0 F0 F δ σ H Q Qd I q k;refine s.fz I q fun d v δ' F' H' sf I' r q'=>?_;obtain⟨c,rfl,q'⟩:=q';exact⟨c,r,k c δ' F' H' sf I' q'⟩
theorem y1q {te:TE}{td:TEd}(s:Sim te td):SimT (y0s te) (y8x td):=x2m s
def dNot (t:TTd):TTd:=fun δ Q=>t δ fun c δ'=>Q (!c) δ'
def dAnd (t u:TTd):TTd:=fun δ Q=>t δ fun c δ'=>if c=true then u δ' Q else Q false δ'
def dOr (t u:TTd):TTd:=fun δ Q=>t δ fun c δ'=>if c=true then Q true δ' else u δ' Q
theorem q3o {t:TT}{td:TTd}(s:SimT t td):SimT (tNot t) (dNot td):=fun io H0 F0 F δ σ H Q Qd I q k =>
 s io H0 F0 F δ σ H _ _ I q fun b δ' F' H' sf I' q'=>k (!b) δ' F' H' sf I' q'
theorem q3h {t u:TT}{td ud:TTd}(s:SimT t td)(s':SimT u ud):SimT (tAnd t u) (dAnd td ud):=by
 intro io H0 F0 F δ σ H Q Qd I q k;refine s io H0 F0 F δ σ H _ _ I q fun b δ' F' H' sf I' q'=>?_;cases b with
 |true=>rw[if_pos rfl]at q' ⊢;exact s' io H0 F0 F' δ' σ H' _ _ I' q' fun b δ2 F2 H2 s2 I2 q2=>k b δ2 F2 H2 (sf.trans s2) I2 q2
 |false=>rw[if_neg Bool.false_ne_true]at q' ⊢;exact k false δ' F' H' sf I' q'
theorem q9u {t u:TT}{td ud:TTd}(s:SimT t td)(s':SimT u ud):SimT (tOr t u) (dOr td ud):=by
 intro io H0 F0 F δ σ H Q Qd I q k;refine s io H0 F0 F δ σ H _ _ I q fun b δ' F' H' sf I' q'=>?_;cases b with
 |false=>rw[if_neg Bool.false_ne_true]at q' ⊢;exact s' io H0 F0 F' δ' σ H' _ _ I' q' fun b δ2 F2 H2 s2 I2 q2=>k b δ2 F2 H2 (sf.trans s2) I2 q2
 |true=>rw[if_pos rfl]at q' ⊢;exact k true δ' F' H' sf I' q'
noncomputable def truD:D->Option Bool
 |.lst xs=>some (!xs.isEmpty)
 |.tup xs=>some (!xs.isEmpty)
 |.dct xs=>some (!xs.isEmpty)
 |.bl b=>some b
 |.int i=>some (i != 0)
 |.non=>some false
 |_=>none
theorem Reps.isEmpty {F:Hp}{ds:List D}{vs:List V}(h:Reps F ds vs):vs.isEmpty=ds.isEmpty:=by
 cases ds with
 |nil=>cases(show vs=[] from h);rfl
 |cons d ds=>obtain⟨v,r,rfl,_⟩:=h;rfl
theorem RepK.isEmpty {F:Hp}{ds:List (Key×D)}{vs:List (Key×V)}(h:RepK F ds vs):vs.isEmpty=ds.isEmpty:=by
 cases ds with
 |nil=>cases(show vs=[] from h);rfl
 |cons d ds=>obtain⟨v,r,rfl,_⟩:=h;rfl
theorem j0p {K:W.Frag}{io:List (Option Addr)}{H0 F0 F:Hp}{δ:List Slot}{σ:St}{H:Hp}{d:D}{v:V}{b:Bool}(I:EI io H0 F0 F δ σ H)(p:Pk F H d v)(h:truD d=some b):TruV K v H b:=by
 cases d with
 |lst xs =>
  obtain⟨a,vs,rfl,h1,r⟩:=p.lst I;cases h;exact .inl ⟨vs,SqL.of h1,by rw[r.isEmpty]⟩
 |tup xs =>
  obtain⟨a,vs,rfl,h1,r⟩:=p.tup I;cases h;exact .inr (.inl ⟨vs,SqT.of h1,by rw[r.isEmpty]⟩)
 |dct xs =>
  obtain⟨a,vs,rfl,h1,r⟩:=p.dct I;cases h;exact .inr (.inr ⟨vs,h1,by rw[r.isEmpty]⟩)
 |bl c=>cases p.bl;cases h;rfl
 |int c=>cases p.int;cases h;rfl
 |non=>cases p.non;cases h;rfl
 |str c=>cases h
 |ty c=>cases h
def j0u (i:Nat):TTd:=fun δ Q=>∃d c,peek δ i=some d/\truD d=some c/\Q c δ
variable {rest:List Expr}
theorem z6i (h:DE X a da)(he:∀whole,isTrue a X.env whole=(do let v <-whole;standAt a.pos;holding [v] (truthy v)):=by intro _;rfl):DT X a (y8x da):=by
 obtain⟨ta,pa,sa⟩:=h;exact⟨_,z5x pa he,x2m sa⟩
theorem z0r {op:CmpOp}(hs:OpS r f)(ho:OpR X (compareOp op) r)(ha:DE X a da)(hb:DE X b db)(hm:behindInMarks op b=false):DT X (.Compare a [op] [b] pos) (y8x (dOp f da db)):=by
 obtain⟨ta,pa,sa⟩:=ha;obtain⟨tb,pb,sb⟩:=hb;exact⟨_,z2b ho pa pb hm,y1q (x2w hs sa sb)⟩
theorem z5p {op:CmpOp}{i:Nat}{x:Str}{p:Pos}(hs:OpS r f)(ho:OpR X (compareOp op) r)(ha:PE X (.Name x p) (tVar i))(hb:DE X b db)(hm:behindInMarks op b=false):DT X (.Compare (.Name x p) [op] [b] pos) (y8x (dOpV f i db)):=by
 obtain⟨tb,pb,sb⟩:=hb;exact⟨_,z2b ho ha pb hm,y1q (y9w hs sb)⟩
theorem y2k {op:CmpOp}{i:Nat}{x:Str}{p:Pos}(hs:OpS r f)(ho:OpR X (compareOp op) r)(ha:DE X a da)(hb:PE X (.Name x p) (tVar i))(hm:behindInMarks op (.Name x p)=false):DT X (.Compare a [op] [.Name x p] pos) (y8x (dOpW f da i)):=by
 obtain⟨ta,pa,sa⟩:=ha;exact⟨_,z2b ho pa hb hm,y1q (j0g hs sa)⟩
theorem y6x {t:TTd}(h:DT X a t):DT X (.UnaryOp .Not a pos) (dNot t):=by obtain⟨u,p,s⟩:=h;exact⟨_,y5m p,q3o s⟩
theorem z7g {t:TTd}(h:DT X a t):DW X (.BoolOp .And [a] pos) t:=by obtain⟨u,p,s⟩:=h;exact⟨_,z8n p,s⟩
theorem z8a {t:TTd}(h:DT X a t):DW X (.BoolOp .Or [a] pos) t:=by obtain⟨u,p,s⟩:=h;exact⟨_,y7c p,s⟩
theorem y0c {t u:TTd}(h:DT X a t)(h':DW X (.BoolOp .And (b::rest) pos) u):DW X (.BoolOp .And (a::b::rest) pos) (dAnd t u):=by
 obtain⟨t',p,s⟩:=h;obtain⟨u',p',s'⟩:=h';exact⟨_,y4f p p',q3h s s'⟩
theorem z7y {t u:TTd}(h:DT X a t)(h':DW X (.BoolOp .Or (b::rest) pos) u):DW X (.BoolOp .Or (a::b::rest) pos) (dOr t u):=by
 obtain⟨t',p,s⟩:=h;obtain⟨u',p',s'⟩:=h';exact⟨_,x6v p p',q9u s s'⟩
theorem dt_w {t:TTd}(h:DW X a t):DT X a t:=by obtain⟨u,p,s⟩:=h;exact⟨_,p.pt,s⟩
theorem x8 {i:Nat}{x:Str}{p:Pos}(ha:PE X (.Name x p) (tVar i))(he:∀whole,isTrue (.Name x p) X.env whole=(do let v <-whole;standAt (Expr.Name x p).pos;holding [v] (truthy v)):=by intro _;rfl):DT X (.Name x p) (j0u i):=by
 refine⟨_,y1e ha he,fun io H0 F0 F δ σ H Q Qd I q k=>?_⟩;obtain⟨d,c,e,ec,q⟩:=q;obtain⟨v,ev,pk⟩:=I.pk e;exact⟨v,ev,c,j0p I pk ec,k c δ F H (Same.refl _) I q⟩
def q8h (ta tb:TEd):TEd:=fun δ Q=>ta δ fun _ x δ'=>∃c,x=.bl c/\if c=true then tb δ' Q else Q false (.bl false) δ'
def q7s (ta:TEd):TEd:=fun δ Q=>ta δ fun _ x δ'=>∃c,x=.bl c/\Q false (.bl (!c)) δ'
def dIf (t:TTd)(ta tb:TEd):TEd:=fun δ Q=>t δ fun c δ'=>if c=true then ta δ' Q else tb δ' Q
theorem y8n {op}(h:DE X a da):DE X (.BoolOp op [a] pos) da:=by obtain⟨t,p,s⟩:=h;exact⟨_,j3o p,s⟩
theorem x1r (ha:DE X a da)(hb:DE X (.BoolOp .And (b::rest) pos) db):DE X (.BoolOp .And (a::b::rest) pos) (q8h da db):=by
 obtain⟨ta,pa,sa⟩:=ha;obtain⟨tb,pb,sb⟩:=hb;refine⟨_,j4g pa pb,fun io H0 F0 F δ σ H Q Qd I q k=>sa.fz I q fun d v δ' F' H' sf I' r q'=>?_⟩;obtain⟨c,rfl,q'⟩:=q';refine⟨c,r,?_⟩;cases c with
 |true=>rw[if_pos rfl]at q' ⊢;exact sb io H0 F0 F' δ' σ H' Q Qd I' q' fun b d v δ2 F2 H2 s2 I2 q2=>k b d v δ2 F2 H2 (sf.trans s2) I2 q2
 |false=>rw[if_neg Bool.false_ne_true]at q' ⊢;exact k false _ _ δ' F' H' sf I'.pB q'
theorem j6z (ha:DE X a da):DE X (.UnaryOp .Not a pos) (q7s da):=by
 obtain⟨ta,pa,sa⟩:=ha;refine⟨_,j4b pa,fun io H0 F0 F δ σ H Q Qd I q k=>sa.fz I q fun d v δ' F' H' sf I' r q'=>?_⟩;obtain⟨c,rfl,q'⟩:=q';exact⟨c,r,k false _ _ δ' F' H' sf I'.pB q'⟩
theorem q7r {c:Expr}{t:TTd}(hc:DT X c t)(ha:DE X a da)(hb:DE X b db):DE X (.IfExp c a b pos) (dIf t da db):=by
 obtain⟨tc,pc,sc⟩:=hc;obtain⟨ta,pa,sa⟩:=ha;obtain⟨tb,pb,sb⟩:=hb;refine⟨_,z8s pc pa pb,fun io H0 F0 F δ σ H Q Qd I q k=>sc io H0 F0 F δ σ H _ _ I q fun c δ' F' H' sf I' q'=>?_⟩;cases c with
 |true=>rw[if_pos rfl]at q' ⊢;exact sa io H0 F0 F' δ' σ H' Q Qd I' q' fun b d v δ2 F2 H2 s2 I2 q2=>k b d v δ2 F2 H2 (sf.trans s2) I2 q2
 |false=>rw[if_neg Bool.false_ne_true]at q' ⊢;exact sb io H0 F0 F' δ' σ H' Q Qd I' q' fun b d v δ2 F2 H2 s2 I2 q2=>k b d v δ2 F2 H2 (sf.trans s2) I2 q2
def dNil:TLd:=fun δ Q=>Q [] δ
def j1a (t:TEd)(u:TLd):TLd:=fun δ Q=>t δ fun _ d δ'=>u δ' fun ds δ''=>Q (d::ds) δ''
theorem z0d:DL X [] dNil:=⟨_,z0p,fun io H0 F0 F δ σ H Q Qd I q k=>k [] [] δ F H (Same.refl _) I rfl q⟩
theorem z0a {es:List Expr}{u:TLd}(ha:DE X a da)(hr:DL X es u)(hs:starEach (a::es) X.env=(false,eval a X.env)::starEach es X.env:=by rfl):DL X (a::es) (j1a da u):=by
 obtain⟨ta,pa,sa⟩:=ha;obtain⟨tr,pr,sr⟩:=hr;refine⟨_,z0i pa pr hs,fun io H0 F0 F δ σ H Q Qd I q k=>sa.fz I q fun d v δ' F' H' sf I' r q'=>sr io H0 F0 F' δ' σ H' _ _ I' q' fun ds vs δ2 F2 H2 s2 I2 r2 q2=>?_⟩;exact k (d::ds) (v::vs) δ2 F2 H2 (sf.trans s2) I2 ⟨v,vs,rfl,Rep.mono s2 _ _ r,r2⟩ q2
def dTup (u:TLd):TEd:=fun δ Q=>u δ fun ds δ'=>ds.length<=sizeLine/\Q false (.tup ds) δ'
def dLst (u:TLd):TEd:=fun δ Q=>u δ fun ds δ'=>ds.length<=sizeLine/\Q true (.lst ds) δ'
theorem z1j {x1}{es:List Expr}{u:TLd}(h:DL X es u):DE X (.Tuple es x1 pos) (dTup u):=by
 obtain⟨t,p,s⟩:=h;refine⟨_,y2i p,fun io H0 F0 F δ σ H Q Qd I q k=>s io H0 F0 F δ σ H _ _ I q fun ds vs δ' F' H' sf I' r q'=>⟨by rw[<-r.len];exact q'.1,fun p hp=>?_⟩⟩;obtain⟨F2,s2,I2,r2⟩:=I'.newT hp r;exact k false _ _ δ' F2 _ (sf.trans s2) (I2.pushF r2) q'.2
theorem z1a {es:List Expr}{u:TLd}(h:DL X es u):DE X (.List es pos) (dLst u):=by
 obtain⟨t,p,s⟩:=h;exact⟨_,z4v p,fun io H0 F0 F δ σ H Q Qd I q k=>s io H0 F0 F δ σ H _ _ I q fun ds vs δ' F' H' sf I' r q'=>⟨by rw[<-r.len];exact q'.1,fun p hp=>k true _ _ δ' F' _ sf (I'.newL hp r) q'.2⟩⟩
def y0u (r:List V->Hp->VK->Prop)(f:List D->(Bool->D->Prop)->Prop):Prop:=∀(io:List (Option Addr))(H0 F0 F:Hp)(δ:List Slot)(σ:St)(H:Hp)(xs:List D)(vs:List V)(Q:VK)(Qd:Bool->D->Prop),EI io H0 F0 F δ σ H->Paired (Pk F H) xs vs->f xs Qd ->
 (∀b d w F' H',Same F F'->EI (none::io) H0 F0 F' (rsl b d::δ) (some w::σ) H'->Qd b d->Q w H')->r vs H Q
theorem Reps.pks {F H:Hp}:∀{ds:List D}{vs:List V},Reps F ds vs->Paired (Pk F H) ds vs
 | [],vs,h=>by cases(show vs=[] from h);exact .nil
 |d::ds,vs,h=>by obtain⟨v,r,rfl,h1,h2⟩:=h;exact .cons (.inl h1) (Reps.pks h2)
def dCB (f:List D->(Bool->D->Prop)->Prop)(u:TLd):TEd:=fun δ Q=>u δ fun ds δ'=>f ds fun b d=>Q b d δ'
def dCBV (f:List D->(Bool->D->Prop)->Prop)(i:Nat):TEd:=fun δ Q=>∃d,peek δ i=some d/\f [d] fun b d=>Q b d δ
theorem q6k {r:List V->Hp->VK->Prop}{f:List D->(Bool->D->Prop)->Prop}{t:TA}{u:TLd}(hs:y0u r f)(s:SimL t u):Sim (tCB r t) (dCB f u):=fun io H0 F0 F δ σ H Q Qd I q k =>
 s io H0 F0 F δ σ H _ _ I q fun ds vs δ' F' H' sf I' r q'=>hs io H0 F0 F' δ' σ H' ds vs Q _ I' r.pks q' fun b d w F2 H2 s2 I2 q2=>k b d w δ' F2 H2 (sf.trans s2) I2 q2
theorem q9g {r:List V->Hp->VK->Prop}{f:List D->(Bool->D->Prop)->Prop}{i:Nat}(hs:y0u r f):Sim (tCB r (z8y (tVar i) tNil)) (dCBV f i):=fun io H0 F0 F δ σ H Q Qd I q k=>by
 obtain⟨d,e,q⟩:=q;obtain⟨v,ev,pk⟩:=I.pk e;exact⟨v,ev,hs io H0 F0 F δ σ H [d] [v] Q _ I (.cons pk .nil) q fun b d w F2 H2 s2 I2 q2=>k b d w δ F2 H2 s2 I2 q2⟩
end
section
variable {X:Cx}{pos p p':Pos}{e:Expr}{es:List Expr}{x y:Str}{u:TLd}{f:List D->(Bool->D->Prop)->Prop}{r:List V->Hp->VK->Prop}{id T:String}
theorem z3m (hs:y0u r f)(hc:z8i X (.builtin id) r)(hg:Gl X x)(hm:X.mg x=none)(hv:bootBuiltins x=some (.builtin id))(ha:DL X (e::es) u)(hn:x ≠ "__name__":=by decide)(hdb:(x == ("__debug__":Str))=false:=by decide)
  (he:starEach (e::es) X.env=(false,eval e X.env)::starEach es X.env:=by rfl)(hpl:(backTo pos (starEach es X.env)).any (·.1)=false:=by rfl):DE X (.Call (.Name x p) (e::es) [] pos) (dCB f u):=by
 obtain⟨t,pt,s⟩:=ha;exact⟨_,z3h hc hg hm hv pt hn hdb he hpl,q6k hs s⟩
theorem z1i {i:Nat}(hs:y0u r f)(hc:z8i X (.builtin id) r)(hg:Gl X x)(hm:X.mg x=none)(hv:bootBuiltins x=some (.builtin id))(ha:PE X (.Name y p') (tVar i))(hn:x ≠ "__name__":=by decide)(hdb:(x == ("__debug__":Str))=false:=by decide)
  (he:starEach [.Name y p'] X.env=[(false,eval (.Name y p') X.env)]:=by rfl)(hpl:(backTo pos (starEach [] X.env)).any (·.1)=false:=by rfl):DE X (.Call (.Name x p) [.Name y p'] [] pos) (dCBV f i) :=
 ⟨_,z3h hc hg hm hv (z0i ha z0p he) hn hdb he hpl,q9g hs⟩
theorem z7m (hs:y0u r f)(hc:z8i X (.type T) r)(hg:Gl X x)(hm:X.mg x=none)(hv:bootBuiltins x=some (.type T))(ha:DL X (e::es) u)(hn:x ≠ "__name__":=by decide)(hdb:(x == ("__debug__":Str))=false:=by decide)
  (he:starEach (e::es) X.env=(false,eval e X.env)::starEach es X.env:=by rfl)(hpl:(backTo pos (starEach es X.env)).any (·.1)=false:=by rfl):DE X (.Call (.Name x p) (e::es) [] pos) (dCB f u):=by
 obtain⟨t,pt,s⟩:=ha;exact⟨_,y6y hc hg hm hv pt hn hdb he hpl,q6k hs s⟩
theorem pks1 {F H:Hp}{d:D}{vs:List V}(h:Paired (Pk F H) [d] vs):∃v,vs=[v]/\Pk F H d v:=by
 cases h with
 |cons h t=>cases t;exact⟨_,rfl,h⟩
theorem pks2 {F H:Hp}{d d':D}{vs:List V}(h:Paired (Pk F H) [d,d'] vs):∃v v',vs=[v,v']/\Pk F H d v/\Pk F H d' v':=by
 cases h with
 |cons h t =>
  cases t with
  |cons h' t=>cases t;exact⟨_,_,rfl,h,h'⟩
def q8k:List D->(Bool->D->Prop)->Prop:=fun ds Q=>∃xs,ds=[.lst xs]/\Q false (.int xs.length)
def q9m:List D->(Bool->D->Prop)->Prop:=fun ds Q=>∃z,ds=[.str z]/\z.length<=sizeLine/\Q false (.int z.length)
theorem z4c:y0u (fun xs H Q=>∃p,xs=[.ref p]/\∃ys,H p=some (.lst ys)/\Q (.int ys.length) H) q8k:=by
 intro io H0 F0 F δ σ H xs vs Q Qd I px q k;obtain⟨ys,rfl,q⟩:=q;obtain⟨v,rfl,pk⟩:=pks1 px;obtain⟨a,us,rfl,h1,r⟩:=pk.lst I;refine⟨a,rfl,us,h1,k false (.int ys.length) _ F H (Same.refl _) (I.pushF ?_) q⟩;rw[r.len];rfl
theorem z6r:y0u (fun xs H Q=>∃z,xs=[.str z]/\z.length<=sizeLine/\Q (.int z.length) H) q9m:=by
 intro io H0 F0 F δ σ H xs vs Q Qd I px q k;obtain⟨z,rfl,hz,q⟩:=q;obtain⟨v,rfl,pk⟩:=pks1 px;cases pk.str;exact⟨z,rfl,hz,k false _ _ F H (Same.refl _) I.pI q⟩
noncomputable def tyD:D->String
 |.non=>"NoneType" | .bl _=>"bool" | .int _=>"int" | .str _=>"str" | .ty _=>"type" | .lst _=>"list" | .tup _=>"tuple" | .dct _=>"dict"
noncomputable def isTy (t T:String):Bool:=t == T||(t == "bool"&&T == "int")
def q8b (K:W.Frag):Prop:=∀t∈["str","int","bool","list","tuple","dict","NoneType"],∀T∈["str","int","bool","list","tuple","dict"],kitOne K (.type t) (.type T)=some (isTy t T)
def fIsI:List D->(Bool->D->Prop)->Prop:=fun ds Q=>∃d T,ds=[d,.ty T]/\tyD d ≠ "type"/\T∈["str","int","bool","list","tuple","dict"]/\Q false (.bl (isTy (tyD d) T))
theorem j0h {K:W.Frag}{io:List (Option Addr)}{H0 F0 F:Hp}{δ:List Slot}{σ:St}{H:Hp}{d:D}{v:V}(I:EI io H0 F0 F δ σ H)(p:Pk F H d v)(h:tyD d ≠ "type"):TyOf K H v (.type (tyD d)):=by
 cases d with
 |lst xs=>obtain⟨a,vs,rfl,h1,r⟩:=p.lst I;exact .lst h1
 |tup xs=>obtain⟨a,vs,rfl,h1,r⟩:=p.tup I;exact .tup h1
 |dct xs=>obtain⟨a,vs,rfl,h1,r⟩:=p.dct I;exact .dK h1
 |bl c=>cases p.bl;exact .bl c
 |int c=>cases p.int;exact .int c
 |str c=>cases p.str;exact .str c
 |non=>cases p.non;exact .non
 |ty c=>exact absurd rfl h
theorem y0k {K:W.Frag}(hk:q8b K):y0u (fun xs H Q=>∃x T t b,xs=[x,.ty T]/\TyOf K H x t/\kitOne K t (.type T)=some b/\Q (.bl b) H) fIsI:=by
 intro io H0 F0 F δ σ H xs vs Q Qd I px q k;obtain⟨d,T,rfl,hd,hT,q⟩:=q;obtain⟨v,v',rfl,p1,p2⟩:=pks2 px;have e:v' = .ty T:=by
  rcases p2 with h|⟨a,_,h⟩
  ·exact h
  ·exact h.elim
 subst e;refine⟨v,T,_,_,rfl,j0h I p1 hd,hk _ ?_ T hT,k false _ _ F H (Same.refl _) I.pB q⟩;cases d<;>first|exact absurd rfl hd|simp[tyD]
def y5s:List D->(Bool->D->Prop)->Prop:=fun ds Q=>∃xs,ds=[.lst xs]/\Q true (.lst xs)
theorem x9x:y0u (fun xs H Q=>∃p,xs=[.ref p]/\∃ys,H p=some (.lst ys)/\∀l,H l=none->Q (.ref l) (upd H l (.lst ys))) y5s:=by
 intro io H0 F0 F δ σ H xs vs Q Qd I px q k;obtain⟨ys,rfl,q⟩:=q;obtain⟨v,rfl,pk⟩:=pks1 px;obtain⟨a,us,rfl,h1,r⟩:=pk.lst I;exact⟨a,rfl,us,h1,fun l hl=>k true _ _ F _ (Same.refl _) (I.newL hl r) q⟩
def j1n:List D->(Bool->D->Prop)->Prop:=fun ds Q=>(∃i,ds=[.int i]/\Q false (.int i)) \/ ∃b,ds=[.bl b]/\Q false (.int (if b then 1 else 0))
theorem x9i:y0u (fun xs H Q=>(∃i,xs=[.int i]/\Q (.int i) H) \/ ∃k,xs=[.bl k]/\Q (.int (if k then 1 else 0)) H) j1n:=by
 intro io H0 F0 F δ σ H xs vs Q Qd I px q k;rcases q with ⟨i,rfl,q⟩|⟨b,rfl,q⟩
 ·obtain⟨v,rfl,pk⟩:=pks1 px;cases pk.int;exact .inl ⟨i,rfl,k false _ _ F H (Same.refl _) I.pI q⟩
 ·obtain⟨v,rfl,pk⟩:=pks1 px;cases pk.bl;exact .inr ⟨b,rfl,k false _ _ F H (Same.refl _) I.pI q⟩
def MtS (r:V->List V->Hp->VK->Prop)(f:D->List D->(D->D->Prop)->Prop):Prop:=∀(F H:Hp)(a:Addr)(c:D)(xs:List D)(vs:List V)(Q:VK)(Qd:D->D->Prop),Same F H->Cont F H a c->F a=none->Reps F xs vs->f c xs Qd ->
 (∀c' d w o,Cont F (upd H a o) a c'->Rep F d w->Qd c' d->Q w (upd H a o))->r (.ref a) vs H Q
noncomputable def isL:D->Bool
 |.lst _=>true
 |_=>false
def dMt (f:D->List D->(D->D->Prop)->Prop)(i:Nat)(u:TLd):TEd:=fun δ Q=>((peek δ i).map isL=some true)/\u δ fun ds δ'=>∃fl c,δ'[i]? = some (.ob fl c)/\f c ds fun c' d=>Q false d (δ'.set i (.ob fl c'))
theorem j4l {d:D}(h:isL d=true):∃xs,d=.lst xs:=by cases d<;>first|exact⟨_,rfl⟩|cases h
theorem q4h {r:V->List V->Hp->VK->Prop}{f:D->List D->(D->D->Prop)->Prop}{i:Nat}{t:TA}{u:TLd}(hs:MtS r f)(s:SimL t u):Sim (tLM r (tVar i) t) (dMt f i u):=fun io H0 F0 F δ σ H Q Qd I q k=>by
 obtain⟨h0,q⟩:=q;obtain⟨d0,e0,e1⟩:=map_eq_some_iff.mp h0;obtain⟨xs,rfl⟩:=j4l e1;obtain⟨v,ev,pk⟩:=I.pk e0;obtain⟨a,vs,rfl,h1,_⟩:=pk.lst I;refine⟨_,ev,a,rfl,⟨vs,h1⟩,s io H0 F0 F δ σ H _ _ I q fun ds us δ' F' H' sf I' r q'=>?_⟩;obtain⟨fl,c,ec,q'⟩:=q';obtain⟨a',ea,n1,n2,hc,hio⟩:=I'.get i _ ec;have:a' = a:=by
  have:=z2n ea;rw[ev]at this;cases this;rfl
 subst this;refine hs F' H' a' c ds us Q _ I'.sub hc n2 r q' fun c' d w o hc' rd qd=>?_;exact k false d w _ F' _ sf ((I'.change ec ea hc').pushF rd) qd
theorem j1i {r:V->List V->Hp->VK->Prop}{f:D->List D->(D->D->Prop)->Prop}{i:Nat}(hs:MtS r f):Sim (tLM0 r (tVar i)) (dMt f i dNil):=fun io H0 F0 F δ σ H Q Qd I q k=>by
 obtain⟨v,ev,a,e,h1,h2⟩:=(q4h (t:=tNil) (u:=dNil) hs fun io H0 F0 F δ σ H Q Qd I q k=>k [] [] δ F H (Same.refl _) I rfl q) io H0 F0 F δ σ H Q Qd I q k;exact⟨v,ev,a,e,h1,h2⟩
end
section
variable {X:Cx}{x name:Str}{p apos cpos:Pos}{e:Expr}{es:List Expr}{i:Nat}{u:TLd}{f:D->List D->(D->D->Prop)->Prop}{r:V->List V->Hp->VK->Prop}{id:String}
theorem j5j (hs:MtS r f)(slot:PySem.Slot "list" name id)(hty:typeOf (.builtin id)=pure (.type "method_descriptor"))(hm:MtR X id r)(ho:PE X (.Name x p) (tVar i))
  (hbase:attributeBase (.Name x p) name X.env (eval (.Name x p) X.env)=eval (.Name x p) X.env:=by rfl)(hline:(apos.endLine == cpos.line)=true:=by rfl):DE X (.Call (.Attribute (.Name x p) name apos) [] [] cpos) (dMt f i dNil):=⟨_,q0a slot hty hm ho hbase hline,j1i hs⟩
theorem y3p (hs:MtS r f)(slot:PySem.Slot "list" name id)(hty:typeOf (.builtin id)=pure (.type "method_descriptor"))(hm:MtR X id r)(ho:PE X (.Name x p) (tVar i))(ha:DL X (e::es) u)
  (hbase:attributeBase (.Name x p) name X.env (eval (.Name x p) X.env)=eval (.Name x p) X.env:=by rfl)
  (hfew:((backTo cpos (starEach (e::es) X.env)).all (fun x=>!x.1)&&(backToKw cpos (keywordEach [] X.env)).all (fun x=>x.1.isSome)
  &&decide ((e::es).length+([]:List Keyword).length+(if ([]:List Keyword).isEmpty then 0 else 1)<30))=true:=by rfl)
  (hline:(apos.endLine == cpos.line)=true:=by rfl)(hst:starEach (e::es) X.env=(false,eval e X.env)::starEach es X.env:=by rfl)(hplain:(backTo cpos (starEach es X.env)).any (·.1)=false:=by rfl) :
  DE X (.Call (.Attribute (.Name x p) name apos) (e::es) [] cpos) (dMt f i u):=by
 obtain⟨t,pt,s⟩:=ha;exact⟨_,y4l slot hty hm ho pt hbase hfew hline hst hplain,q4h hs s⟩
def y9z:D->List D->(D->D->Prop)->Prop:=fun c ds Q=>∃xs d,c=.lst xs/\ds=[d]/\xs.length<sizeLine/\Q (.lst (xs++[d])) .non
def x0o:D->List D->(D->D->Prop)->Prop:=fun c ds Q=>∃xs ys,c=.lst xs/\ds=[.lst ys]/\xs.length+ys.length<=sizeLine/\Q (.lst (xs++ys)) .non
def fPop:D->List D->(D->D->Prop)->Prop:=fun c ds Q=>∃xs d,c=.lst xs/\ds=[]/\xs[xs.length - 1]? = some d/\Q (.lst xs.dropLast) d
theorem Reps.one_inv {F:Hp}{d:D}{vs:List V}(h:Reps F [d] vs):∃v,vs=[v]/\Rep F d v:=by
 obtain⟨v,r,rfl,h1,h2⟩:=h;cases(show r=[] from h2);exact⟨v,rfl,h1⟩
theorem z3f:MtS z4r y9z:=by
 intro F H a c xs vs Q Qd s hc hf r q k;obtain⟨ys,d,rfl,rfl,hl,q⟩:=q;obtain⟨us,h1,r1⟩:=hc;obtain⟨v,rfl,rv⟩:=r.one_inv;exact⟨a,us,v,rfl,rfl,h1,by rw[<-r1.len];exact hl,k (.lst _) .non .non _ ⟨_,z0g,r1.app (.one rv)⟩ rfl q⟩
theorem x5b:MtS x5u x0o:=by
 intro F H a c xs vs Q Qd s hc hf r q k;obtain⟨ys,d,rfl,rfl,hl,q⟩:=q;obtain⟨us,h1,r1⟩:=hc;obtain⟨v,rfl,b,ws,rfl,h2,r2⟩:=r.one_inv;exact⟨a,b,us,ws,rfl,rfl,h1,s _ _ h2,by rw[<-r1.len,<-r2.len];exact hl,k (.lst _) .non .non _ ⟨_,z0g,r1.app r2⟩ rfl q⟩
theorem j7q:MtS rPop fPop:=by
 intro F H a c xs vs Q Qd s hc hf r q k;obtain⟨ys,d,rfl,rfl,hl,q⟩:=q;obtain⟨us,h1,r1⟩:=hc;cases(show vs=[] from r);obtain⟨v,ev,rv⟩:=r1.get hl;exact⟨a,us,v,rfl,rfl,h1,by rw[<-r1.len];exact ev,k (.lst _) d v _ ⟨_,z0g,r1.dropLast⟩ rv q⟩
def q7p:TSd:=fun E δ=>E.nx δ
def dSeq (t u:TSd):TSd:=fun E δ=>t { E with nx:=u E } δ
def dRet (td:TEd):TSd:=fun E δ=>td δ E.rt
def x6a:TSd:=fun _ _=>False
def j2a (td:TEd):TSd:=fun E δ=>td δ fun _ _ δ'=>E.nx δ'
def dIfS (c:TTd)(t u:TSd):TSd:=fun E δ=>c δ fun b δ'=>if b=true then t E δ' else u E δ'
noncomputable def noIo (δ:List Slot)(i:Nat):Prop :=
 match δ[i]? with
 |some (.ob true _)=>False
 |none=>False
 |_=>True
theorem noIo.ne {δ:List Slot}{i:Nat}(h:noIo δ i):(∀c,δ[i]? ≠ some (.ob true c))/\i<δ.length:=by
 unfold noIo at h;split at h
 ·exact h.elim
 ·exact h.elim
 ·rename_i h1 h2;refine⟨fun c e=>h1 c e,?_⟩;cases q:δ[i]? with
  |none=>exact absurd q h2
  |some s=>exact(List.getElem?_eq_some_iff.mp q).1
def dSet (i:Nat)(td:TEd):TSd:=fun E δ=>td δ fun b d δ'=>noIo δ' i/\E.nx (δ'.set i (rsl b d))
variable {pos:Pos}{a b:Expr}{da db:TEd}
theorem x5i:SimS y0r q7p:=fun io H0 F0 F δ σ H E Ed I q S=>S.nx F δ σ H (Same.refl _) I q
theorem x3i:SimS z6h x6a:=fun io H0 F0 F δ σ H E Ed I q S=>q.elim
theorem q1n {t u:TS}{td ud:TSd}(s:SimS t td)(s':SimS u ud):SimS (tSeq t u) (dSeq td ud):=fun io H0 F0 F δ σ H E Ed I q S =>
 s io H0 F0 F δ σ H _ _ I q ⟨fun F' δ' σ' H' sf I' q'=>s' io H0 F0 F' δ' σ' H' E Ed I' q' (S.mono sf),S.rt,S.bk,S.ct⟩
theorem q2v {te:TE}{td:TEd}(s:Sim te td):SimS (tRet te) (dRet td):=fun io H0 F0 F δ σ H E Ed I q S =>
 s io H0 F0 F δ σ H _ _ I q fun b d v δ' F' H' sf I' q'=>S.rt b d v F' δ' σ H' sf I' q'
theorem x6q {te:TE}{td:TEd}(s:Sim te td):SimS (y0t te) (j2a td):=fun io H0 F0 F δ σ H E Ed I q S =>
 s io H0 F0 F δ σ H _ _ I q fun b d v δ' F' H' sf I' q'=>S.nx F' δ' σ H' sf I'.pop q'
theorem j1j {c:TT}{cd:TTd}{t u:TS}{td ud:TSd}(sc:SimT c cd)(s:SimS t td)(s':SimS u ud):SimS (tIfS c t u) (dIfS cd td ud):=fun io H0 F0 F δ σ H E Ed I q S =>
 sc io H0 F0 F δ σ H _ _ I q fun b δ' F' H' sf I' q'=>by
  cases b with
  |true=>rw[if_pos rfl]at q' ⊢;exact s io H0 F0 F' δ' σ H' E Ed I' q' (S.mono sf)
  |false=>rw[if_neg Bool.false_ne_true]at q' ⊢;exact s' io H0 F0 F' δ' σ H' E Ed I' q' (S.mono sf)
theorem x0w {te:TE}{td:TEd}{i:Nat}(s:Sim te td):SimS (tAsg te (z7w i)) (dSet i td):=fun io H0 F0 F δ σ H E Ed I q S =>
 s io H0 F0 F δ σ H _ _ I q fun b d v δ' F' H' sf I' q'=>by
  obtain⟨h,q'⟩:=q';obtain⟨h1,h2⟩:=h.ne;exact S.nx F' _ _ H' sf (I'.setv h1 h2) q'
theorem z0q:DSs X [] q7p:=⟨_,z2i,x5i⟩
theorem z0b {st:Stmt}{rest:List Stmt}{t u:TSd}(h:DS X st t)(h':DSs X rest u):DSs X (st::rest) (dSeq t u):=by
 obtain⟨t,p,s⟩:=h;obtain⟨t',p',s'⟩:=h';exact⟨_,z0u p p',q1n s s'⟩
theorem z0e {st:Stmt}{t:TSd}(h:DS X st t):DSs X [st] t:=by obtain⟨t,p,s⟩:=h;exact⟨_,z0v p,s⟩
theorem x2c {st:Stmt}:DS X st x6a:=⟨_,q2a,x3i⟩
theorem z0n (h:DE X a da):DS X (.Return (some a) pos) (dRet da):=by obtain⟨t,p,s⟩:=h;exact⟨_,z4u p,q2v s⟩
theorem z5e (h:DE X a da)(hs:swapsWith a none pos.line X.env=pure false:=by rfl):DS X (.Expr a pos) (j2a da):=by obtain⟨t,p,s⟩:=h;exact⟨_,z4q p hs,x6q s⟩
theorem z1k {c:Expr}{x y:List Stmt}{cd:TTd}{t u:TSd}(hc:DT X c cd)(h:DSs X x t)(h':DSs X y u):DS X (.If c x y pos) (dIfS cd t u):=by
 obtain⟨tc,pc,sc⟩:=hc;obtain⟨t,p,s⟩:=h;obtain⟨t',p',s'⟩:=h';exact⟨_,z5g pc p p',j1j sc s s'⟩
theorem x7c {i:Nat}{x:Str}{pos':Pos}(hN:X.N.Nodup)(hi:X.N[i]? = some x)(hx:Loc X.env.scope x)(he:DE X a da)(hs:swapsWith a (some (.Name x pos')) pos.line X.env=pure false:=by rfl)(hf:X.fn x=true\/X.env.scope.names.lookup x=some .local:=by first|exact .inl rfl|exact .inr rfl|assumption) :
  DS X (.Assign [.Name x pos'] a pos) (dSet i da):=by obtain⟨t,p,s⟩:=he;exact⟨_,z2t hN hi hx p hs hf,x0w s⟩
def dgN (i:Nat):TGd:=fun d δ Q=>noIo δ i/\Q (δ.set i (.fz d))
abbrev TGsd:=List D->List Slot->(List Slot->Prop)->Prop
def x3p:TGsd:=fun ds δ Q=>ds=[]/\Q δ
def y4c (g:TGd)(u:TGsd):TGsd:=fun ds δ Q=>∃d r,ds=d::r/\g d δ fun δ'=>u r δ' Q
def y7r (n:Nat)(u:TGsd):TGd:=fun d δ Q=>∃ds,d=.tup ds/\ds.length=n/\u ds δ Q
def j9k (g:TGs)(gd:TGsd):Prop:=∀(io:List (Option Addr))(H0 F0 F:Hp)(δ:List Slot)(σ:St)(H:Hp)(ds:List D)(vs:List V)(Q:St->Hp->Prop)(Qd:List Slot->Prop),EI io H0 F0 F δ σ H->Reps F ds vs->gd ds δ Qd ->
 (∀δ' σ',EI io H0 F0 F δ' σ' H->Qd δ'->Q σ' H)->g vs σ H Q
def DGs (X:Cx)(es:List Expr)(gd:TGsd):Prop:=∃g,PGs X es g/\j9k g gd
theorem x5e (i:Nat):SimG (z7w i) (dgN i):=fun io H0 F0 F δ σ H d v Q Qd I r q k=>by
 obtain⟨h,q⟩:=q;obtain⟨h1,h2⟩:=h.ne;exact k _ _ ((I.pushF r).setv (b:=false) h1 h2) q
theorem q7z {i:Nat}{x:Str}(hN:X.N.Nodup)(hi:X.N[i]? = some x)(hx:Loc X.env.scope x)(hf:X.fn x=true\/X.env.scope.names.lookup x=some .local:=by first|exact .inl rfl|exact .inr rfl|assumption):DG X (.Name x pos) (dgN i):=⟨_,z6c hN hi hx hf,x5e i⟩
theorem y6q:DGs X [] x3p:=⟨_,y5q,fun io H0 F0 F δ σ H ds vs Q Qd I r q k=>by
 obtain⟨rfl,q⟩:=q;exact⟨r,k _ _ I q⟩⟩
theorem z4y {e:Expr}{es:List Expr}{g:TGd}{u:TGsd}(h1:DG X e g)(h2:DGs X es u)
  (hs:(assignEach (e::es) X.env).map (·.2)=assign e X.env::(assignEach es X.env).map (·.2):=by rfl):DGs X (e::es) (y4c g u):=by
 obtain⟨t,p,s⟩:=h1;obtain⟨t',p',s'⟩:=h2;refine⟨_,z7s p p' hs,fun io H0 F0 F δ σ H ds vs Q Qd I r q k=>?_⟩;obtain⟨d,dr,rfl,q⟩:=q;obtain⟨v,vr,rfl,r1,r2⟩:=r;exact⟨v,vr,rfl,s io H0 F0 F δ σ H d v _ _ I r1 q fun δ' σ' I' q'=>s' io H0 F0 F δ' σ' H dr vr Q Qd I' r2 q' k⟩
theorem x1h {es:List Expr}{k:Nat}{u:TGsd}{n:Nat}(hc:X.calm=true)(h:DGs X es u)
  (hn:(assignEach es X.env).length=n:=by rfl)(hst:(assignEach es X.env).findIdx? (·.1)=none:=by rfl):DG X (.Tuple es k pos) (y7r n u):=by
 obtain⟨t,p,s⟩:=h;refine⟨_,x1a hc p hn hst,fun io H0 F0 F δ σ H d v Q Qd I r q k=>?_⟩;obtain⟨ds,rfl,hl,q⟩:=q;obtain⟨a,vs,rfl,h1,r1⟩:=r;exact⟨a,vs,rfl,SqT.of (I.sub _ _ h1),by rw[<-r1.len];exact hl,s io H0 F0 F δ σ H ds vs Q Qd I r1 q k⟩
def dAsg (td:TEd)(g:TGd):TSd:=fun E δ=>td δ fun _ d δ'=>g d δ' E.nx
theorem q4o {tg:Expr}{g:TGd}(he:DE X a da)(hg:DG X tg g)(hs:swapsWithSole [tg] a pos.line X.env=pure false:=by rfl)(hw:swappedStores [tg] a X.env=pure none:=by rfl)
  (h1:(assignEach [tg] X.env).map (·.2)=[assign tg X.env]:=by rfl):DS X (.Assign [tg] a pos) (dAsg da g):=by
 obtain⟨t,p,s⟩:=he;obtain⟨t',p',s'⟩:=hg;exact⟨_,q4a p p' hs hw h1,fun io H0 F0 F δ σ H E Ed I q S=>s.fz I q fun d v δ' F' H' sf I' r q'=>s' io H0 F0 F' δ' σ H' d v _ _ I' r q' fun δ2 σ2 I2 q2=>S.nx F' δ2 σ2 H' sf I2 q2⟩
def q7w (i:Nat)(ti tv:TEd):TSd:=fun E δ=>tv δ fun _ v δ1=>(peek δ1 i).isSome=true/\ti δ1 fun _ y δ2=>∃fl xs k j,δ2[i]? = some (.ob fl (.lst xs))/\y=.int k/\ixN xs.length k=some j/\E.nx (δ2.set i (.ob fl (.lst (xs.set j v))))
theorem j1o {i:Nat}{x:Str}{p pos':Pos}{ie ve:Expr}{ti tv:TEd}(ho:PE X (.Name x p) (tVar i))(hi:DE X ie ti)(hv:DE X ve tv)(ha:∀v,assign (.Subscript (.Name x p) ie pos') X.env v=(do
   let ov <-holding [v] (eval (.Name x p) X.env);let iv <-holding [v,ov] (eval ie X.env)
   standAt pos'
   holding [v,ov,iv] (setItem ov iv v)
   release [v,ov,iv] []):=by intro _;rfl)(hs:swapsWithSole [.Subscript (.Name x p) ie pos'] ve pos.line X.env=pure false:=by rfl)(hw:swappedStores [.Subscript (.Name x p) ie pos'] ve X.env=pure none:=by rfl)
  (h1:(assignEach [.Subscript (.Name x p) ie pos'] X.env).map (·.2)=[assign (.Subscript (.Name x p) ie pos') X.env]:=by rfl):DS X (.Assign [.Subscript (.Name x p) ie pos'] ve pos) (q7w i ti tv):=by
 obtain⟨t,pi,si⟩:=hi;obtain⟨t',pv,sv⟩:=hv;refine⟨_,q4a pv (j2p ho pi q2l ha) hs hw h1,fun io H0 F0 F δ σ H E Ed I q S=>sv.fz I q fun d v δ1 F1 H1 s1 I1 r1 q1=>?_⟩;obtain⟨p0,q1⟩:=q1;obtain⟨d0,e0⟩:=isSome_iff_exists.mp p0;obtain⟨v0,ev,_⟩:=I1.pk e0;refine⟨v0,ev,si.fz I1 q1 fun y u δ2 F2 H2 s2 I2 r2 q2=>?_⟩;obtain⟨fl,xs,k,j,ec,rfl,hj,q2⟩:=q2;obtain⟨a',ea,n1,n2,⟨vs,hc,rc⟩,hio⟩:=I2.get i _ ec;have e:=z2n ea;rw[ev]at e;cases e;exact⟨a',vs,k,j,rfl,r2,hc,by rw[<-rc.len];exact hj,S.nx F2 _ σ _ (s1.trans s2) (I2.change (c':=.lst (xs.set j d)) ec ea ⟨_,z0g,rc.set (Rep.mono s2 _ _ r1) j⟩) q2⟩
def ItOk (J:It)(F:Hp)(ds:List D):Prop:=∀(io:List (Option Addr))(H0 F0 F':Hp)(δ:List Slot)(σ:St)(H':Hp),Same F F'->EI io H0 F0 F' δ σ H'->∀i,
 (∀d,ds[i]? = some d->J.go i H'/\∀x H'',J.yld i H' x H''->∃F'',Same F' F''/\EI io H0 F0 F'' δ σ H''/\Rep F'' d x)/\(i=ds.length->J.stop i H')
def SimI (wi:TI)(di:TLd):Prop:=∀(io:List (Option Addr))(H0 F0 F:Hp)(δ:List Slot)(σ:St)(H:Hp)(R:It->Hp->Prop)(Qd:List D->List Slot->Prop),EI io H0 F0 F δ σ H->di δ Qd ->
 (∀J ds δ' F' H',Same F F'->EI io H0 F0 F' δ' σ H'->ItOk J F' ds->Qd ds δ'->R J H')->wi σ H R
def DI (X:Cx)(tg e:Expr)(di:TLd):Prop:=∃wi,PI X tg e wi/\SimI wi di
def x8a (td:TEd):TLd:=fun δ Q=>td δ fun _ d δ'=>∃ds,d=.lst ds/\Q ds δ'
theorem x7s {K:W.Frag}{F:Hp}{a:Addr}{vs:List V}{ds:List D}(h:F a=some (.lst vs))(r:Reps F ds vs):ItOk (Itl K a) F ds:=by
 intro io H0 F0 F' δ σ H' sf I i;have hH:H' a=some (.lst vs):=I.sub _ _ (sf _ _ h);refine⟨fun d e=>?_,fun e=>?_⟩
 ·obtain⟨v,ev,rv⟩:=r.get e;refine⟨⟨vs,v,SqL.of hH,ev⟩,fun x H'' y=>?_⟩;obtain⟨e1,y⟩:=y;subst e1;have:=y vs (SqL.of hH);rw[ev]at this;cases this;exact⟨F',Same.refl _,I,Rep.mono sf _ _ rv⟩
 ·exact⟨vs,SqL.of hH,by rw[e,r.len];exact le_refl _⟩
theorem z3i {tg:Expr}(h:DE X a da):DI X tg a (x8a da):=by
 obtain⟨t,p,s⟩:=h;refine⟨_,y3o p,fun io H0 F0 F δ σ H R Qd I q k=>s.fz I q fun d v δ' F' H' sf I' r q'=>?_⟩;obtain⟨ds,rfl,q'⟩:=q';obtain⟨a,vs,rfl,h1,r1⟩:=r;exact⟨a,rfl,⟨vs,SqL.of (I'.sub _ _ h1)⟩,k _ ds δ' F' H' sf I' (x7s h1 r1) q'⟩
noncomputable def rngD (lo:Int)(n:Nat):List D:=(range n).map fun(k:Nat)=>D.int (lo+(k:Int))
def x5t (u:TLd):TLd:=fun δ Q=>u δ fun ds δ'=>∃j:Int,ds=[.int j]/\-(2 ^ 62)<=j/\j<2 ^ 62/\Q (rngD 0 j.toNat) δ'
def q4g (u:TLd):TLd:=fun δ Q=>u δ fun ds δ'=>∃i j:Int,ds=[.int i,.int j]/\(-(2 ^ 62)<=i/\i<2 ^ 62/\-(2 ^ 62)<=j/\j<2 ^ 62)/\Q (rngD i (j - i).toNat) δ'
theorem x2u {F:Hp}(lo:Int)(n:Nat):ItOk (Itr lo n) F (rngD lo n):=by
 intro io H0 F0 F' δ σ H' sf I i;refine⟨fun d e=>?_,fun e=>?_⟩
 ·have hi:i<n:=by
   have:=(List.getElem?_eq_some_iff.mp e).1;simpa[rngD] using this
  have ed:d=.int (lo+(i:Int)):=by
   simp[rngD,hi]at e;exact e.symm
  subst ed;refine⟨by simpa[Itr] using hi,fun x H'' y=>?_⟩;have y':x=.int (lo+(i:Int))/\H'' = H':=by
   obtain⟨y1,y2⟩:=y
   first
    |exact⟨y1,y2⟩
    |exact⟨y2,y1⟩
    |exact⟨y1,y2.symm⟩
  obtain⟨rfl,rfl⟩:=y';exact⟨F',Same.refl _,I,rfl⟩
 ·simp[rngD]at e;subst e;simp[Itr]
theorem z6x {tg e:Expr}{u:TLd}{p pos:Pos}(hg:Gl X "range")(hm:X.mg "range" = none)(ha:DL X [e] u)(hs:starEach [e] X.env=[(false,eval e X.env)]:=by rfl):DI X tg (.Call (.Name "range" p) [e] [] pos) (x5t u):=by
 obtain⟨t,pt,s⟩:=ha;refine⟨_,x9a hg hm pt hs,fun io H0 F0 F δ σ H R Qd I q k=>s io H0 F0 F δ σ H _ _ I q fun ds vs δ' F' H' sf I' r q'=>?_⟩;obtain⟨j,rfl,h1,h2,q'⟩:=q';obtain⟨v,rfl,rv⟩:=r.one_inv;cases(show v=.int j from rv);exact⟨j,rfl,h1,h2,k _ _ δ' F' H' sf I' (x2u 0 _) q'⟩
theorem x5q {tg e e':Expr}{u:TLd}{p pos:Pos}(hg:Gl X "range")(hm:X.mg "range" = none)(ha:DL X [e,e'] u)(hs:starEach [e,e'] X.env=[(false,eval e X.env),(false,eval e' X.env)]:=by rfl)(hs2:starEach [e'] X.env=[(false,eval e' X.env)]:=by rfl):DI X tg (.Call (.Name "range" p) [e,e'] [] pos) (q4g u):=by
 obtain⟨t,pt,s⟩:=ha;refine⟨_,x6g hg hm pt hs hs2,fun io H0 F0 F δ σ H R Qd I q k=>s io H0 F0 F δ σ H _ _ I q fun ds vs δ' F' H' sf I' r q'=>?_⟩;obtain⟨i,j,rfl,h1,q'⟩:=q';obtain⟨v,vr,rfl,rv,r2⟩:=r;obtain⟨v',rfl,rv'⟩:=Reps.one_inv r2;cases(show v=.int i from rv);cases(show v' = .int j from rv');exact⟨i,j,rfl,h1,k _ _ δ' F' H' sf I' (x2u i _) q'⟩
noncomputable def fgt:List Nat->List Slot->List Slot
 | [],δ=>δ
 |i::is,δ=>fgt is (δ.set i .no)
theorem EI.fgt {io:List (Option Addr)}{H0 F0 F H:Hp}{σ:St}:∀(is:List Nat){δ:List Slot},EI io H0 F0 F δ σ H->EI io H0 F0 F (VL.fgt is δ) σ H
 | [],_,I=>I
 |i::is,_,I=>EI.fgt is I.forget
def dFor (di:TLd)(g:TGd)(tb:TSd):TSd:=fun E δ=>di δ fun ds δ'=>∃(fg:List Nat)(P:List D->List Slot->Prop),P ds (fgt fg δ') /\
 (∀d r δ,P (d::r) δ->g d δ fun δ2=>tb { E with nx:=fun δ'=>P r (fgt fg δ'),ct:=fun δ'=>P r (fgt fg δ'),bk:=E.nx } δ2)/\∀δ,P [] δ->E.nx δ
theorem q2k {wi:TI}{di:TLd}{g:TG}{gd:TGd}{tb:TS}{td:TSd}(si:SimI wi di)(sg:SimG g gd)(s:SimS tb td):SimS (tFor wi g tb) (dFor di gd td):=by
 intro io H0 F0 F δ σ H E Ed I q S;refine si io H0 F0 F δ σ H _ _ I q fun J ds δ' F' H' sf I' ok q'=>?_;obtain⟨fg,P,p0,step,fin⟩:=q';refine⟨fun i m σ H=>m=ds.length - i/\i<=ds.length/\∃F1 δ1,Same F' F1/\EI io H0 F0 F1 δ1 σ H/\P (ds.drop i) δ1,⟨ds.length,by simp,zero_le _,F',_,Same.refl _,I'.fgt fg,p0⟩,?_⟩;rintro i m σ1 H1 ⟨rfl,hi,F1,δ1,s1,I1,p1⟩;obtain⟨o1,o2⟩:=ok io H0 F0 F1 δ1 σ1 H1 s1 I1 i;by_cases hlt:i<ds.length
 ·have ed:ds[i]? = some ds[i]:=by simp[hlt]
  have edr:ds.drop i=ds[i]::ds.drop (i+1):=drop_eq_getElem_cons hlt;rw[edr]at p1;obtain⟨go,yl⟩:=o1 _ ed;refine .inr ⟨go,fun σ' H'=>∃F2 δ2,Same F' F2/\EI io H0 F0 F2 δ2 σ' H'/\P (ds.drop (i+1)) δ2,fun σ' H' hN=>⟨ds.length - (i+1),by omega,rfl,hlt,hN⟩,fun x H2 y=>?_⟩;obtain⟨F2,s2,I2,r2⟩:=yl x H2 y;refine sg io H0 F0 F2 δ1 σ1 H2 _ x _ _ I2 r2 (step _ _ δ1 p1) fun δ3 σ3 I3 q3=>?_;refine s io H0 F0 F2 δ3 σ3 H2 _ _ I3 q3 ⟨fun F4 δ4 σ4 H4 s4 I4 q4=>⟨F4,_,(s1.trans s2).trans s4,I4.fgt fg,q4⟩,fun b d v F4 δ4 σ4 H4 s4 I4 q4=>S.rt b d v F4 δ4 σ4 H4 (((sf.trans s1).trans s2).trans s4) I4 q4,fun F4 δ4 σ4 H4 s4 I4 q4=>S.nx F4 δ4 σ4 H4 (((sf.trans s1).trans s2).trans s4) I4 q4,fun F4 δ4 σ4 H4 s4 I4 q4=>⟨F4,_,(s1.trans s2).trans s4,I4.fgt fg,q4⟩⟩
 ·have e:i=ds.length:=by omega
  subst e;rw[drop_length]at p1;exact .inl ⟨o2 rfl,S.nx F1 δ1 σ1 H1 (sf.trans s1) I1 (fin δ1 p1)⟩
theorem z8e {tg iter:Expr}{body:List Stmt}{di:TLd}{gd:TGd}{td:TSd}(hp:PassesOwn (model X.prog X.w) X.A X.env X.xe)(hc:X.calm=true)(hi:DI X tg iter di)(hg:DG X tg gd)(hb:DSs X body td)
  (hs:∀x,foldedSetIterable iter X.env x=pure x:=by intro _;rfl):DS X (.For tg iter body [] pos) (dFor di gd td):=by
 obtain⟨wi,p1,s1⟩:=hi;obtain⟨g,p2,s2⟩:=hg;obtain⟨t,p3,s3⟩:=hb;exact⟨_,y5e hp hc p1 p2 p3 hs,q2k s1 s2 s3⟩
def x8s (c:TTd)(tb:TSd):TSd:=fun E δ=>∃(fg:List Nat)(P:List Slot->Prop)(μ:List Slot->Nat),P (fgt fg δ)/\∀δ,P δ->c δ fun b δ'=>if b=true then tb { E with nx:=fun δ2=>P (fgt fg δ2)/\μ (fgt fg δ2)<μ δ,ct:=fun δ2=>P (fgt fg δ2)/\μ (fgt fg δ2)<μ δ,bk:=E.nx } δ' else E.nx δ'
theorem x3z {c:TT}{cd:TTd}{tb:TS}{td:TSd}(sc:SimT c cd)(s:SimS tb td):SimS (q7g c tb) (x8s cd td):=by
 intro io H0 F0 F δ σ H E Ed I q S;obtain⟨fg,P,μ,p0,step⟩:=q;refine⟨fun m σ H=>∃F1 δ1,Same F F1/\EI io H0 F0 F1 δ1 σ H/\P δ1/\μ δ1=m,⟨_,F,_,Same.refl _,I.fgt fg,p0,rfl⟩,?_⟩;rintro m σ1 H1 ⟨F1,δ1,s1,I1,p1,rfl⟩;refine sc io H0 F0 F1 δ1 σ1 H1 _ _ I1 (step δ1 p1) fun b δ2 F2 H2 s2 I2 q2=>?_;cases b with
 |false=>rw[if_neg Bool.false_ne_true]at q2 ⊢;exact S.nx F2 δ2 σ1 H2 (s1.trans s2) I2 q2
 |true =>
  rw[if_pos rfl]at q2 ⊢;refine⟨fun σ' H'=>∃F3 δ3,Same F F3/\EI io H0 F0 F3 δ3 σ' H'/\P δ3/\μ δ3<μ δ1,fun σ' H' ⟨F3,δ3,h1,h2,h3,h4⟩=>⟨μ δ3,h4,F3,δ3,h1,h2,h3,rfl⟩,?_⟩;exact s io H0 F0 F2 δ2 σ1 H2 _ _ I2 q2 ⟨fun F4 δ4 σ4 H4 s4 I4 q4=>⟨F4,_,(s1.trans s2).trans s4,I4.fgt fg,q4.1,q4.2⟩,fun b d v F4 δ4 σ4 H4 s4 I4 q4=>S.rt b d v F4 δ4 σ4 H4 ((s1.trans s2).trans s4) I4 q4,fun F4 δ4 σ4 H4 s4 I4 q4=>S.nx F4 δ4 σ4 H4 ((s1.trans s2).trans s4) I4 q4,fun F4 δ4 σ4 H4 s4 I4 q4=>⟨F4,_,(s1.trans s2).trans s4,I4.fgt fg,q4.1,q4.2⟩⟩
theorem z6b {c:Expr}{body:List Stmt}{cd:TTd}{td:TSd}(hp:PassesOwn (model X.prog X.w) X.A X.env X.xe)(hc:DT X c cd)(hb:DSs X body td):DS X (.While c body [] pos) (x8s cd td):=by
 obtain⟨t1,p1,s1⟩:=hc;obtain⟨t,p3,s3⟩:=hb;exact⟨_,q1j hp p1 p3,x3z s1 s3⟩
open PySem.Spec PyProof.Rows
noncomputable def er (H:Hp):Option Addr->Hp
 |none=>H
 |some a=>fun b=>if b=a then none else H b
abbrev RD:=List Slot->(Bool->D->List Slot->Prop)->Prop
def spD (R:RD):Sp:=fun vs H Q _=>∃(Hx:Hp)(ic:List (Option Addr))(F:Hp)(δ:List Slot)(Qd:Bool->D->List Slot->Prop),(∀p a,ic.getD p none=some a->vs[p]? = some (.ref a))/\EI ic Hx F F δ (vs.map some) H/\R δ Qd /\
 ∀b d v δ' F' H',EI (none::ic) Hx F F' (rsl b d::δ') (some v::vs.map some) H'->Qd b d δ'->Q v H'
end
section
open PySem.Spec PyProof.Rows
variable {io ic:List (Option Addr)}{H0 F0 F F' H H':Hp}{δ δc:List Slot}{σ σc:L2.St}{b:Bool}{d:D}{v:V}
theorem EI.back0 (I:EI io H0 F0 F δ σ H)(s:Same F F')(s':Same H H')(sub:Same F' H')(new:∀b o,F' b=some o->F b=none->H b=none):EI io H0 F0 F' δ σ H' where
 base:=I.base.trans s'
 sub:=sub
 ext:=I.ext.trans s
 new:=fun b o e h=>by
  cases q:F b with
  |none=>exact I.base.free (new b o e q)
  |some u=>exact I.new b u q h
 len:=I.len
 get:=fun i t e=>(I.get i t e).mono s fun a b c es eo=>by
  subst es;obtain⟨a',e1,h1,h2,h3,h4⟩:=I.get i _ e;rw[eo]at e1;cases e1;obtain⟨u,hu⟩:=h3.some;refine⟨?_,fun u hu=>s' _ _ hu⟩;cases q:F' a with
  |none=>rfl
  |some o=>rw[new a o q h2]at hu;cases hu
 apart:=I.apart
theorem EI.back (I:EI io H0 F0 F δ σ H)(C:EI ic H F F' (rsl b d::δc) (some v::σc) H'):EI (none::io) H0 F0 F' (rsl b d::δ) (some v::σ) H':=by
 have J:=I.back0 C.ext C.base C.sub C.new;refine J.push ?_ fun b' c a es ev j b2 c2 ej eo=>?_
 ·have h0:=C.get 0 _ rfl;cases b with
  |false=>obtain⟨v',e,r⟩:=h0;simp at e;subst e;exact⟨v,rfl,r⟩
  |true =>
   obtain⟨a,e,h1,h2,h3,h4⟩:=h0;simp at e;subst e;exact⟨a,rfl,I.base.free h1,h2,h3,fun z=>by cases z⟩
 ·subst ev;obtain⟨a',e1,h1,h2,h3,h4⟩:=I.get j _ ej;rw[eo]at e1;cases e1;obtain⟨u,hu⟩:=h3.some;have h0:=C.get 0 _ rfl;cases b with
  |false=>cases es
  |true =>
   obtain⟨a,e,h1,_⟩:=h0;simp at e;subst e;rw[h1]at hu;cases hu
theorem y8y {ds:List D}{vs:List V}(s:Same F H)(r:Reps F ds vs):EI [] H F F (ds.map .fz) (vs.map some) H where
 base:=Same.refl _
 sub:=s
 ext:=Same.refl _
 new:=fun b o e h=>by rw[h]at e;cases e
 len:=by simp[r.len]
 get:=fun i t e=>by
  rw[getElem?_map]at e;cases q:ds[i]? with
  |none=>rw[q]at e;cases e
  |some d =>
   rw[q]at e;cases e;obtain⟨v,ev,rv⟩:=r.get q;exact⟨v,by simp[getD_eq_getElem?_getD,ev],rv⟩
 apart:=fun i j b c b' c' a ne e1=>by
  rw[getElem?_map]at e1;cases q:ds[i]?<;>rw[q]at e1<;>cases e1
def q0q (R:RD)(u:TLd):TEd:=fun δ Q=>u δ fun ds δ'=>R (ds.map .fz) fun b d _=>Q b d δ'
theorem q1c {R:RD}{t:TA}{u:TLd}{E:XK}(s:SimL t u):Sim (z9x (spD R) [] E t) (q0q R u):=fun io H0 F0 F δ σ H Q Qd I q k =>
 s io H0 F0 F δ σ H _ _ I q fun ds vs δ' F' H' sf I' r q'=>by
  show spD R (vs++[]) H' Q E;rw[append_nil];refine⟨H',[],F',_,_,fun p a e=>by simp at e,y8y I'.sub r,q',fun b d v δ2 F2 H2 C q2=>?_⟩;exact k b d v δ' F2 H2 (sf.trans C.ext) (I'.back C) q2
variable {X:Cx}{CX:CXT}{k:Nat}{f:Addr}{fd:FuncData}{ps:List Str}{R:RD}{E:XK}{x:Str}{p pos:Pos}{e:Expr}{es:List Expr}{u:TLd}
theorem j1w (G:FnOk X.prog X.w X.K X.mg X.base CX k f fd ps (spD R))(hr:Room k X.A)(hg:Gl X x)(hm:X.mg x=some (.ref f))(hk:keepIn X.K (.ref f)=true)(hb:Binds X.K fd ps [])(hx:y0j CX X E)
  (ha:DL X (e::es) u)(hdb:(x == ("__debug__":Str))=false:=by decide)(he:starEach (e::es) X.env=(false,eval e X.env)::starEach es X.env:=by rfl)(hpl:(backTo pos (starEach es X.env)).any (·.1)=false:=by rfl) :
  DE X (.Call (.Name x p) (e::es) [] pos) (q0q R u):=by
 obtain⟨t,pt,s⟩:=ha;exact⟨_,z7f G hr hg hm hk hb .nil hx pt hdb he hpl,q1c s⟩
abbrev TAd:=List Slot->(List (Option D)->List Slot->Prop)->Prop
noncomputable def AOk (F:Hp)(w:V)(o:Option D)(v:V):Prop:=match o with|some d=>Rep F d v|none=>v=w
def SimA (i:Nat)(te:TA)(td:TAd):Prop:=∀(io:List (Option Addr))(H0 F0 F:Hp)(δ:List Slot)(σ:L2.St)(H:Hp)(w:V)(Q:List V->Hp->Prop)(Qd:List (Option D)->List Slot->Prop),EI io H0 F0 F δ σ H->σ[i]? = some (some w)->td δ Qd ->
 (∀os vs δ' F' H',Same F F'->EI io H0 F0 F' δ' σ H'->Paired (AOk F' w) os vs->Qd os δ'->Q vs H')->te σ H Q
def DA (X:Cx)(i:Nat)(es:List Expr)(td:TAd):Prop:=∃te,PA X es te/\SimA i te td
def j4j:TAd:=fun δ Q=>Q [] δ
def daV (t:TEd)(u:TAd):TAd:=fun δ Q=>t δ fun _ d δ'=>u δ' fun os δ''=>Q (some d::os) δ''
def daO (u:TAd):TAd:=fun δ Q=>u δ fun os δ''=>Q (none::os) δ''
end
section
open PySem.Spec PyProof.Rows
variable {X:Cx}{i:Nat}{a:Expr}{es:List Expr}{da:TEd}{u:TAd}
theorem y5k:DA X i [] j4j:=⟨_,z0p,fun io H0 F0 F δ σ H w Q Qd I hw q k=>k [] [] δ F H (Same.refl _) I .nil q⟩
theorem da_v (ha:DE X a da)(hr:DA X i es u)(hs:starEach (a::es) X.env=(false,eval a X.env)::starEach es X.env:=by rfl):DA X i (a::es) (daV da u):=by
 obtain⟨ta,pa,sa⟩:=ha;obtain⟨tr,pr,sr⟩:=hr;refine⟨_,z0i pa pr hs,fun io H0 F0 F δ σ H w Q Qd I hw q k=>sa.fz I q fun d v δ' F' H' sf I' r q'=>sr io H0 F0 F' δ' σ H' w _ _ I' hw q' fun ds vs δ2 F2 H2 s2 I2 r2 q2=>?_⟩;exact k (some d::ds) (v::vs) δ2 F2 H2 (sf.trans s2) I2 (.cons (show Rep F2 d v from Rep.mono s2 _ _ r) r2) q2
theorem da_o {x:Str}{p:Pos}(ha:PE X (.Name x p) (tVar i))(hr:DA X i es u)(hs:starEach (.Name x p::es) X.env=(false,eval (.Name x p) X.env)::starEach es X.env:=by rfl):DA X i (.Name x p::es) (daO u):=by
 obtain⟨tr,pr,sr⟩:=hr;refine⟨_,z0i ha pr hs,fun io H0 F0 F δ σ H w Q Qd I hw q k=>⟨w,hw,sr io H0 F0 F δ σ H w _ _ I hw q fun ds vs δ2 F2 H2 s2 I2 r2 q2=>?_⟩⟩;exact k (none::ds) (w::vs) δ2 F2 H2 s2 I2 (.cons rfl r2) q2
def z6o (c:D):Option D->Slot
 |some d=>.fz d
 |none=>.ob true c
noncomputable def y4o:List Slot->Option D
 |.ob true c::_=>some c
 |_::r=>y4o r
 | []=>none
def y2l (R:RD)(i:Nat)(u:TAd):TEd:=fun δ Q=>(peek δ i).isSome=true/\u δ fun os δ'=>∃fl c,δ'[i]? = some (.ob fl c)/\(os.filter isNone).length=1/\R (os.map (z6o c)) fun b d δ2=>∃c',y4o δ2=some c'/\Q b d (δ'.set i (.ob fl c'))
theorem z7k:∀{δ:List Slot}{c:D},y4o δ=some c->∃p:Nat,δ[p]? = some (Slot.ob true c)
 | [],c,h=>by cases h
 |.no::r,c,h=>by obtain⟨p,e⟩:=z7k (δ:=r) h;exact⟨p+1,by simpa using e⟩
 |.fz d::r,c,h=>by obtain⟨p,e⟩:=z7k (δ:=r) h;exact⟨p+1,by simpa using e⟩
 |.sc K d::r,c,h=>by obtain⟨p,e⟩:=z7k (δ:=r) h;exact⟨p+1,by simpa using e⟩
 |.ob false d::r,c,h=>by obtain⟨p,e⟩:=z7k (δ:=r) h;exact⟨p+1,by simpa using e⟩
 |.ob true d::r,c,h=>by cases h;exact⟨0,rfl⟩
theorem Paired.getE {α β:Type}{R:α->β->Prop}:∀{xs:List α}{ys:List β}{i:Nat}{x:α},Paired R xs ys->xs[i]? = some x->∃y,ys[i]? = some y/\R x y
 |_,_,_,_,.nil,e=>by simp at e
 |_,_,0,_,.cons r _,e=>by simp at e;subst e;exact⟨_,rfl,r⟩
 |_,_,i+1,x,.cons _ t,e=>by
  obtain⟨u,h1,h2⟩:=Paired.getE (i:=i) (x:=x) t (by simpa using e);exact⟨u,by simpa using h1,h2⟩
theorem q1i {os:List (Option D)}(h:(os.filter isNone).length=1){i j:Nat}(hi:os[i]? = some none)(hj:os[j]? = some none):i=j:=by
 induction os generalizing i j with
 |nil=>simp at hi
 |cons o os ih =>
  cases o with
  |none =>
   simp at h;have key:∀k,os[k]? ≠ some none:=fun k e=>by
    have:=mem_of_getElem? e;exact absurd rfl (h none this)
   cases i with
   |zero =>
    cases j with
    |zero=>rfl
    |succ j=>exact absurd (by simpa using hj) (key j)
   |succ i=>exact absurd (by simpa using hi) (key i)
  |some d =>
   cases i with
   |zero=>simp at hi
   |succ i =>
    cases j with
    |zero=>simp at hj
    |succ j=>exact congrArg (· + 1) (ih (by simpa using h) (by simpa using hi) (by simpa using hj))
theorem x3y {R:RD}{i:Nat}{t:TA}{u:TAd}{E:XK}(s:SimA i t u):Sim (z9x (spD R) [] E t) (y2l R i u):=fun io H0 F0 F δ σ H Q Qd I q k=>by
 obtain⟨p0,q⟩:=q;obtain⟨d0,e0⟩:=isSome_iff_exists.mp p0;obtain⟨w,ew,_⟩:=I.pk e0;refine s io H0 F0 F δ σ H w _ _ I ew q fun os vs δ' F' H' sf I' r q'=>?_;obtain⟨fl,c,ec,hone,q'⟩:=q';obtain⟨a,ea,n1,n2,hc,hio⟩:=I'.get i _ ec;have e:=z2n ea;rw[ew]at e;cases e;show spD R (vs++[]) H' Q E;rw[append_nil];have erNe:∀b,b≠a->er H' (some a) b=H' b:=fun b hb=>if_neg hb;have erA:er H' (some a) a=none:=if_pos rfl;have lenE:os.length=vs.length:=Paired.length r;refine⟨er H' (some a),os.map (fun o=>match o with|none=>some a|some _=>none),F',_,_,fun p b ep=>?_,⟨fun b o eb=>?_,I'.sub,Same.refl _,fun b o eb hb=>?_,by simp[lenE],fun j t ej=>?_,fun j l b1 c1 b2 c2 a' ne e1 e2 _ _=>?_⟩,q',fun b d v δ2 F2 H2 C q2=>?_⟩
 ·rw[getD_eq_getElem?_getD,getElem?_map]at ep;cases eo:os[p]? with
  |none=>rw[eo]at ep;cases ep
  |some o =>
   rw[eo]at ep;cases o with
   |some d=>cases ep
   |none =>
    cases ep;obtain⟨v,ev,rv⟩:=Paired.getE r eo;cases(show v=.ref a from rv);exact ev
 ·by_cases hb:b=a
  ·subst hb;rw[erA]at eb;cases eb
  ·rw[erNe b hb]at eb;exact eb
 ·rw[hb]at eb;cases eb
 ·rw[getElem?_map]at ej;cases eo:os[j]? with
  |none=>rw[eo]at ej;cases ej
  |some o =>
   rw[eo]at ej;cases ej;obtain⟨v,ev,rv⟩:=Paired.getE r eo;cases o with
   |some d=>exact⟨v,by simp[getD_eq_getElem?_getD,ev],rv⟩
   |none =>
    cases(show v=.ref a from rv);exact⟨a,by simp[getD_eq_getElem?_getD,ev],erA,n2,hc,fun _=>by simp[getD_eq_getElem?_getD,eo]⟩
 ·rw[getElem?_map]at e1 e2;have key:∀{j:Nat}{b:Bool}{c':D},Option.map (z6o c) os[j]? = some (.ob b c')->os[j]? = some none:=fun {j b c'} h=>by
   cases eo:os[j]? with
   |none=>rw[eo]at h;cases h
   |some o =>
    rw[eo]at h;cases o with
    |none=>rfl
    |some d=>cases h
  exact ne (q1i hone (key e1) (key e2))
 ·obtain⟨c',eo,q2⟩:=q2;obtain⟨p,ep⟩:=z7k eo;obtain⟨a2,ea2,m1,m2,hc2,hio2⟩:=C.get (p+1) _ (by simpa using ep);have ea3:a2=a:=by
   have h1:=hio2 rfl;simp only[getD_cons_succ]at h1;rw[getD_eq_getElem?_getD,getElem?_map]at h1;cases eo:os[p]? with
   |none=>rw[eo]at h1;cases h1
   |some o =>
    rw[eo]at h1;cases o with
    |some d=>cases h1
    |none=>cases h1;rfl
  subst ea3;have hnew:∀b o,F2 b=some o->F' b=none->H' b=none\/b=a2:=fun b o e1 e2=>by
   by_cases hb:b=a2
   ·exact .inr hb
   ·have:=C.new b o e1 e2;rw[erNe b hb]at this;exact .inl this
  have oth:∀j b1 c1 a3,j≠i->δ'[j]? = some (.ob b1 c1)->σ.getD j none=some (.ref a3)->a3≠a2:=fun j b1 c1 a3 hj e1 e2 z=>I'.apart j i _ _ _ _ a2 hj e1 ec (by rw[e2,z]) ea;have keepH:∀b o,b≠a2->H' b=some o->H2 b=some o:=fun b o hb e=>C.base b o (by rw[erNe b hb];exact e);have J:EI io H0 F0 F2 (δ'.set i (.ob fl c')) σ H2:=by
   refine⟨fun b o eb=>?_,C.sub,I'.ext.trans C.ext,fun b o e h=>?_,by simpa using I'.len,fun j t ej=>?_,fun j l b1 c1 b2 c2 a' ne e1 e2 e3 e4=>?_⟩
   ·exact keepH b o (fun z=>by rw[z,n1]at eb;cases eb) (I'.base b o eb)
   ·cases q:F' b with
    |some u=>exact I'.new b u q h
    |none =>
     rcases hnew b o e q with z|z
     ·exact I'.base.free z
     ·rw[z];exact n1
   ·rw[getElem?_set]at ej;split at ej
    ·rename_i hij;subst hij;split at ej
     ·cases ej;exact⟨a2,ea,n1,m2,hc2,hio⟩
     ·cases ej
    ·rename_i hij;refine(I'.get j t ej).mono C.ext fun a3 b3 c3 es eo=>?_;subst es;obtain⟨a4,e1,h1,h2,h3,h4⟩:=I'.get j _ ej;rw[eo]at e1;cases e1;have hne:=oth j _ _ _ (fun z=>hij z.symm) ej eo;refine⟨?_,fun u hu=>keepH _ _ hne hu⟩;cases q:F2 a3 with
     |none=>rfl
     |some o =>
      rcases hnew a3 o q h2 with z|z
      ·obtain⟨u,hu⟩:=h3.some;rw[z]at hu;cases hu
      ·exact absurd z hne
   ·have key:∀{j:Nat}{b1:Bool}{c1:D},(δ'.set i (.ob fl c'))[j]? = some (Slot.ob b1 c1)->∃b2 c2,δ'[j]? = some (Slot.ob b2 c2):=fun {j b1 c1} h=>by
     rw[getElem?_set]at h;split at h
     ·rename_i hij;subst hij;exact⟨_,_,ec⟩
     ·exact⟨_,_,h⟩
    obtain⟨b3,c3,q1⟩:=key e1;obtain⟨b4,c4,q2⟩:=key e2;exact I'.apart j l _ _ _ _ a' ne q1 q2 e3 e4
  refine k b d v _ F2 H2 (sf.trans C.ext) (J.push ?_ fun b' c3 a3 es ev j b2 c2 ej eo=>?_) q2
  ·have h0:=C.get 0 _ rfl;cases b with
   |false=>obtain⟨v',e,r⟩:=h0;simp at e;subst e;exact⟨v,rfl,r⟩
   |true =>
    obtain⟨a3,e,h1,h2,h3,h4⟩:=h0;simp at e;subst e;refine⟨a3,rfl,?_,h2,h3,fun z=>by cases z⟩;by_cases hb:a3=a2
    ·rw[hb];exact n1
    ·rw[erNe a3 hb]at h1;exact I'.base.free h1
  ·subst ev;have h0:=C.get 0 _ rfl;cases b with
   |false=>cases es
   |true =>
    obtain⟨a5,e5,h5,_⟩:=h0;simp at e5;subst e5;rw[getElem?_set]at ej;split at ej
    ·rename_i hij;subst hij;rw[ea]at eo;cases eo;exact C.apart 0 (p+1) false d true c' a2 (by omega) rfl (by simpa using ep) rfl ea2
    ·rename_i hij;have hne:=oth j _ _ _ (fun z=>hij z.symm) ej eo;rw[erNe _ hne]at h5;obtain⟨a4,e1,h1,h2,h3,h4⟩:=I'.get j _ ej;rw[eo]at e1;cases e1;obtain⟨u,hu⟩:=h3.some;rw[h5]at hu;cases hu
variable {CX:CXT}{k:Nat}{f:Addr}{fd:FuncData}{ps:List Str}{R:RD}{E:XK}{x:Str}{p pos:Pos}{e:Expr}
theorem x5c (G:FnOk X.prog X.w X.K X.mg X.base CX k f fd ps (spD R))(hr:Room k X.A)(hg:Gl X x)(hm:X.mg x=some (.ref f))(hk:keepIn X.K (.ref f)=true)(hb:Binds X.K fd ps [])(hx:y0j CX X E)
  (ha:DA X i (e::es) u)(hdb:(x == ("__debug__":Str))=false:=by decide)(he:starEach (e::es) X.env=(false,eval e X.env)::starEach es X.env:=by rfl)(hpl:(backTo pos (starEach es X.env)).any (·.1)=false:=by rfl) :
  DE X (.Call (.Name x p) (e::es) [] pos) (y2l R i u):=by
 obtain⟨t,pt,s⟩:=ha;exact⟨_,z7f G hr hg hm hk hb .nil hx pt hdb he hpl,x3y s⟩
noncomputable def y7:Slot->Slot
 |.ob true c=>.ob true c
 |_=>.no
noncomputable def outS:Nat->List Slot->List Slot
 |0,_=>[]
 |n+1,[]=>.no::outS n []
 |n+1,s::r=>y7 s::outS n r
theorem y5w:∀(n:Nat)(δ:List Slot),(outS n δ).length=n
 |0,_=>rfl
 |n+1,[]=>by simp[outS,y5w n]
 |n+1,s::r=>by simp[outS,y5w n]
theorem y0v:∀{n:Nat}{δ:List Slot}{p:Nat}{s:Slot},(outS n δ)[p]? = some s->s=.no \/ ∃c,s=.ob true c/\δ[p]? = some (.ob true c)
 |0,δ,p,s,h=>by simp[outS]at h
 |n+1,[],0,s,h=>by simp[outS]at h;exact .inl h.symm
 |n+1,[],p+1,s,h=>by
  rcases y0v (n:=n) (δ:=[]) (p:=p) (s:=s) (by simpa[outS] using h) with z|⟨c,_,z⟩
  ·exact .inl z
  ·simp at z
 |n+1,t::r,0,s,h=>by
  simp[outS]at h;cases t with
  |no=>exact .inl h.symm
  |fz d=>exact .inl h.symm
  |sc K d=>exact .inl h.symm
  |ob b c =>
   cases b with
   |false=>exact .inl h.symm
   |true=>exact .inr ⟨c,h.symm,rfl⟩
 |n+1,t::r,p+1,s,h=>by simpa using y0v (n:=n) (δ:=r) (p:=p) (s:=s) (by simpa[outS] using h)
variable {P:Program}{w:World}{K:W.Frag}{mg:Str->Option Value}{base:Heap}
theorem _root_.L2.Fun.okC {x qual:Str}{st:Stmt}{f:Addr}{fd:FuncData}{N ps:List Str}{k:Nat}{sp:Sp}(F:Fun K x qual st f fd)(S:FnScope N ps (z0f st))(len:∀vs H Q E,sp vs H Q E->vs.length=ps.length)
  (hbody:∀(cdv:Value)(A:Around)(outer:List Env)(s:Shared)(H:Hp)(vs:List V)(Q:VK)(E:XK),fd.code=cdv->Room k (A.deeper (envOfC qual (z0f st) s.heap.objs.size f cdv))->sp vs H Q E ->
   ∃t,PSs (cxOf CX0 P w K mg base N qual (z0f st) f cdv A outer s H E).nox (z2o st) t/\t { nx:=fun _ H'=>Q .non H',rt:=Q } (L2.start N vs) H):FnOk P w K mg base CX0 (k+1) f fd ps sp:=by
 obtain⟨oc,od,kV,doc,pm,an,cdv,ct,osl,rfl,lk,hcd⟩:=F.ex;refine q8u lk hcd S len fun A outer s H vs Q E hr hsp=>?_;obtain⟨t,h,q⟩:=hbody cdv A outer s H vs Q E rfl hr hsp;exact⟨t,h.nox,q⟩
theorem Fun.dokC {x qual:Str}{st:Stmt}{f:Addr}{fd:FuncData}{N ps:List Str}{k:Nat}{R:RD}(Fn:Fun K x qual st f fd)(S:FnScope N ps (z0f st))(hlen:∀δ Qd,R δ Qd->δ.length=ps.length)(hN:ps.length<=N.length)
  (hbody:∀(cdv:Value)(A:Around)(outer:List Env)(s:Shared)(H:Hp)(E:XK)(δ:List Slot)(Qd:Bool->D->List Slot->Prop),fd.code=cdv->Room k (A.deeper (envOfC qual (z0f st) s.heap.objs.size f cdv))->R δ Qd ->
   ∃td,DSs (cxOf CX0 P w K mg base N qual (z0f st) f cdv A outer s H E).nox (z2o st) td/\td { nx:=fun δ'=>Qd false .non (outS ps.length δ'),rt:=fun b d δ'=>Qd b d (outS ps.length δ') } (δ++replicate (N.length - ps.length) .no)) :
  FnOk P w K mg base CX0 (k+1) f fd ps (spD R):=by
 refine Fn.okC S (fun vs H Q E h=>?_) (fun cdv A outer s H vs Q E hfc hr h=>?_)
 ·obtain⟨x,ic,F,δ,Qd,_,I,hR,_⟩:=h;have:=I.len;rw[length_map]at this;rw[<-this];exact hlen _ _ hR
 ·obtain⟨x,ic,F,δ,Qd,hic,I,hR,kq⟩:=h;have l1:=I.len;rw[length_map]at l1;have l2:=hlen _ _ hR;obtain⟨td,⟨t,pt,st'⟩,ht⟩:=hbody cdv A outer s H E δ Qd hfc hr hR;refine⟨t,pt,?_⟩;have est:L2.start N vs=vs.map some++replicate (N.length - ps.length) none:=by rw[L2.start,<-l1,l2]
  have I1:EI ic x F F (δ++replicate (N.length - ps.length) .no) (L2.start N vs) H:=by
   rw[est];refine⟨I.base,I.sub,I.ext,I.new,by simp[l1],fun j s e=>?_,fun i j b c b' c' a ne e1 e2 e3 e4=>?_⟩
   ·by_cases hj:j<δ.length
    ·rw[getElem?_append_left hj]at e;have:=I.get j s e;rwa [getD_eq_getElem?_getD,getD_eq_getElem?_getD,getElem?_append_left (by simpa[<-l1] using hj),<-getD_eq_getElem?_getD,<-getD_eq_getElem?_getD]
    ·rw[getElem?_append_right (by omega),getElem?_replicate]at e;split at e
     ·cases e;trivial
     ·cases e
   ·have key:∀{j:Nat}{b:Bool}{c:D},(δ++replicate (N.length - ps.length) Slot.no)[j]? = some (.ob b c)->j<δ.length/\δ[j]? = some (.ob b c):=fun {j b c} h=>by
     by_cases hj:j<δ.length
     ·rw[getElem?_append_left hj]at h;exact⟨hj,h⟩
     ·rw[getElem?_append_right (by omega),getElem?_replicate]at h;split at h<;>cases h
    obtain⟨z1,q1⟩:=key e1;obtain⟨z2,q2⟩:=key e2;rw[getD_eq_getElem?_getD,getElem?_append_left (by simpa[<-l1] using z1)]at e3;rw[getD_eq_getElem?_getD,getElem?_append_left (by simpa[<-l1] using z2)]at e4;exact I.apart i j b c b' c' a ne q1 q2 (by rw[getD_eq_getElem?_getD];exact e3) (by rw[getD_eq_getElem?_getD];exact e4)
  have fin:∀(b:Bool)(d:D)(v:V)(F':Hp)(δ':List Slot)(σ':L2.St)(H':Hp),EI (none::ic) x F F' (rsl b d::δ') (some v::σ') H'->EI (none::ic) x F F' (rsl b d::outS ps.length δ') (some v::vs.map some) H':=by
   intro b d v F' δ' σ' H' I2;have key:∀{p:Nat}{c:D},δ'[p]? = some (.ob true c)->∃a,σ'.getD p none=some (.ref a)/\(vs.map some).getD p none=some (.ref a)/\SOk x F' H' (ic.getD p none) (some (.ref a)) (.ob true c):=fun {p c} h=>by
    have q:=I2.get (p+1) _ (by simpa using h);simp only[getD_cons_succ]at q;obtain⟨a,e,h1,h2,h3,h4⟩:=q;have ev:=hic p a (h4 rfl);exact⟨a,e,by simp[getD_eq_getElem?_getD,ev],a,rfl,h1,h2,h3,h4⟩
   refine⟨I2.base,I2.sub,I2.ext,I2.new,by simp[y5w,<-l1,l2],fun j s e=>?_,fun i j b1 c b' c' a ne e1 e2 e3 e4=>?_⟩
   ·cases j with
    |zero=>simp at e;subst e;exact I2.get 0 _ rfl
    |succ j =>
     simp only[List.getElem?_cons_succ,getD_cons_succ]at e ⊢;rcases y0v e with z|⟨c,z,z2⟩
     ·subst z;trivial
     ·subst z;obtain⟨a,_,e2,q⟩:=key z2;rw[e2];exact q
   ·have k2:∀{j:Nat}{b1:Bool}{c:D}{a:Addr},(rsl b d::outS ps.length δ')[j]? = some (.ob b1 c)->(some v::vs.map some).getD j none=some (.ref a)->(rsl b d::δ')[j]? = some (.ob b1 c)/\(some v::σ').getD j none=some (.ref a):=fun {j b1 c a} g1 g2=>by
     cases j with
     |zero=>exact⟨g1,g2⟩
     |succ j =>
      simp only[List.getElem?_cons_succ,getD_cons_succ]at g1 g2 ⊢;rcases y0v g1 with z|⟨c',z,z2⟩
      ·cases z
      ·cases z;obtain⟨a',q1,q2,_⟩:=key z2;rw[g2]at q2;cases q2;exact⟨z2,q1⟩
    obtain⟨u1,u2⟩:=k2 e1 e3;obtain⟨u3,u4⟩:=k2 e2 e4;exact I2.apart i j _ _ _ _ a ne u1 u3 u2 u4
  exact st' ic x F F _ _ H _ _ I1 ht ⟨fun F' δ' σ' H' sf I2 q2=>kq false .non .non _ F' H' (fin _ _ _ _ _ _ _ I2.pN) q2,fun b d v F' δ' σ' H' sf I2 q2=>kq b d v _ F' H' (fin _ _ _ _ _ _ _ I2) q2,fun _ _ _ _ _ _ z=>z.elim,fun _ _ _ _ _ _ z=>z.elim⟩
theorem Fun.dok {x qual:Str}{st:Stmt}{f:Addr}{fd:FuncData}{N ps:List Str}{k:Nat}{R:RD}(Fn:Fun K x qual st f fd)(S:FnScope N ps (z0f st))(hlen:∀δ Qd,R δ Qd->δ.length=ps.length)(hN:ps.length<=N.length)
  (hbody:∀(cdv:Value)(A:Around)(outer:List Env)(s:Shared)(H:Hp)(E:XK)(δ:List Slot)(Qd:Bool->D->List Slot->Prop),Room k (A.deeper (envOfC qual (z0f st) s.heap.objs.size f cdv))->R δ Qd ->
   ∃td,DSs (cxOf CX0 P w K mg base N qual (z0f st) f cdv A outer s H E).nox (z2o st) td/\td { nx:=fun δ'=>Qd false .non (outS ps.length δ'),rt:=fun b d δ'=>Qd b d (outS ps.length δ') } (δ++replicate (N.length - ps.length) .no)) :
  FnOk P w K mg base CX0 (k+1) f fd ps (spD R) :=
 VL.Fun.dokC Fn S hlen hN fun cdv A outer s H E δ Qd _=>hbody cdv A outer s H E δ Qd
end
end VL
namespace VL
open PySem L2
section
variable {io:List (Option Addr)}{H0 F0 F F':Hp}{δ:List Slot}{σ:St}{H:Hp}
theorem EI.pushN {o:Option V}(I:EI io H0 F0 F δ σ H):EI (none::io) H0 F0 F (.no::δ) (o::σ) H where
 base:=I.base
 sub:=I.sub
 ext:=I.ext
 new:=I.new
 len:=by simp[I.len]
 get:=fun i t e=>by
  cases i with
  |zero=>simp at e;subst e;trivial
  |succ i=>simpa using I.get i t (by simpa using e)
 apart:=fun i j b c b' c' a ne e1 e2 e3 e4=>by
  cases i with
  |zero=>simp at e1
  |succ i =>
   cases j with
   |zero=>simp at e2
   |succ j=>exact I.apart i j b c b' c' a (by omega) (by simpa using e1) (by simpa using e2) (by simpa using e3) (by simpa using e4)
theorem EI.pad (I:EI io H0 F0 F δ σ H):∀(τ:St),EI (replicate τ.length none++io) H0 F0 F (replicate τ.length .no++δ) (τ++σ) H
 | []=>I
 |o::τ=>by
  have:=(I.pad τ).pushN (o:=o);simpa[List.replicate_succ] using this
theorem EI.unpad:∀{τ:St}{δ:List Slot},EI (replicate τ.length none++io) H0 F0 F δ (τ++σ) H->EI io H0 F0 F (δ.drop τ.length) σ H
 | [],δ,I=>I
 |o::τ,[],I=>by have:=I.len;simp at this
 |o::τ,s::δ,I=>by
  have I':EI (none::(replicate τ.length none++io)) H0 F0 F (s::δ) (o::(τ++σ)) H:=by simpa[List.replicate_succ] using I
  simpa using EI.unpad I'.pop
theorem EI.hide {p:Addr}{acc:List D}{ys:List V}(I:EI (none::io) H0 F0 F (.ob false (.lst acc)::δ) (some (.ref p)::σ) H)(hp:H p=some (.lst ys)):EI io (upd H0 p (.lst ys)) F0 F δ σ H:=by
 have J:=I.pop;obtain⟨a,e,h1,h2,h3,h4⟩:=I.get 0 _ rfl;simp at e;subst e;refine⟨fun b o eb=>?_,I.sub,I.ext,fun b o e h=>?_,J.len,fun i t e=>?_,J.apart⟩
 ·by_cases hb:b=p
  ·subst hb;rw[z0g]at eb;cases eb;exact hp
  ·rw[z0j hb]at eb;exact I.base b o eb
 ·rw[z0j (fun z=>by rw[z,h2]at e;cases e)];exact I.new b o e h
 ·have q:=J.get i t e;cases t with
  |no=>trivial
  |fz d=>exact q
  |sc K d=>exact q
  |ob b c =>
   obtain⟨a,e1,g1,g2,g3,g4⟩:=q;refine⟨a,e1,?_,g2,g3,g4⟩;rw[z0j]
   ·exact g1
   ·rintro rfl;exact I.apart 0 (i+1) _ _ _ _ _ (by omega) rfl (by simpa using e) rfl (by simpa using e1)
theorem EI.unhide {p:Addr}{acc:List D}{ys ys':List V}(I:EI io (upd H0 p (.lst ys)) F0 F δ σ H)(h0:H0 p=none)(hF:F0 p=none)(r:Reps F acc ys'):EI (none::io) H0 F0 F (.ob false (.lst acc)::δ) (some (.ref p)::σ) (upd H p (.lst ys')):=by
 have hFp:F p=none:=by
  cases q:F p with
  |none=>rfl
  |some o=>have:=I.new p o q hF;rw[z0g]at this;cases this
 have ownNe:∀{i:Nat}{b:Bool}{c:D}{a:Addr},δ[i]? = some (.ob b c)->σ.getD i none=some (.ref a)->a≠p:=fun {i b c a} e eo z=>by
  obtain⟨a',e1,g1,_⟩:=I.get i _ e;rw[eo]at e1;cases e1;rw[z,z0g]at g1;cases g1
 refine⟨fun b o eb=>?_,I.sub.upd hFp,I.ext,fun b o e h=>?_,by simp[I.len],fun i t e=>?_,fun i j b c b' c' a ne e1 e2 e3 e4=>?_⟩
 ·have hb:b≠p:=fun z=>by rw[z,h0]at eb;cases eb
  rw[z0j hb];exact I.base b o (by rw[z0j hb];exact eb)
 ·have q:=I.new b o e h;by_cases hb:b=p
  ·rw[hb];exact h0
  ·rw[z0j hb]at q;exact q
 ·cases i with
  |zero=>simp at e;subst e;exact⟨p,rfl,h0,hFp,⟨ys',z0g,r⟩,fun z=>by cases z⟩
  |succ i =>
   have e':δ[i]? = some t:=by simpa using e
   have q:=I.get i t e';simp only[getD_cons_succ];cases t with
   |no=>trivial
   |fz d=>exact q
   |sc K d=>exact q
   |ob b c =>
    obtain⟨a,e1,g1,g2,g3,g4⟩:=q;have ne:=ownNe e' e1;rw[z0j ne]at g1;exact⟨a,e1,g1,g2,g3.mono (Same.refl _) (fun o eo=>by rw[z0j ne];exact eo),g4⟩
 ·cases i with
  |zero =>
   cases j with
   |zero=>exact ne rfl
   |succ j=>simp at e1 e3;subst e3;exact ownNe (by simpa using e2) (by simpa using e4) rfl
  |succ i =>
   cases j with
   |zero=>simp at e2 e4;subst e4;exact ownNe (by simpa using e1) (by simpa using e3) rfl
   |succ j=>exact I.apart i j b c b' c' a (by omega) (by simpa using e1) (by simpa using e2) (by simpa using e3) (by simpa using e4)
def q7t (n:Nat)(g:TG)(gd:TGd):Prop:=∀(io:List (Option Addr))(H0 F0 F:Hp)(δ:List Slot)(σ:St)(H:Hp)(d:D)(v:V)(Q:St->Hp->Prop)(Qd:List Slot->Prop),EI io H0 F0 F δ σ H->Rep F d v->gd d δ Qd ->
 (∀δ' σ',EI io H0 F0 F δ' σ' H->σ'.drop n=σ.drop n->σ'.length=σ.length->Qd δ'->Q σ' H)->g v σ H Q
def j6 (n:Nat)(g:TGs)(gd:TGsd):Prop:=∀(io:List (Option Addr))(H0 F0 F:Hp)(δ:List Slot)(σ:St)(H:Hp)(ds:List D)(vs:List V)(Q:St->Hp->Prop)(Qd:List Slot->Prop),EI io H0 F0 F δ σ H->Reps F ds vs->gd ds δ Qd ->
 (∀δ' σ',EI io H0 F0 F δ' σ' H->σ'.drop n=σ.drop n->σ'.length=σ.length->Qd δ'->Q σ' H)->g vs σ H Q
def DGn (X:Cx)(n:Nat)(e:Expr)(gd:TGd):Prop:=∃g,PG X e g/\q7t n g gd
def DGsn (X:Cx)(n:Nat)(es:List Expr)(gd:TGsd):Prop:=∃g,PGs X es g/\j6 n g gd
variable {X:Cx}{pos:Pos}{n:Nat}
theorem z2h {i:Nat}{x:Str}(hn:i<n)(hN:X.N.Nodup)(hi:X.N[i]? = some x)(hx:Loc X.env.scope x)(hf:X.fn x=true\/X.env.scope.names.lookup x=some .local:=by first|exact .inl rfl|exact .inr rfl|assumption):DGn X n (.Name x pos) (dgN i) :=
 ⟨_,z6c hN hi hx hf,fun io H0 F0 F δ σ H d v Q Qd I r q k=>by
  obtain⟨h,q⟩:=q;obtain⟨h1,h2⟩:=h.ne;refine k _ _ ((I.pushF r).setv (b:=false) h1 h2) ?_ (by simp) q;rw[List.drop_set_of_lt (by omega)]⟩
theorem x1v:DGsn X n [] x3p:=⟨_,y5q,fun io H0 F0 F δ σ H ds vs Q Qd I r q k=>by
 obtain⟨rfl,q⟩:=q;exact⟨r,k _ _ I rfl rfl q⟩⟩
theorem y0 {e:Expr}{es:List Expr}{g:TGd}{u:TGsd}(h1:DGn X n e g)(h2:DGsn X n es u)
  (hs:(assignEach (e::es) X.env).map (·.2)=assign e X.env::(assignEach es X.env).map (·.2):=by rfl):DGsn X n (e::es) (y4c g u):=by
 obtain⟨t,p,s⟩:=h1;obtain⟨t',p',s'⟩:=h2;refine⟨_,z7s p p' hs,fun io H0 F0 F δ σ H ds vs Q Qd I r q k=>?_⟩;obtain⟨d,dr,rfl,q⟩:=q;obtain⟨v,vr,rfl,r1,r2⟩:=r;exact⟨v,vr,rfl,s io H0 F0 F δ σ H d v _ _ I r1 q fun δ' σ' I' e1 e2 q'=>s' io H0 F0 F δ' σ' H dr vr Q Qd I' r2 q' fun δ2 σ2 I2 e3 e4 q2=>k δ2 σ2 I2 (e3.trans e1) (e4.trans e2) q2⟩
theorem x8y {es:List Expr}{k:Nat}{u:TGsd}{m:Nat}(hc:X.calm=true)(h:DGsn X n es u)
  (hn:(assignEach es X.env).length=m:=by rfl)(hst:(assignEach es X.env).findIdx? (·.1)=none:=by rfl):DGn X n (.Tuple es k pos) (y7r m u):=by
 obtain⟨t,p,s⟩:=h;refine⟨_,x1a hc p hn hst,fun io H0 F0 F δ σ H d v Q Qd I r q k=>?_⟩;obtain⟨ds,rfl,hl,q⟩:=q;obtain⟨a,vs,rfl,h1,r1⟩:=r;exact⟨a,vs,rfl,SqT.of (I.sub _ _ h1),by rw[<-r1.len];exact hl,s io H0 F0 F δ σ H ds vs Q Qd I r1 q k⟩
def dYes:TTd:=fun δ Q=>Q true δ
def DF (X:Cx)(ifs:List Expr)(td:TTd):Prop:=∃t,PF X ifs t/\SimT t td
theorem z6u {X:Cx}:DF X [] dYes:=⟨_,j5f,fun io H0 F0 F δ σ H Q Qd I q k=>k true δ F H (Same.refl _) I q⟩
theorem q7k {X:Cx}{c:Expr}{td:TTd}(h:DT X c td):DF X [c] td:=by obtain⟨t,p,s⟩:=h;exact⟨t,j4c p,s⟩
def q2p (n:Nat)(di:TLd)(gd:TGd)(tc:TTd)(te:TEd):TEd:=fun δ Q=>di δ fun ds δ'=>∃P:List D->List D->List Slot->Prop,P ds [] δ' /\
 (∀d r acc δ1,P (d::r) acc δ1->gd d (replicate n .no++δ1) fun δ2=>tc δ2 fun b δ3=>if b=true then te δ3 fun _ y δ4=>acc.length<sizeLine/\P r (acc++[y]) (δ4.drop n) else P r acc (δ3.drop n)) /\
 ∀acc δ1,P [] acc δ1->Q true (.lst acc) δ1
theorem x2i {n:Nat}{wi:TI}{g:TG}{tc:TT}{te:TE}{di:TLd}{gd:TGd}{cd:TTd}{ed:TEd}(si:SimI wi di)(sg:q7t n g gd)(sc:SimT tc cd)(se:Sim te ed):Sim (x9s n wi g tc te) (q2p n di gd cd ed):=by
 intro io H0 F0 F δ σ H Q Qd I q k;refine si io H0 F0 F δ σ H _ _ I q fun J ds δ' F' H' sf I' ok q' Dp hD=>?_;obtain⟨P,p0,step,fin⟩:=q';have hF0:F0 Dp=none:=I'.ext.free (I'.sub.free hD);refine⟨fun i m ys H=>m=ds.length - i/\i<=ds.length/\∃F1 δ1 acc,Same F' F1/\EI (none::io) H0 F0 F1 (.ob false (.lst acc)::δ1) (some (.ref Dp)::σ) H/\H Dp=some (.lst ys)/\P (ds.drop i) acc δ1,⟨ds.length,by simp,zero_le _,F',δ',[],Same.refl _,I'.newL hD rfl,z0g,p0⟩,?_⟩;rintro i m ys H1 ⟨rfl,hi,F1,δ1,acc,s1,I1,hy,p1⟩;refine⟨hy,?_⟩;obtain⟨a,e,hH0,hF1,⟨vs,hv,rv⟩,_⟩:=I1.get 0 _ rfl;simp at e;subst e;rw[hy]at hv;cases hv;have Ih:=I1.hide hy;obtain⟨o1,o2⟩:=ok io _ F0 F1 δ1 σ H1 s1 Ih i;by_cases hlt:i<ds.length
 ·have ed':ds[i]? = some ds[i]:=by simp[hlt]
  have edr:ds.drop i=ds[i]::ds.drop (i+1):=drop_eq_getElem_cons hlt;rw[edr]at p1;obtain⟨go,yl⟩:=o1 _ ed';refine .inr ⟨go,fun ys' H'=>∃F2 δ2 acc',Same F' F2/\EI (none::io) H0 F0 F2 (.ob false (.lst acc')::δ2) (some (.ref Dp)::σ) H'/\H' Dp=some (.lst ys')/\P (ds.drop (i+1)) acc' δ2,fun ys' H' hN=>⟨ds.length - (i+1),by omega,rfl,hlt,hN⟩,fun x H2 y τ hτ=>?_⟩;obtain⟨F2,s2,I2,r2⟩:=yl x H2 y;have I2p:=I2.pad τ;rw[hτ]at I2p;refine sg _ _ F0 F2 _ (τ++σ) H2 _ x _ _ I2p r2 (step _ _ acc δ1 p1) fun δ3 σ3 I3 e1 e2 q3=>?_;have eσ:σ3=σ3.take n++σ:=by
   have h1:σ3.drop n=σ:=by rw[e1,<-hτ];simp
   conv=>lhs;rw[<-take_append_drop n σ3,h1]
  have lτ:(σ3.take n).length=n:=by
   rw[length_take,e2,length_append,hτ];omega
  refine⟨⟨σ3.take n,lτ,eσ⟩,?_⟩;refine sc _ _ F0 F2 δ3 σ3 H2 _ _ I3 q3 fun b δ4 F4 H4 s4 I4 q4=>?_;have back:∀{δ5:List Slot}{F5 H5:Hp},EI (replicate n none++io) (upd H0 Dp (.lst ys)) F0 F5 δ5 σ3 H5->EI io (upd H0 Dp (.lst ys)) F0 F5 (δ5.drop n) σ H5:=fun {δ5 F5 H5} I5=>by
   rw[eσ]at I5;have I5':EI (replicate (σ3.take n).length none++io) (upd H0 Dp (.lst ys)) F0 F5 δ5 (σ3.take n++σ) H5:=by rw[lτ];exact I5
   have:=EI.unpad I5';rwa [lτ]at this
  cases b with
  |false =>
   rw[if_neg Bool.false_ne_true]at q4 ⊢;have I5:=(back I4);have hy4:H4 Dp=some (.lst ys):=I4.base _ _ z0g;have I6:=I5.unhide (ys':=ys) hH0 hF0 (Reps.mono (s2.trans s4) _ _ rv);have eH:upd H4 Dp (.lst ys)=H4:=by
    funext b;by_cases hb:b=Dp
    ·rw[hb,z0g,hy4]
    ·rw[z0j hb]
   rw[eH]at I6;exact⟨F4,_,acc,(s1.trans s2).trans s4,I6,hy4,q4⟩
  |true =>
   rw[if_pos rfl]at q4 ⊢;refine se.fz I4 q4 fun d v δ5 F5 H5 s5 I5 r5 q5=>?_;refine⟨I5.base _ _ z0g,by rw[<-rv.len];exact q5.1,F5,_,acc++[d],((s1.trans s2).trans s4).trans s5,?_,z0g,q5.2⟩;exact(back I5).unhide hH0 hF0 ((Reps.mono ((s2.trans s4).trans s5) _ _ rv).app (.one r5))
 ·have e:i=ds.length:=by omega
  subst e;rw[drop_length]at p1;exact .inl ⟨o2 rfl,k true _ _ δ1 F1 H1 (sf.trans s1) I1 (fin acc δ1 p1)⟩
def tOf (td:TEd):TE:=fun σ H Q=>∃io H0 F0 F δ Qd,EI io H0 F0 F δ σ H/\td δ Qd/\∀b d v δ' F' H',Same F F'->EI (none::io) H0 F0 F' (rsl b d::δ') (some v::σ) H'->Qd b d δ'->Q v H'
theorem x7m (td:TEd):Sim (tOf td) td:=fun io H0 F0 F δ σ H Q Qd I q k=>⟨io,H0,F0,F,δ,Qd,I,q,k⟩
theorem DE.pe {X:Cx}{e:Expr}{td:TEd}(h:DE X e td):PE X e (tOf td):=by
 obtain⟨te,p,s⟩:=h;intro pins s' σ H Q I q;obtain⟨io,H0,F0,F,δ,Qd,J,q,k⟩:=q;exact p pins s' σ H Q I (s io H0 F0 F δ σ H Q Qd J q k)
def ttOf (td:TTd):TT:=fun σ H Q=>∃io H0 F0 F δ Qd,EI io H0 F0 F δ σ H/\td δ Qd/\∀b δ' F' H',Same F F'->EI io H0 F0 F' δ' σ H'->Qd b δ'->Q b H'
theorem x2q (td:TTd):SimT (ttOf td) td:=fun io H0 F0 F δ σ H Q Qd I q k=>⟨io,H0,F0,F,δ,Qd,I,q,k⟩
theorem DF.pf {X:Cx}{e:List Expr}{td:TTd}(h:DF X e td):PF X e (ttOf td):=by
 obtain⟨te,p,s⟩:=h;intro pins s' σ H Q I q;obtain⟨io,H0,F0,F,δ,Qd,J,q,k⟩:=q;exact p pins s' σ H Q I (s io H0 F0 F δ σ H Q Qd J q k)
def tgOf (n:Nat)(gd:TGd):TG:=fun v σ H Q=>∃io H0 F0 F δ d Qd,EI io H0 F0 F δ σ H/\Rep F d v/\gd d δ Qd/\∀δ' σ',EI io H0 F0 F δ' σ' H->σ'.drop n=σ.drop n->σ'.length=σ.length->Qd δ'->Q σ' H
theorem x2h (n:Nat)(gd:TGd):q7t n (tgOf n gd) gd:=fun io H0 F0 F δ σ H d v Q Qd I r q k=>⟨io,H0,F0,F,δ,d,Qd,I,r,q,k⟩
theorem DGn.pg {X:Cx}{n:Nat}{e:Expr}{gd:TGd}(h:DGn X n e gd):PG X e (tgOf n gd):=by
 obtain⟨g,p,s⟩:=h;intro pins s' σ H v u Q I r q;obtain⟨io,H0,F0,F,δ,d,Qd,J,rd,q,k⟩:=q;exact p pins s' σ H v u Q I r (s io H0 F0 F δ σ H d v Q Qd J rd q k)
theorem z6d {elt iter tg:Expr}(xs:List Str){pos:Pos}{ifs:List Expr}{sc:Scope}(M:List Str){di:TLd}{gd:TGd}{cd:TTd}{ed:TEd}(hc:X.calm=true)(S:CScopeG X.env.scope X.N xs sc M)(hi:DI X tg iter di)(hg:∀pins ex H₀ s₀ C,DGn (z3x X sc (xs++M) pins ex H₀ s₀ C) xs.length tg gd)
  (ht:∀pins ex H₀ s₀ C,DF (z3x X sc (xs++M) pins ex H₀ s₀ C) ifs cd)(he:∀pins ex H₀ s₀ C,DE (z3x X sc (xs++M) pins ex H₀ s₀ C) elt ed)
  (hs:∀v,foldedSetIterable iter X.env v=pure v:=by intro _;rfl):DE X (.ListComp elt [⟨tg,iter,ifs,0⟩] sc pos) (q2p xs.length di gd cd ed):=by
 obtain⟨wi,p2,s2⟩:=hi;exact⟨_,q3e xs M hc (fun pins ex H₀ s₀ C=>(hg pins ex H₀ s₀ C).pg) S p2 (fun pins ex H₀ s₀ C=>(ht pins ex H₀ s₀ C).pf) (fun pins ex H₀ s₀ C=>(he pins ex H₀ s₀ C).pe) hs,x2i s2 (x2h _ _) (x2q _) (x7m _)⟩
theorem y6m {elt iter tg:Expr}{y:Str}(xs:List Str){py pos spos:Pos}{ifs:List Expr}{sc:Scope}{j:Nat}(M:List Str){di:TLd}{gd:TGd}{cd:TTd}{ed:TEd}(hN:X.N.Nodup)(hj:X.N[j]? = some y)(hy:X.env.scope.names.lookup y=some .local)(hc:X.calm=true)(S:CScopeG X.env.scope X.N xs sc M)(hi:DI X tg iter di)
  (hg:∀pins ex H₀ s₀ C,DGn (z3x X sc (xs++M) pins ex H₀ s₀ C) xs.length tg gd)(ht:∀pins ex H₀ s₀ C,DF (z3x X sc (xs++M) pins ex H₀ s₀ C) ifs cd)(he:∀pins ex H₀ s₀ C,DE (z3x X sc (xs++M) pins ex H₀ s₀ C) elt ed)
  (hsw:swapsWith (.ListComp elt [⟨tg,iter,ifs,0⟩] sc pos) (some (.Name y py)) spos.line X.env=pure true:=by rfl)
  (hs:∀v,foldedSetIterable iter X.env v=pure v:=by intro _;rfl):DS X (.Assign [.Name y py] (.ListComp elt [⟨tg,iter,ifs,0⟩] sc pos) spos) (dSet j (q2p xs.length di gd cd ed)):=by
 obtain⟨wi,p2,s2⟩:=hi;exact⟨_,q0s xs M hN hj hy hc (fun pins ex H₀ s₀ C=>(hg pins ex H₀ s₀ C).pg) S p2 (fun pins ex H₀ s₀ C=>(ht pins ex H₀ s₀ C).pf) (fun pins ex H₀ s₀ C=>(he pins ex H₀ s₀ C).pe) hsw hs,x0w (x2i s2 (x2h _ _) (x2q _) (x7m _))⟩
theorem j5l {x:Str}{z:Str}{pos:Pos}(hg:Gl X x)(hm:∃t,X.mg x=some (.str z t))(hd:(x == ("__debug__":Str))=false:=by decide):DE X (.Name x pos) (dC (.str z)):=by
 obtain⟨t,hm⟩:=hm;exact q9y (v:=.str z) (fun _=>rfl) hg hm ⟨t,rfl⟩ hd
def fIxQ:D->D->(Bool->D->Prop)->Prop:=fun x y Q=>∃xs i d,(x=.lst xs\/x=.tup xs)/\y=.int i/\atI xs i=some d/\Q false d
theorem q7m {K:W.Frag}:OpS (rIx K) fIxQ:=by
 intro io H0 F0 F δ σ H x y v u Q Qd I px py q k;obtain⟨xs,i,d,hx,rfl,h,q⟩:=q;rcases hx with rfl|rfl
 ·obtain⟨a,vs,rfl,h1,r1⟩:=px.lst I;obtain⟨w,e,r⟩:=r1.atI h;exact .inl ⟨a,vs,i,w,rfl,py.int,SqL.of h1,e,k false d w F H (Same.refl _) (I.pushF r) q⟩
 ·obtain⟨a,vs,rfl,h1,r1⟩:=px.tup I;obtain⟨w,e,r⟩:=r1.atI h;exact .inr (.inl ⟨a,vs,i,w,rfl,py.int,SqT.of h1,e,k false d w F H (Same.refl _) (I.pushF r) q⟩)
def x9d:List D->(Bool->D->Prop)->Prop:=fun ds Q=>∃xs,(ds=[.lst xs]\/ds=[.tup xs])/\Q false (.int xs.length)
theorem x0a {K:W.Frag}:y0u (fun xs H Q=>∃p ys,xs=[.ref p]/\(SqL K H p ys\/SqT K H p ys)/\Q (.int ys.length) H) x9d:=by
 intro io H0 F0 F δ σ H xs vs Q Qd I px q k;obtain⟨ys,h,q⟩:=q;rcases h with rfl|rfl
 ·obtain⟨v,rfl,pk⟩:=pks1 px;obtain⟨a,us,rfl,h1,r⟩:=pk.lst I;refine⟨a,us,rfl,.inl (SqL.of h1),k false (.int ys.length) _ F H (Same.refl _) (I.pushF ?_) q⟩;rw[r.len];rfl
 ·obtain⟨v,rfl,pk⟩:=pks1 px;obtain⟨a,us,rfl,h1,r⟩:=pk.tup I;refine⟨a,us,rfl,.inr (SqT.of h1),k false (.int ys.length) _ F H (Same.refl _) (I.pushF ?_) q⟩;rw[r.len];rfl
abbrev TOd:=List Slot->(Option Int->List Slot->Prop)->Prop
def SimO (t:TO)(td:TOd):Prop:=∀(io:List (Option Addr))(H0 F0 F:Hp)(δ:List Slot)(σ:St)(H:Hp)(Q:Option Int->Hp->Prop)(Qd:Option Int->List Slot->Prop),EI io H0 F0 F δ σ H->td δ Qd ->
 (∀o δ' F' H',Same F F'->EI io H0 F0 F' δ' σ H'->Qd o δ'->Q o H')->t σ H Q
def DO (X:Cx)(e:Option Expr)(td:TOd):Prop:=∃t,PO X e t/\SimO t td
def doN:TOd:=fun δ Q=>Q none δ
def doS (t:TEd):TOd:=fun δ Q=>t δ fun _ d δ'=>∃i,d=.int i/\Q (some i) δ'
theorem z1n:DO X none doN:=⟨_,x6z,fun io H0 F0 F δ σ H Q Qd I q k=>k none δ F H (Same.refl _) I q⟩
theorem z0o {e:Expr}{t:TEd}(h:DE X e t):DO X (some e) (doS t):=by
 obtain⟨t,p,s⟩:=h;refine⟨_,y9y p,fun io H0 F0 F δ σ H Q Qd I q k=>s.fz I q fun d v δ' F' H' sf I' r q'=>?_⟩;obtain⟨i,rfl,q'⟩:=q';exact⟨i,r,k (some i) δ' F' H' sf I' q'⟩
noncomputable def cutD (xs:List D)(lo hi:Option Int):List D:=(xs.drop (HT.sIx xs.length 0 lo)).take (HT.sIx xs.length xs.length hi - HT.sIx xs.length 0 lo)
theorem Reps.cut {F:Hp}{ds:List D}{vs:List V}(r:Reps F ds vs)(lo hi:Option Int):Reps F (cutD ds lo hi) (cutV vs lo hi):=by
 unfold cutD cutV;rw[r.len];exact(r.drop _).take _
def q1y (i:Nat)(l h:TOd):TEd:=fun δ Q=>(peek δ i).isSome=true/\l δ fun lo δ2=>h δ2 fun hi δ3=>∃xs,peek δ3 i=some (.lst xs)/\Q true (.lst (cutD xs lo hi)) δ3
def dSlS (t:TEd)(l h:TOd):TEd:=fun δ Q=>t δ fun _ d δ1=>l δ1 fun lo δ2=>h δ2 fun hi δ3=>∃z,d=.str z/\z.length<=sizeLine/\Q false (.str (Txt.slice z lo hi)) δ3
variable {e:Expr}{lo hi:Option Expr}{p2:Pos}{t:TEd}{l h:TOd}
theorem z1l {i:Nat}{x:Str}{p:Pos}(ho:PE X (.Name x p) (tVar i))(hl:DO X lo l)(hh:DO X hi h):DE X (.Subscript (.Name x p) (.Slice lo hi none p2) pos) (q1y i l h):=by
 obtain⟨t2,p2,s2⟩:=hl;obtain⟨t3,p3,s3⟩:=hh;refine⟨_,y0y q4z ho p2 p3,fun io H0 F0 F δ σ H Q Qd I q k=>?_⟩;obtain⟨p0,q⟩:=q;obtain⟨d0,e0⟩:=isSome_iff_exists.mp p0;obtain⟨v0,ev,_⟩:=I.pk e0;refine⟨v0,ev,s2 io H0 F0 F δ σ H _ _ I q fun lo δ2 F2 H2 f2 I2 q2=>s3 io H0 F0 F2 δ2 σ H2 _ _ I2 q2 fun hi δ3 F3 H3 f3 I3 q3=>?_⟩;obtain⟨xs,e3,q3⟩:=q3;obtain⟨v,ev',pk⟩:=I3.pk e3;rw[ev]at ev';cases ev';obtain⟨a,vs,rfl,h1,r⟩:=pk.lst I3;exact⟨a,rfl,vs,h1,fun p hp=>k true _ _ δ3 F3 _ (f2.trans f3) (I3.newL hp (r.cut lo hi)) q3⟩
theorem z0z (he:DE X e t)(hl:DO X lo l)(hh:DO X hi h):DE X (.Subscript e (.Slice lo hi none p2) pos) (dSlS t l h):=by
 obtain⟨t1,p1,s1⟩:=he;obtain⟨t2,p2,s2⟩:=hl;obtain⟨t3,p3,s3⟩:=hh;refine⟨_,y0y j6v p1 p2 p3,fun io H0 F0 F δ σ H Q Qd I q k=>s1.fz I q fun d v δ1 F1 H1 f1 I1 r1 q1=>s2 io H0 F0 F1 δ1 σ H1 _ _ I1 q1 fun lo δ2 F2 H2 f2 I2 q2=>s3 io H0 F0 F2 δ2 σ H2 _ _ I2 q2 fun hi δ3 F3 H3 f3 I3 q3=>?_⟩;obtain⟨z,rfl,hz,q3⟩:=q3;exact⟨z,r1,hz,k false _ _ δ3 F3 _ ((f1.trans f2).trans f3) I3.pS q3⟩
def q9v (ta tb:TEd):TEd:=fun δ Q=>ta δ fun _ x δ1=>∃sep,x=.str sep/\tb δ1 fun _ y δ2=>∃ts:List Str,y=.lst (ts.map .str)/\JoinOk sep ts=true/\Q false (.str (join sep ts)) δ2
theorem y2h {a b:Expr}{ta tb:TEd}{apos cpos:Pos}(ha:DE X a ta)(hb:DE X b tb)
  (hbase:attributeBase a "join" X.env (eval a X.env)=eval a X.env:=by rfl)
  (hfew:((backTo cpos (starEach [b] X.env)).all (fun x=>!x.1)&&(backToKw cpos (keywordEach [] X.env)).all (fun x=>x.1.isSome)
  &&decide ([b].length+([]:List Keyword).length+(if ([]:List Keyword).isEmpty then 0 else 1)<30))=true:=by rfl)
  (hline:(apos.endLine == cpos.line)=true:=by rfl)(hst:starEach [b] X.env=(false,eval b X.env)::starEach [] X.env:=by rfl)(hplain:(backTo cpos (starEach [] X.env)).any (·.1)=false:=by rfl) :
  DE X (.Call (.Attribute a "join" apos) [b] [] cpos) (q9v ta tb):=by
 obtain⟨t1,p1,s1⟩:=ha;obtain⟨t2,p2,s2⟩:=hb;refine⟨_,x8q plainAttrs_str PySem.F.slot_str_join PySem.F.type_str_join q8i p1 (z0i p2 z0p hst) hbase hfew hline hst hplain,fun io H0 F0 F δ σ H Q Qd I q k=>s1.fz I q fun d v δ1 F1 H1 f1 I1 r1 q1=>?_⟩;obtain⟨sep,rfl,q1⟩:=q1;cases(show v=.str sep from r1);refine⟨rfl,s2.fz I1 q1 fun d v δ2 F2 H2 f2 I2 r2 q2=>?_⟩;obtain⟨ts,rfl,ok,q2⟩:=q2;obtain⟨a,vs,rfl,h1,r⟩:=r2;rw[r.strs]at h1;exact⟨sep,a,rfl,rfl,ts,I2.sub _ _ h1,ok,k false _ _ δ2 F2 H2 (f1.trans f2) I2.pS q2⟩
noncomputable def getS (kds:List (Key×D))(k:Str):Option D:=(kds.find? fun kv=>decide (kv.1=Sum.inr k)).map (·.2)
noncomputable def putS (kds:List (Key×D))(k:Str)(d:D):List (Key×D):=if (kds.any fun kv=>decide (kv.1=Sum.inr k))=true then kds.map (fun kv=>if kv.1=Sum.inr k then(kv.1,d) else kv) else kds++[(Sum.inr k,d)]
theorem RepK.val {F:Hp}(k:Str):∀{ds:List (Key×D)}{vs:List (Key×V)},RepK F ds vs->(∀d,getS ds k=some d->∃v,valV vs (Sum.inr k)=some v/\Rep F d v)/\(getS ds k=none->valV vs (Sum.inr k)=none)
 | [],vs,h=>by cases(show vs=[] from h);exact⟨fun d e=>by simp[getS]at e,fun _=>rfl⟩
 |(k',d)::ds,vs,h=>by
  obtain⟨⟨q1,q2⟩,r,rfl,⟨e1,r1⟩,h2⟩:=h;have ih:=RepK.val k h2;cases(show q1=k' from e1);by_cases hk:k' = Sum.inr k
  ·refine⟨fun d' e=>⟨q2,by simp[valV,hk],?_⟩,fun e=>by simp[getS,hk]at e⟩;simp[getS,hk]at e;subst e;exact r1
  ·refine⟨fun d' e=>?_,fun e=>?_⟩
   ·obtain⟨v,e2,r2⟩:=ih.1 d' (by simpa[getS,find?_cons,hk] using e);exact⟨v,by simpa[valV,find?_cons,hk] using e2,r2⟩
   ·have:=ih.2 (by simpa[getS,find?_cons,hk] using e);simpa[valV,find?_cons,hk] using this
theorem RepK.any {F:Hp}(k:Key):∀{ds:List (Key×D)}{vs:List (Key×V)},RepK F ds vs->(ds.any fun kv=>decide (kv.1=k))=(vs.any fun kv=>decide (kv.1=k))
 | [],vs,h=>by cases(show vs=[] from h);rfl
 |(k',d)::ds,vs,h=>by
  obtain⟨⟨q1,q2⟩,r,rfl,⟨e1,r1⟩,h2⟩:=h;cases(show q1=k' from e1);simp[RepK.any k h2]
theorem RepK.app {F:Hp}:∀{ds es:List (Key×D)}{vs us:List (Key×V)},RepK F ds vs->RepK F es us->RepK F (ds++es) (vs++us)
 | [],es,vs,us,h,h'=>by cases(show vs=[] from h);exact h'
 |d::ds,es,vs,us,h,h'=>by obtain⟨v,r,rfl,h1,h2⟩:=h;exact⟨v,r++us,rfl,h1,RepK.app h2 h'⟩
theorem RepK.upd {F:Hp}(k:Key){d:D}{v:V}(hv:Rep F d v):∀{ds:List (Key×D)}{vs:List (Key×V)},RepK F ds vs->RepK F (ds.map fun kv=>if kv.1=k then(kv.1,d) else kv) (vs.map fun kv=>if kv.1=k then(kv.1,v) else kv)
 | [],vs,h=>by cases(show vs=[] from h);rfl
 |(k',d')::ds,vs,h=>by
  obtain⟨⟨q1,q2⟩,r,rfl,⟨e1,r1⟩,h2⟩:=h;cases(show q1=k' from e1);refine⟨_,_,rfl,?_,RepK.upd k hv h2⟩;by_cases hk:k' = k
  ·simp only[hk,if_true];exact(show RepP F (k,d) (k,v) from⟨rfl,hv⟩)
  ·simp only[hk,if_false];exact(show RepP F (k',d') (k',q2) from⟨rfl,r1⟩)
theorem RepK.put {F:Hp}{ds:List (Key×D)}{vs:List (Key×V)}(r:RepK F ds vs)(k:Str){d:D}{v:V}(hv:Rep F d v):RepK F (putS ds k d) (putK vs (Sum.inr k) v):=by
 unfold putS putK;rw[r.any];split
 ·exact r.upd _ hv
 ·exact r.app ⟨_,[],rfl,⟨rfl,hv⟩,rfl⟩
def j6i:TEd:=fun δ Q=>Q true (.dct []) δ
def j6c (neg:Bool)(ti:TEd)(i:Nat):TEd:=fun δ Q=>ti δ fun _ y δ'=>∃kds k,peek δ' i=some (.dct kds)/\y=.str k/\Q false (.bl (if neg then !(getS kds k).isSome else(getS kds k).isSome)) δ'
def j5v (i:Nat)(ti tv:TEd):TSd:=fun E δ=>tv δ fun _ v δ1=>(peek δ1 i).isSome=true/\ti δ1 fun _ y δ2=>∃fl kds k,δ2[i]? = some (.ob fl (.dct kds))/\y=.str k/\kds.length<sizeLine/\E.nx (δ2.set i (.ob fl (.dct (putS kds k v))))
theorem x2a {F:Hp}:∀{ps:List (Str×D)}{ys:List V},Reps F (ps.map fun p=>D.tup [.str p.1,p.2]) ys->∃qs:List (Key×V),qs.length=ys.length/\(∀(i:Nat) y kv,ys[i]? = some y->qs[i]? = some kv->∃b,y=.ref b/\F b=some (.tup [kV kv.1,kv.2])) /\
  ∀(kds:List (Key×D))(kvs:List (Key×V)),RepK F kds kvs->RepK F (ps.foldl (fun acc p=>putS acc p.1 p.2) kds) (z7e kvs qs)
 | [],ys,h=>by cases(show ys=[] from h);exact⟨[],rfl,fun i y kv e=>by simp at e,fun _ _ r=>r⟩
 |(k,d)::ps,ys,h=>by
  obtain⟨y,r,rfl,⟨b,vs,rfl,hb,rv⟩,h2⟩:=h;obtain⟨v1,r1,rfl,e1,v2,r2,rfl,e2,e3⟩:=rv;cases(show v1=V.str k from e1);cases(show r2=[] from e3);obtain⟨qs,l,hq,hm⟩:=x2a h2;refine⟨(Sum.inr k,v2)::qs,by simp[l],fun i y kv g1 g2=>?_,fun kds kvs r=>hm _ _ (r.put k e2)⟩;cases i with
  |zero=>simp at g1 g2;subst g1 g2;exact⟨b,rfl,hb⟩
  |succ i=>exact hq i y kv (by simpa using g1) (by simpa using g2)
end
section
def dSlC (K:W.Frag)(i:Nat)(l h:TOd):TEd:=fun δ Q=>∃ns,δ[i]? = some (.sc K ns)/\l δ fun lo δ2=>h δ2 fun hi δ3=>Q true (.lst (cutD (ns.map .int) lo hi)) δ3
theorem q3i (ns:List Int)(lo hi:Option Int):∃ms:List Int,cutD (ns.map .int) lo hi=ms.map .int/\cutV (ns.map .int) lo hi=ms.map .int:=by
 refine⟨(ns.drop (HT.sIx ns.length 0 lo)).take (HT.sIx ns.length ns.length hi - HT.sIx ns.length 0 lo),?_,?_⟩
 ·unfold cutD;simp[map_take,map_drop]
 ·unfold cutV;simp[map_take,map_drop]
theorem y7a {F:Hp}:∀ms:List Int,Reps F (ms.map .int) (ms.map .int)
 | []=>rfl
 |m::ms=>⟨_,_,rfl,rfl,y7a ms⟩
variable {X:Cx}{pos p2:Pos}{lo hi:Option Expr}{l h:TOd}
theorem x9j {K:W.Frag}(hK:X.K=K){i:Nat}{x:Str}{p:Pos}(ho:PE X (.Name x p) (tVar i))(hl:DO X lo l)(hh:DO X hi h):DE X (.Subscript (.Name x p) (.Slice lo hi none p2) pos) (dSlC K i l h):=by
 subst hK;obtain⟨t2,p2,s2⟩:=hl;obtain⟨t3,p3,s3⟩:=hh;refine⟨_,y0y x6k ho p2 p3,fun io H0 F0 F δ σ H Q Qd I q k=>?_⟩;obtain⟨ns,e,q⟩:=q;obtain⟨a,ea,sq⟩:=I.get i _ e;refine⟨.ref a,z2n ea,s2 io H0 F0 F δ σ H _ _ I q fun lo δ2 F2 H2 f2 I2 q2=>s3 io H0 F0 F2 δ2 σ H2 _ _ I2 q2 fun hi δ3 F3 H3 f3 I3 q3=>?_⟩;refine⟨a,_,rfl,I3.sub.seq ((f2.trans f3).seq sq),fun p hp=>?_⟩;obtain⟨ms,e1,e2⟩:=q3i ns lo hi;rw[e1]at q3;rw[e2];exact k true _ _ δ3 F3 _ (f2.trans f3) (I3.newL hp (y7a ms)) q3
def q9q (ds:List D)(g:TGd)(tb:TSd)(E:EndsD)(δ:List Slot):Prop:=∃(fg:List Nat)(P:List D->List Slot->Prop),P ds (fgt fg δ) /\
 (∀d r δ,P (d::r) δ->g d δ fun δ2=>tb { E with nx:=fun δ'=>P r (fgt fg δ'),ct:=fun δ'=>P r (fgt fg δ'),bk:=E.nx } δ2)/\∀δ,P [] δ->E.nx δ
theorem y2a {di:TLd}{g:TGd}{tb:TSd}{E:EndsD}{δ:List Slot}:dFor di g tb E δ=di δ fun ds δ'=>q9q ds g tb E δ':=rfl
theorem x0j {ds:List D}{g:TGd}{tb:TSd}{E:EndsD}{δ:List Slot}(fg:List Nat)(P:List D->List Slot->Prop)(h0:P ds (fgt fg δ))(hs:∀d r δ,P (d::r) δ->g d δ fun δ2=>tb { E with nx:=fun δ'=>P r (fgt fg δ'),ct:=fun δ'=>P r (fgt fg δ'),bk:=E.nx } δ2)(hd:∀δ,P [] δ->E.nx δ):q9q ds g tb E δ:=⟨fg,P,h0,hs,hd⟩
end
section
theorem x7j (lo:Int)(n i:Nat)(h:i<n):(rngD lo n).drop i=.int (lo+i)::(rngD lo n).drop (i+1):=by
 have hl:i<(rngD lo n).length:=by simpa[rngD] using h
 rw[drop_eq_getElem_cons hl];simp[rngD]
theorem x4w {lo:Int}{n:Nat}{g:TGd}{tb:TSd}{E:EndsD}{δ:List Slot}(fg:List Nat)(P:Nat->List Slot->Prop)(h0:P 0 (fgt fg δ))(hs:∀i δ,i<n->P i δ->g (.int (lo+i)) δ fun δ2=>tb { E with nx:=fun δ'=>P (i+1) (fgt fg δ'),ct:=fun δ'=>P (i+1) (fgt fg δ'),bk:=E.nx } δ2)(hd:∀δ,P n δ->E.nx δ):q9q (rngD lo n) g tb E δ:=by
 have len:∀i,i<=n->((rngD lo n).drop i).length=n - i:=fun i _=>by simp[rngD]
 have key:∀i,i<=n->(fun δ=>(rngD lo n).drop i=(rngD lo n).drop (n - ((rngD lo n).drop i).length)/\P (n - ((rngD lo n).drop i).length) δ)=P i:=by
  intro i hi;funext δ;rw[len i hi,show n - (n - i)=i by omega];simp
 refine⟨fg,fun r δ=>r=(rngD lo n).drop (n - r.length)/\P (n - r.length) δ,?_,?_,?_⟩
 ·have:=congrFun (key 0 (zero_le _)) (fgt fg δ);simp only[drop_zero]at this;exact this.mpr h0
 ·rintro d r δ ⟨e,p⟩;have hlt:n - (d::r).length<n:=by
   have hle:(d::r).length<=n:=by
    rw[e];simp[rngD]
   simp at hle ⊢;omega
  generalize hi:n - (d::r).length=i at e p hlt;rw[x7j lo n i hlt]at e;cases e;have q:=hs i δ hlt p;rw[<-key (i+1) hlt]at q;exact q
 ·rintro δ ⟨_,p⟩;exact hd δ (by simpa using p)
def x6o (n:Nat)(ds:List D)(gd:TGd)(tc:TTd)(te:TEd)(Q:Bool->D->List Slot->Prop)(δ:List Slot):Prop:=∃P:List D->List D->List Slot->Prop,P ds [] δ /\
 (∀d r acc δ1,P (d::r) acc δ1->gd d (replicate n .no++δ1) fun δ2=>tc δ2 fun b δ3=>if b=true then te δ3 fun _ y δ4=>acc.length<sizeLine/\P r (acc++[y]) (δ4.drop n) else P r acc (δ3.drop n)) /\
 ∀acc δ1,P [] acc δ1->Q true (.lst acc) δ1
theorem z9p {n:Nat}{di:TLd}{gd:TGd}{tc:TTd}{te:TEd}{δ:List Slot}{Q:Bool->D->List Slot->Prop}:q2p n di gd tc te δ Q=di δ fun ds δ'=>x6o n ds gd tc te Q δ':=rfl
inductive All2 {α β:Type}(G:α->β->Prop):List α->List β->Prop
 |nil:All2 G [] []
 |cons {a b as bs}:G a b->All2 G as bs->All2 G (a::as) (b::bs)
theorem All2.snoc {α β:Type}{G:α->β->Prop}{as:List α}{bs:List β}{a:α}{b:β}(h:All2 G as bs)(h':G a b):All2 G (as++[a]) (bs++[b]):=by
 induction h with
 |nil=>exact .cons h' .nil
 |cons g _ ih=>exact .cons g ih
theorem All2.len {α β:Type}{G:α->β->Prop}{as:List α}{bs:List β}(h:All2 G as bs):as.length=bs.length:=by
 induction h with
 |nil=>rfl
 |cons _ _ ih=>simp[ih]
theorem comp1 {ds:List D}{te:TEd}{Q:Bool->D->List Slot->Prop}{δ:List Slot}(G:D->D->Prop)(hl:ds.length<=sizeLine)
  (h:∀d∈ds,∀P:D->List Slot->Prop,(∀y,G d y->P y (.fz d::δ))->te (.fz d::δ) fun _ y δ'=>P y δ')(q:∀ys,All2 G ds ys->Q true (.lst ys) δ):x6o 1 ds (dgN 0) dYes te Q δ:=by
 refine⟨fun r acc δ1=>δ1=δ/\∃pre,ds=pre++r/\All2 G pre acc,⟨rfl,[],rfl,.nil⟩,?_,?_⟩
 ·rintro d r acc δ1 ⟨rfl,pre,e,hp⟩;refine⟨trivial,?_⟩;unfold dYes;dsimp only;rw[if_pos rfl];have hl2:=hp.len;have hlen:pre.length<sizeLine:=by rw[e]at hl;simp at hl;omega
  refine h d (by rw[e];simp) (fun y δ4=>acc.length<sizeLine/\drop 1 δ4=δ1/\∃pre,ds=pre++r/\All2 G pre (acc++[y])) fun y hy=>?_;exact⟨by omega,rfl,pre++[d],by rw[e];simp,hp.snoc hy⟩
 ·rintro acc δ1 ⟨rfl,pre,e,hp⟩;simp at e;subst e;exact q acc hp
theorem j2t {ds:List D}{tc:TTd}{te:TEd}{Q:Bool->D->List Slot->Prop}{δ:List Slot}(c:D->Bool)(f:D->D)(hl:ds.length<=sizeLine)
  (hc:∀d∈ds,∀P:Bool->List Slot->Prop,P (c d) (.fz d::δ)->tc (.fz d::δ) P)
  (h:∀d∈ds,c d=true->∀P:D->List Slot->Prop,P (f d) (.fz d::δ)->te (.fz d::δ) fun _ y δ'=>P y δ')(q:Q true (.lst ((ds.filter c).map f)) δ):x6o 1 ds (dgN 0) tc te Q δ:=by
 refine⟨fun r acc δ1=>δ1=δ/\∃pre,ds=pre++r/\acc=(pre.filter c).map f,⟨rfl,[],rfl,rfl⟩,?_,?_⟩
 ·rintro d r acc δ1 ⟨rfl,pre,e,rfl⟩;refine⟨trivial,?_⟩;have hd:d∈ds:=by rw[e];simp
  have hlen:pre.length<sizeLine:=by rw[e]at hl;simp at hl;omega
  refine hc d hd _ ?_;cases hcd:c d with
  |false =>
   rw[if_neg Bool.false_ne_true];exact⟨rfl,pre++[d],by rw[e];simp,by simp[List.filter_append,hcd]⟩
  |true =>
   rw[if_pos rfl];refine h d hd hcd _ ⟨?_,rfl,pre++[d],by rw[e];simp,by simp[List.filter_append,hcd]⟩;have:=List.length_filter_le c pre;simp;omega
 ·rintro acc δ1 ⟨rfl,pre,e,rfl⟩;simp at e;subst e;exact q
theorem q9h {r:List Slot}:noIo (.no::r) 0=True:=rfl
theorem q8s {d:D}{r:List Slot}:noIo (.fz d::r) 0=True:=rfl
theorem j1p {d:D}{r:List Slot}:noIo (.ob false d::r) 0=True:=rfl
theorem j6h {s:Slot}{r:List Slot}{i:Nat}:noIo (s::r) (i+1)=noIo r i:=rfl
theorem z9s {c:D}:y7 (.ob true c)=.ob true c:=rfl
theorem z6l {c:D}:y7 (.fz c)=.no:=rfl
theorem z6n:y7 .no=.no:=rfl
theorem z7a {K:W.Frag}{c:List Int}:y7 (.sc K c)=.no:=rfl
theorem z4s {A:Around}{k:Nat}(hr:Room k A):A.units+100<cLine:=by have:=hr.un;omega
theorem x1b {α:Type}{xs:List α}{i:Int}(h0:0<=i)(h1:i<xs.length):∃d∈xs,atI xs i=some d:=by
 obtain⟨j,rfl⟩:=Int.eq_ofNat_of_zero_le h0;have hj:j<xs.length:=by omega
 exact⟨xs[j],getElem_mem hj,z2w (getElem?_eq_getElem hj)⟩
theorem z3y {a b:Int}(h:0<b):0<=a % b:=emod_nonneg _ (by omega)
theorem z3z {a b:Int}(h:0<b):a % b<b:=emod_lt_of_pos _ h
theorem z3t (xs:List D)(k:Nat):cutD xs none (some (k:Int))=xs.take k:=by
 unfold cutD;rw[HT.sIx_none,HT.sIx_nat,drop_zero,sub_zero];by_cases h:k<=xs.length
 ·rw[min_eq_left h]
 ·rw[min_eq_right (by omega),take_of_length_le (le_refl _),take_of_length_le (by omega)]
theorem z4i (xs:List D)(k:Nat):cutD xs (some (k:Int)) none=xs.drop k:=by
 unfold cutD;rw[HT.sIx_none,HT.sIx_nat];by_cases h:k<=xs.length
 ·rw[min_eq_left h,take_of_length_le (by rw[length_drop];exact le_refl _)]
 ·rw[min_eq_right (by omega),drop_of_length_le (le_refl _),drop_of_length_le (by omega)];simp
noncomputable def getK (i:Nat)(δ:List Slot)(k:Slot->Prop):Prop:=match δ[i]? with|some s=>k s|none=>False
theorem q7d {s:Slot}{r:List Slot}{k:Slot->Prop}:getK 0 (s::r) k=k s:=rfl
theorem q5o {i:Nat}{s:Slot}{r:List Slot}{k:Slot->Prop}:getK (i+1) (s::r) k=getK i r k:=rfl
def setK (i:Nat)(s:Slot)(δ:List Slot)(k:List Slot->Prop):Prop:=k (δ.set i s)
theorem q4p {s x:Slot}{r:List Slot}{k:List Slot->Prop}:setK 0 s (x::r) k=k (s::r):=rfl
theorem q4s {i:Nat}{s x:Slot}{r:List Slot}{k:List Slot->Prop}:setK (i+1) s (x::r) k=setK i s r fun r'=>k (x::r'):=rfl
def setW (i:Nat)(s:Slot)(δ:List Slot)(k:List Slot->Prop):Prop:=noIo δ i/\k (δ.set i s)
theorem y1x {s:Slot}{r:List Slot}{k:List Slot->Prop}:setW 0 s (.no::r) k=k (s::r):=by simp[setW,q9h]
theorem x8k {s:Slot}{d:D}{r:List Slot}{k:List Slot->Prop}:setW 0 s (.fz d::r) k=k (s::r):=by simp[setW,q8s]
theorem y1g {s:Slot}{d:D}{r:List Slot}{k:List Slot->Prop}:setW 0 s (.ob false d::r) k=k (s::r):=by simp[setW,j1p]
theorem q6z {i:Nat}{s x:Slot}{r:List Slot}{k:List Slot->Prop}:setW (i+1) s (x::r) k=setW i s r fun r'=>k (x::r'):=by simp[setW,j6h]
def varS (s:Slot)(a b:D->Prop):Prop:=match s with | .fz d=>a d | .ob false c=>b c|_=>False
theorem y2j {d:D}{a b:D->Prop}:varS (.fz d) a b=a d:=rfl
theorem x9u {d:D}{a b:D->Prop}:varS (.ob false d) a b=b d:=rfl
noncomputable def pkS (s:Slot)(k:D->Prop):Prop:=match s with | .fz d=>k d | .ob _ c=>k c|_=>False
theorem q5t {d:D}{k:D->Prop}:pkS (.fz d) k=k d:=rfl
theorem q4d {b:Bool}{d:D}{k:D->Prop}:pkS (.ob b d) k=k d:=rfl
def obK (s:Slot)(k:Bool->D->Prop):Prop:=match s with | .ob b c=>k b c|_=>False
theorem q5a {b:Bool}{d:D}{k:Bool->D->Prop}:obK (.ob b d) k=k b d:=rfl
def scK (K:W.Frag)(s:Slot)(k:List Int->Prop):Prop:=∃ns,s=.sc K ns/\k ns
theorem q6n {K:W.Frag}{ns:List Int}{k:List Int->Prop}:scK K (.sc K ns) k=k ns:=by simp[scK]
noncomputable def ioK:List Slot->(D->Prop)->Prop
 |.ob true c::_,k=>k c
 |_::r,k=>ioK r k
 | [],_=>False
theorem j7o {c:D}{r:List Slot}{k:D->Prop}:ioK (.ob true c::r) k=k c:=rfl
theorem q5c {r:List Slot}{k:D->Prop}:ioK (.no::r) k=ioK r k:=rfl
theorem y8k:∀{δ:List Slot}{k:D->Prop},(∃c,y4o δ=some c/\k c)=ioK δ k
 | [],k=>by simp[y4o,ioK]
 |.no::r,k=>by simpa[y4o,ioK] using y8k (δ:=r) (k:=k)
 |.fz _::r,k=>by simpa[y4o,ioK] using y8k (δ:=r) (k:=k)
 |.sc _ _::r,k=>by simpa[y4o,ioK] using y8k (δ:=r) (k:=k)
 |.ob false _::r,k=>by simpa[y4o,ioK] using y8k (δ:=r) (k:=k)
 |.ob true c::r,k=>by simp[y4o,ioK]
def intK (d:D)(k:Int->Prop):Prop:=match d with | .int x=>k x|_=>False
theorem q6h {x:Int}{k:Int->Prop}:intK (.int x) k=k x:=rfl
theorem x0d {d:D}{k:Int->Prop}:(∃x,d=.int x/\k x)=intK d k:=by cases d<;>simp[intK]
def strK (d:D)(k:Str->Prop):Prop:=match d with | .str x=>k x|_=>False
theorem q3r {x:Str}{k:Str->Prop}:strK (.str x) k=k x:=rfl
theorem y0d {d:D}{k:Str->Prop}:(∃x,d=.str x/\k x)=strK d k:=by cases d<;>simp[strK]
def blK (d:D)(k:Bool->Prop):Prop:=match d with | .bl x=>k x|_=>False
theorem j5z {x:Bool}{k:Bool->Prop}:blK (.bl x) k=k x:=rfl
theorem x4v {d:D}{k:Bool->Prop}:(∃x,d=.bl x/\k x)=blK d k:=by cases d<;>simp[blK]
def lstK (d:D)(k:List D->Prop):Prop:=match d with | .lst x=>k x|_=>False
theorem q6t {x:List D}{k:List D->Prop}:lstK (.lst x) k=k x:=rfl
theorem y5o {d:D}{k:List D->Prop}:(∃x,d=.lst x/\k x)=lstK d k:=by cases d<;>simp[lstK]
def dctK (d:D)(k:List (Key×D)->Prop):Prop:=match d with | .dct x=>k x|_=>False
theorem q6l {x:List (Key×D)}{k:List (Key×D)->Prop}:dctK (.dct x) k=k x:=rfl
theorem x6c {d:D}{k:List (Key×D)->Prop}:(∃x,d=.dct x/\k x)=dctK d k:=by cases d<;>simp[dctK]
theorem z7o {δ:List Slot}{i:Nat}{k:D->Prop}:(∃d,peek δ i=some d/\k d)=getK i δ fun s=>pkS s k:=by
 unfold peek getK;cases δ[i]? with
 |none=>simp
 |some s=>cases s<;>simp[pkS]
theorem y0b {δ:List Slot}{i:Nat}{P:Prop}:((peek δ i).isSome=true/\P)=getK i δ fun s=>pkS s fun _=>P:=by
 unfold peek getK;cases δ[i]? with
 |none=>simp
 |some s=>cases s<;>simp[pkS]
theorem x1m {δ:List Slot}{i:Nat}{k:Bool->D->Prop}:(∃fl c,δ[i]? = some (.ob fl c)/\k fl c)=getK i δ fun s=>obK s k:=by
 unfold getK;cases δ[i]? with
 |none=>simp
 |some s =>
  apply propext;constructor
  ·rintro⟨fl,c,e,h⟩;cases e;exact h
  ·intro h;cases s with
   |ob b c=>exact⟨b,c,rfl,h⟩
   |_=>exact h.elim
variable {δ:List Slot}{E:EndsD}{Q:Bool->D->List Slot->Prop}{QT:Bool->List Slot->Prop}{QL:List D->List Slot->Prop}{QS:List Slot->Prop}{Q2:Bool->D->Prop}{QM:D->D->Prop}{QA:List (Option D)->List Slot->Prop}{QO:Option Int->List Slot->Prop}{t u:TSd}{ta tb td te tv ti:TEd}{tt tu tc:TTd}{ul:TLd}{ua:TAd}{l h:TOd}{g gd:TGd}{gs:TGsd}{i j n:Nat}{d:D}
theorem j3a:dSeq t u E δ=t { E with nx:=u E } δ:=rfl
theorem q5f:q7p E δ=E.nx δ:=rfl
theorem j3x:dRet td E δ=td δ E.rt:=rfl
theorem x7t:x6a E δ=False:=rfl
theorem q6o:j2a td E δ=td δ fun _ _ δ'=>E.nx δ':=rfl
theorem v_if:dIfS tt t u E δ=tt δ fun b δ'=>if b=true then t E δ' else u E δ':=rfl
theorem j4y:dSet i td E δ=td δ fun b d δ'=>setW i (rsl b d) δ' E.nx:=rfl
theorem v_c:dC d δ Q=Q false d δ:=rfl
theorem j3t:dVar i δ Q=getK i δ fun s=>varS s (fun d=>Q false d δ) fun c=>setK i (.fz c) δ fun δ'=>Q false c δ':=by
 unfold dVar getK;cases δ[i]? with
 |none=>rfl
 |some s=>cases s with
  |ob b c=>cases b<;>rfl
  |_=>rfl
theorem v_mv:dMv i δ Q=getK i δ fun s=>varS s (fun d=>Q false d δ) fun c=>setK i .no δ fun δ'=>Q true c δ':=by
 unfold dMv getK;cases δ[i]? with
 |none=>rfl
 |some s=>cases s with
  |ob b c=>cases b<;>rfl
  |_=>rfl
variable {f:D->D->(Bool->D->Prop)->Prop}
theorem v_op:dOp f ta tb δ Q=ta δ fun _ x δ1=>tb δ1 fun _ y δ2=>f x y fun b d=>Q b d δ2:=rfl
theorem j6g:dOpV f i tb δ Q=getK i δ fun s=>pkS s fun _=>tb δ fun _ y δ2=>getK i δ2 fun s=>pkS s fun x=>f x y fun b d=>Q b d δ2:=by
 unfold dOpV;rw[y0b];simp only[z7o]
theorem j3p:dOpW f ta j δ Q=ta δ fun _ x δ1=>getK j δ1 fun s=>pkS s fun y=>f x y fun b d=>Q b d δ1:=by
 unfold dOpW;simp only[z7o]
theorem q5s:y8x td δ QT=td δ fun _ d δ'=>blK d fun c=>QT c δ':=by unfold y8x;simp only[x4v]
theorem j7l:dNot tt δ QT=tt δ fun c δ'=>QT (!c) δ':=rfl
theorem j5o:dAnd tt tu δ QT=tt δ fun c δ'=>if c=true then tu δ' QT else QT false δ':=rfl
theorem v_or:dOr tt tu δ QT=tt δ fun c δ'=>if c=true then QT true δ' else tu δ' QT:=rfl
def truK (d:D)(k:Bool->Prop):Prop:=∃c,truD d=some c/\k c
theorem z9t {xs:List D}{k:Bool->Prop}:truK (.lst xs) k=k (!xs.isEmpty):=propext ⟨fun⟨c,e,h⟩=>by cases e;exact h,fun h=>⟨_,rfl,h⟩⟩
theorem q5j:j0u i δ QT=getK i δ fun s=>pkS s fun d=>truK d fun c=>QT c δ:=by
 unfold j0u;rw[<-z7o];simp only[truK,exists_and_left,and_assoc]
theorem q6q:q8h ta tb δ Q=ta δ fun _ x δ'=>blK x fun c=>if c=true then tb δ' Q else Q false (.bl false) δ':=by unfold q8h;simp only[x4v]
theorem q6w:q7s ta δ Q=ta δ fun _ x δ'=>blK x fun c=>Q false (.bl (!c)) δ':=by unfold q7s;simp only[x4v]
theorem j7h:dIf tt ta tb δ Q=tt δ fun c δ'=>if c=true then ta δ' Q else tb δ' Q:=rfl
theorem j4x:dNil δ QL=QL [] δ:=rfl
theorem q7e:j1a td ul δ QL=td δ fun _ d δ'=>ul δ' fun ds δ''=>QL (d::ds) δ'':=rfl
theorem j7j:dTup ul δ Q=ul δ fun ds δ'=>ds.length<=sizeLine/\Q false (.tup ds) δ':=rfl
theorem j7d:dLst ul δ Q=ul δ fun ds δ'=>ds.length<=sizeLine/\Q true (.lst ds) δ':=rfl
variable {fc:List D->(Bool->D->Prop)->Prop}{fm:D->List D->(D->D->Prop)->Prop}
theorem v_CB:dCB fc ul δ Q=ul δ fun ds δ'=>fc ds fun b d=>Q b d δ':=rfl
theorem j5b:dCBV fc i δ Q=getK i δ fun s=>pkS s fun d=>fc [d] fun b d=>Q b d δ:=by unfold dCBV;rw[z7o]
def isLK (d:D)(P:Prop):Prop:=match d with | .lst _=>P|_=>False
theorem q4i {xs:List D}{P:Prop}:isLK (.lst xs) P=P:=rfl
theorem v_mt:dMt fm i ul δ Q=getK i δ fun s=>pkS s fun d=>isLK d (ul δ fun ds δ'=>getK i δ' fun s=>obK s fun fl c=>fm c ds fun c' d=>setK i (.ob fl c') δ' fun δ''=>Q false d δ''):=by
 unfold dMt;simp only[x1m,setK];unfold peek getK;cases δ[i]? with
 |none=>simp
 |some s=>cases s with
  |no=>simp[pkS]
  |sc K ns=>simp[pkS]
  |fz d=>cases d<;>simp[pkS,isLK,isL]
  |ob b d=>cases d<;>simp[pkS,isLK,isL]
theorem v_gN:dgN i d δ QS=setW i (.fz d) δ QS:=rfl
theorem y2f {a b:D}:y7r 2 gs (.tup [a,b]) δ QS=gs [a,b] δ QS:=by simp[y7r]
theorem y1v {a b c:D}:y7r 3 gs (.tup [a,b,c]) δ QS=gs [a,b,c] δ QS:=by simp[y7r]
theorem y1f {r:List D}:y4c g gs (d::r) δ QS=g d δ fun δ'=>gs r δ' QS:=propext ⟨fun⟨_,_,e,h⟩=>by cases e;exact h,fun h=>⟨_,_,rfl,h⟩⟩
theorem q6c:x3p [] δ QS=QS δ:=by simp[x3p]
theorem j4e:dAsg td g E δ=td δ fun _ d δ'=>g d δ' E.nx:=rfl
theorem q7l:q7w i ti tv E δ=tv δ fun _ v δ1=>getK i δ1 fun s=>pkS s fun _=>ti δ1 fun _ y δ2=>getK i δ2 fun s=>obK s fun fl c=>lstK c fun xs=>intK y fun k=>∃j,ixN xs.length k=some j/\setK i (.ob fl (.lst (xs.set j v))) δ2 E.nx:=by
 unfold q7w;simp only[y0b];have key:∀(δ2:List Slot)(y v:D),(∃fl xs k j,δ2[i]? = some (.ob fl (.lst xs))/\y=.int k/\ixN xs.length k=some j/\E.nx (δ2.set i (.ob fl (.lst (xs.set j v)))))=(getK i δ2 fun s=>obK s fun fl c=>lstK c fun xs=>intK y fun k=>∃j,ixN xs.length k=some j/\setK i (.ob fl (.lst (xs.set j v))) δ2 E.nx):=by
  intro δ2 y v;simp only[<-x1m,<-y5o,<-x0d,setK];apply propext;constructor
  ·rintro⟨fl,xs,k,j,e,rfl,h1,h2⟩;exact⟨fl,_,e,xs,rfl,k,rfl,j,h1,h2⟩
  ·rintro⟨fl,_,e,xs,rfl,k,rfl,j,h1,h2⟩;exact⟨fl,xs,k,j,e,rfl,h1,h2⟩
 simp only[key]
theorem x7x:x8a td δ QL=td δ fun _ d δ'=>lstK d fun ds=>QL ds δ':=by unfold x8a;simp only[y5o]
noncomputable def j1t (ds:List D)(k:Int->Prop):Prop:=match ds with | [.int j]=>k j|_=>False
theorem y1i {j:Int}{k:Int->Prop}:j1t [.int j] k=k j:=rfl
theorem y2o:x5t ul δ QL=ul δ fun ds δ'=>j1t ds fun j=>-(2 ^ 62)<=j/\j<2 ^ 62/\QL (rngD 0 j.toNat) δ':=by
 unfold x5t;congr 1;funext ds δ';apply propext;constructor
 ·rintro⟨j,rfl,h⟩;exact h
 ·intro h;unfold j1t at h;split at h
  ·exact⟨_,rfl,h⟩
  ·exact h.elim
inductive Beh (Q:Bool->D->List Slot->Prop):Type|mk
def hold (R:RD)(Q:Bool->D->List Slot->Prop)(_:Beh Q)(δ:List Slot):Prop:=R δ Q
variable {R:RD}
theorem q3z:q0q R ul δ Q=ul δ fun ds δ'=>hold R (fun b d _=>Q b d δ') .mk (ds.map .fz):=rfl
theorem q5p:j4j δ QA=QA [] δ:=rfl
theorem v_aV:daV td ua δ QA=td δ fun _ d δ'=>ua δ' fun os δ''=>QA (some d::os) δ'':=rfl
theorem v_aO:daO ua δ QA=ua δ fun os δ''=>QA (none::os) δ'':=rfl
theorem z9j:y2l R i ua δ Q=getK i δ fun s=>pkS s fun _=>ua δ fun os δ'=>getK i δ' fun s=>obK s fun fl c=>(os.filter isNone).length=1/\hold R (fun b d δ2=>ioK δ2 fun c'=>setK i (.ob fl c') δ' fun δ''=>Q b d δ'') .mk (os.map (z6o c)):=by
 unfold y2l hold;rw[y0b];simp only[x1m,y8k,setK]
theorem v_oN:doN δ QO=QO none δ:=rfl
theorem v_oS:doS td δ QO=td δ fun _ d δ'=>intK d fun i=>QO (some i) δ':=by unfold doS;simp only[x0d]
theorem q5y:q1y i l h δ Q=getK i δ fun s=>pkS s fun _=>l δ fun lo δ2=>h δ2 fun hi δ3=>getK i δ3 fun s=>pkS s fun d=>lstK d fun xs=>Q true (.lst (cutD xs lo hi)) δ3:=by
 unfold q1y;rw[y0b];have key:∀(δ3:List Slot) lo hi,(∃xs,peek δ3 i=some (.lst xs)/\Q true (.lst (cutD xs lo hi)) δ3)=(getK i δ3 fun s=>pkS s fun d=>lstK d fun xs=>Q true (.lst (cutD xs lo hi)) δ3):=by
  intro δ3 lo hi;simp only[<-z7o,<-y5o];apply propext;constructor
  ·rintro⟨xs,e,h⟩;exact⟨_,e,xs,rfl,h⟩
  ·rintro⟨_,e,xs,rfl,h⟩;exact⟨xs,e,h⟩
 simp only[key]
theorem j3w:dSlS td l h δ Q=td δ fun _ d δ1=>l δ1 fun lo δ2=>h δ2 fun hi δ3=>strK d fun z=>z.length<=sizeLine/\Q false (.str (Txt.slice z lo hi)) δ3:=by unfold dSlS;simp only[y0d]
theorem j3h {K:W.Frag}:dSlC K i l h δ Q=getK i δ fun s=>scK K s fun ns=>l δ fun lo δ2=>h δ2 fun hi δ3=>Q true (.lst (cutD (ns.map .int) lo hi)) δ3:=by
 unfold dSlC getK scK;cases δ[i]?<;>simp
theorem q7a:q9v ta tb δ Q=ta δ fun _ x δ1=>strK x fun sep=>tb δ1 fun _ y δ2=>∃ts:List Str,y=.lst (ts.map .str)/\JoinOk sep ts=true/\Q false (.str (join sep ts)) δ2:=by unfold q9v;simp only[y0d]
theorem y1o:j6i δ Q=Q true (.dct []) δ:=rfl
theorem j3n {neg:Bool}:j6c neg ti i δ Q=ti δ fun _ y δ'=>getK i δ' fun s=>pkS s fun c=>dctK c fun kds=>strK y fun k=>Q false (.bl (if neg then !(getS kds k).isSome else(getS kds k).isSome)) δ':=by
 unfold j6c;have key:∀(δ':List Slot)(y:D),(∃kds k,peek δ' i=some (.dct kds)/\y=.str k/\Q false (.bl (if neg then !(getS kds k).isSome else(getS kds k).isSome)) δ')=(getK i δ' fun s=>pkS s fun c=>dctK c fun kds=>strK y fun k=>Q false (.bl (if neg then !(getS kds k).isSome else(getS kds k).isSome)) δ'):=by
  intro δ' y;simp only[<-z7o,<-x6c,<-y0d];apply propext;constructor
  ·rintro⟨kds,k,e,rfl,h⟩;exact⟨_,e,kds,rfl,k,rfl,h⟩
  ·rintro⟨_,e,kds,rfl,k,rfl,h⟩;exact⟨kds,k,e,rfl,h⟩
 simp only[key]
theorem q4x:j5v i ti tv E δ=tv δ fun _ v δ1=>getK i δ1 fun s=>pkS s fun _=>ti δ1 fun _ y δ2=>getK i δ2 fun s=>obK s fun fl c=>dctK c fun kds=>strK y fun k=>kds.length<sizeLine/\setK i (.ob fl (.dct (putS kds k v))) δ2 E.nx:=by
 unfold j5v;simp only[y0b];have key:∀(δ2:List Slot)(y v:D),(∃fl kds k,δ2[i]? = some (.ob fl (.dct kds))/\y=.str k/\kds.length<sizeLine/\E.nx (δ2.set i (.ob fl (.dct (putS kds k v)))))=(getK i δ2 fun s=>obK s fun fl c=>dctK c fun kds=>strK y fun k=>kds.length<sizeLine/\setK i (.ob fl (.dct (putS kds k v))) δ2 E.nx):=by
  intro δ2 y v;simp only[<-x1m,<-x6c,<-y0d,setK];apply propext;constructor
  ·rintro⟨fl,kds,k,e,rfl,h⟩;exact⟨fl,_,e,kds,rfl,k,rfl,h⟩
  ·rintro⟨fl,_,e,kds,rfl,k,rfl,h⟩;exact⟨fl,kds,k,e,rfl,h⟩
 simp only[key]
variable {x y:Int}{z z':Str}{xs ys:List D}{b b':Bool}
theorem v_I {g:Int->Int->D}:fI g (.int x) (.int y) Q2=Q2 false (g x y):=by simp[fI]
theorem v_Ic {C:Int->Int->Prop}{g:Int->Int->D}:fIc C g (.int x) (.int y) Q2=(C x y/\Q2 false (g x y)):=by simp[fIc]
theorem y4e {P:Bool->Prop}{a:Bool}:(∃b,some a=some b/\P b)=P a:=by simp
theorem y1y:fEq (.int x) (.int y) Q2=Q2 false (.bl (decide (x=y))):=y4e (P:=fun b=>Q2 false (.bl b))
theorem y1t:fEq (.str z) (.str z') Q2=Q2 false (.bl (decide (z=z'))):=y4e (P:=fun b=>Q2 false (.bl b))
theorem x9y:fNe (.int x) (.int y) Q2=Q2 false (.bl (!decide (x=y))):=y4e (P:=fun b=>Q2 false (.bl (!b)))
theorem y2m:fNe (.str z) (.str z') Q2=Q2 false (.bl (!decide (z=z'))):=y4e (P:=fun b=>Q2 false (.bl (!b)))
theorem y1r:fNe (.bl b) (.bl b') Q2=Q2 false (.bl (!decide (b=b'))):=y4e (P:=fun b=>Q2 false (.bl (!b)))
theorem j3z:fIsN d .non Q2=Q2 false (.bl (isNon d)):=by simp[fIsN]
theorem z6p:isNon .non=true:=rfl
theorem z7n:isNon (.tup xs)=false:=rfl
theorem q6g:j0z (.str z) (.str z') Q2=(z.length+z'.length<=sizeLine/\Q2 false (.str (z++z'))):=by simp[j0z]
theorem j3v:fCat (.lst xs) (.lst ys) Q2=(xs.length+ys.length<=sizeLine/\Q2 true (.lst (xs++ys))):=by simp[fCat]
theorem j5i:fIxL (.lst xs) (.int x) Q2 = ∃d,atI xs x=some d/\Q2 false d:=by simp[fIxL]
theorem q4w {a:D}{r:List D}:fIxT (.tup (a::r)) (.int 0) Q2=Q2 false a:=by simp[fIxT,atI0]
theorem q7o {a b:D}{r:List D}:fIxT (.tup (a::b::r)) (.int 1) Q2=Q2 false b:=by simp[fIxT,atI1]
theorem j2w:fIxS (.str z) (.int x) Q2=(z.length<=sizeLine/\∃c,atI z.cps.toList x=some c/\Q2 false (.str ⟨#[c]⟩)):=by simp[fIxS]
theorem q4m:fIxQ (.lst xs) (.int x) Q2 = ∃d,atI xs x=some d/\Q2 false d:=by simp[fIxQ]
theorem q6m:fIxQ (.tup xs) (.int x) Q2 = ∃d,atI xs x=some d/\Q2 false d:=by simp[fIxQ]
theorem q6p:fEqL (.lst xs) (.lst []) Q2=Q2 false (.bl xs.isEmpty):=by
 cases xs with
 |nil=>simp[fEqL,eqbL,depL]
 |cons a r=>simp[fEqL]
theorem q7c:fNeL (.lst xs) (.lst []) Q2=Q2 false (.bl (!xs.isEmpty)):=by
 cases xs with
 |nil=>simp[fNeL,eqbL,depL]
 |cons a r=>simp[fNeL]
theorem z5z {ks ks':List Str}(h:ks.map D.str=ks'.map D.str):ks=ks':=by
 induction ks generalizing ks' with
 |nil=>cases ks' with
  |nil=>rfl
  |cons a r=>simp at h
 |cons a r ih=>cases ks' with
  |nil=>simp at h
  |cons a' r'=>simp at h;rw[h.1,ih h.2]
theorem j6o {ks:List Str}:fInL (.str z) (.lst (ks.map .str)) Q2=Q2 false (.bl (decide (z∈ks))):=by
 apply propext;constructor
 ·rintro⟨k,ks',e1,e2,h⟩;cases e1;have e2:=z5z (D.lst.inj e2);subst e2;exact h
 ·intro h;exact⟨z,ks,rfl,rfl,h⟩
theorem z9c {ks:List Str}:x6w (.str z) (.lst (ks.map .str)) Q2=Q2 false (.bl (!decide (z∈ks))):=by
 apply propext;constructor
 ·rintro⟨k,ks',e1,e2,h⟩;cases e1;have e2:=z5z (D.lst.inj e2);subst e2;exact h
 ·intro h;exact⟨z,ks,rfl,rfl,h⟩
theorem q4b {a b:Str}:fInT (.str z) (.tup [.str a,.str b]) Q2=Q2 false (.bl (decide (z=a\/z=b))):=by
 apply propext;constructor
 ·rintro⟨k,ks',e1,e2,h⟩;cases e1;have e2:=z5z (ks:=[a,b]) (D.tup.inj e2);subst e2;simpa using h
 ·intro h;exact⟨z,[a,b],rfl,rfl,by simpa using h⟩
theorem q6v {a b c:Str}:fInT (.str z) (.tup [.str a,.str b,.str c]) Q2=Q2 false (.bl (decide (z=a\/z=b\/z=c))):=by
 apply propext;constructor
 ·rintro⟨k,ks',e1,e2,h⟩;cases e1;have e2:=z5z (ks:=[a,b,c]) (D.tup.inj e2);subst e2;simpa using h
 ·intro h;exact⟨z,[a,b,c],rfl,rfl,by simpa using h⟩
theorem q6f:q8k [.lst xs] Q2=Q2 false (.int xs.length):=by simp[q8k]
theorem q7f:q9m [.str z] Q2=(z.length<=sizeLine/\Q2 false (.int z.length)):=by simp[q9m]
theorem x6l:x9d [.lst xs] Q2=Q2 false (.int xs.length):=by simp[x9d]
theorem x5j:x9d [.tup xs] Q2=Q2 false (.int xs.length):=by simp[x9d]
theorem z9d:y5s [.lst xs] Q2=Q2 true (.lst xs):=by simp[y5s]
theorem x9z:j1n [.bl b] Q2=Q2 false (.int (if b then 1 else 0)):=by simp[j1n]
theorem z9q:y9z (.lst xs) [d] QM=(xs.length<sizeLine/\QM (.lst (xs++[d])) .non):=by simp[y9z]
theorem z9g:x0o (.lst xs) [.lst ys] QM=(xs.length+ys.length<=sizeLine/\QM (.lst (xs++ys)) .non):=by simp[x0o]
theorem j4w:fPop (.lst xs) [] QM = ∃d,xs[xs.length - 1]? = some d/\QM (.lst xs.dropLast) d:=by simp[fPop]
theorem j4u:rsl true d=.ob false d:=rfl
theorem j7p:rsl false d=.fz d:=rfl
theorem z4m:fIsI [(.int x),.ty "str"] Q2=Q2 false (.bl false):=by
 apply propext;constructor
 ·rintro⟨_,_,e,_,_,h⟩;cases e;exact h
 ·exact fun h=>⟨_,_,rfl,(show("int":String) ≠ "type" by decide),by decide,h⟩
theorem z4l:fIsI [(.int x),.ty "int"] Q2=Q2 false (.bl true):=by
 apply propext;constructor
 ·rintro⟨_,_,e,_,_,h⟩;cases e;exact h
 ·exact fun h=>⟨_,_,rfl,(show("int":String) ≠ "type" by decide),by decide,h⟩
theorem z3q:fIsI [(.int x),.ty "bool"] Q2=Q2 false (.bl false):=by
 apply propext;constructor
 ·rintro⟨_,_,e,_,_,h⟩;cases e;exact h
 ·exact fun h=>⟨_,_,rfl,(show("int":String) ≠ "type" by decide),by decide,h⟩
theorem z3w:fIsI [(.int x),.ty "list"] Q2=Q2 false (.bl false):=by
 apply propext;constructor
 ·rintro⟨_,_,e,_,_,h⟩;cases e;exact h
 ·exact fun h=>⟨_,_,rfl,(show("int":String) ≠ "type" by decide),by decide,h⟩
theorem z3c:fIsI [(.int x),.ty "tuple"] Q2=Q2 false (.bl false):=by
 apply propext;constructor
 ·rintro⟨_,_,e,_,_,h⟩;cases e;exact h
 ·exact fun h=>⟨_,_,rfl,(show("int":String) ≠ "type" by decide),by decide,h⟩
theorem z4k:fIsI [(.str z),.ty "str"] Q2=Q2 false (.bl true):=by
 apply propext;constructor
 ·rintro⟨_,_,e,_,_,h⟩;cases e;exact h
 ·exact fun h=>⟨_,_,rfl,(show("str":String) ≠ "type" by decide),by decide,h⟩
theorem z4e:fIsI [(.str z),.ty "int"] Q2=Q2 false (.bl false):=by
 apply propext;constructor
 ·rintro⟨_,_,e,_,_,h⟩;cases e;exact h
 ·exact fun h=>⟨_,_,rfl,(show("str":String) ≠ "type" by decide),by decide,h⟩
theorem z3o:fIsI [(.str z),.ty "bool"] Q2=Q2 false (.bl false):=by
 apply propext;constructor
 ·rintro⟨_,_,e,_,_,h⟩;cases e;exact h
 ·exact fun h=>⟨_,_,rfl,(show("str":String) ≠ "type" by decide),by decide,h⟩
theorem z3u:fIsI [(.str z),.ty "list"] Q2=Q2 false (.bl false):=by
 apply propext;constructor
 ·rintro⟨_,_,e,_,_,h⟩;cases e;exact h
 ·exact fun h=>⟨_,_,rfl,(show("str":String) ≠ "type" by decide),by decide,h⟩
theorem z3e:fIsI [(.str z),.ty "tuple"] Q2=Q2 false (.bl false):=by
 apply propext;constructor
 ·rintro⟨_,_,e,_,_,h⟩;cases e;exact h
 ·exact fun h=>⟨_,_,rfl,(show("str":String) ≠ "type" by decide),by decide,h⟩
theorem z4f:fIsI [(.lst xs),.ty "str"] Q2=Q2 false (.bl false):=by
 apply propext;constructor
 ·rintro⟨_,_,e,_,_,h⟩;cases e;exact h
 ·exact fun h=>⟨_,_,rfl,(show("list":String) ≠ "type" by decide),by decide,h⟩
theorem z4h:fIsI [(.lst xs),.ty "int"] Q2=Q2 false (.bl false):=by
 apply propext;constructor
 ·rintro⟨_,_,e,_,_,h⟩;cases e;exact h
 ·exact fun h=>⟨_,_,rfl,(show("list":String) ≠ "type" by decide),by decide,h⟩
theorem z3n:fIsI [(.lst xs),.ty "bool"] Q2=Q2 false (.bl false):=by
 apply propext;constructor
 ·rintro⟨_,_,e,_,_,h⟩;cases e;exact h
 ·exact fun h=>⟨_,_,rfl,(show("list":String) ≠ "type" by decide),by decide,h⟩
theorem z3l:fIsI [(.lst xs),.ty "list"] Q2=Q2 false (.bl true):=by
 apply propext;constructor
 ·rintro⟨_,_,e,_,_,h⟩;cases e;exact h
 ·exact fun h=>⟨_,_,rfl,(show("list":String) ≠ "type" by decide),by decide,h⟩
theorem z3d:fIsI [(.lst xs),.ty "tuple"] Q2=Q2 false (.bl false):=by
 apply propext;constructor
 ·rintro⟨_,_,e,_,_,h⟩;cases e;exact h
 ·exact fun h=>⟨_,_,rfl,(show("list":String) ≠ "type" by decide),by decide,h⟩
theorem z4j:fIsI [(.tup xs),.ty "str"] Q2=Q2 false (.bl false):=by
 apply propext;constructor
 ·rintro⟨_,_,e,_,_,h⟩;cases e;exact h
 ·exact fun h=>⟨_,_,rfl,(show("tuple":String) ≠ "type" by decide),by decide,h⟩
theorem z4n:fIsI [(.tup xs),.ty "int"] Q2=Q2 false (.bl false):=by
 apply propext;constructor
 ·rintro⟨_,_,e,_,_,h⟩;cases e;exact h
 ·exact fun h=>⟨_,_,rfl,(show("tuple":String) ≠ "type" by decide),by decide,h⟩
theorem z3v:fIsI [(.tup xs),.ty "bool"] Q2=Q2 false (.bl false):=by
 apply propext;constructor
 ·rintro⟨_,_,e,_,_,h⟩;cases e;exact h
 ·exact fun h=>⟨_,_,rfl,(show("tuple":String) ≠ "type" by decide),by decide,h⟩
theorem z3s:fIsI [(.tup xs),.ty "list"] Q2=Q2 false (.bl false):=by
 apply propext;constructor
 ·rintro⟨_,_,e,_,_,h⟩;cases e;exact h
 ·exact fun h=>⟨_,_,rfl,(show("tuple":String) ≠ "type" by decide),by decide,h⟩
theorem z3g:fIsI [(.tup xs),.ty "tuple"] Q2=Q2 false (.bl true):=by
 apply propext;constructor
 ·rintro⟨_,_,e,_,_,h⟩;cases e;exact h
 ·exact fun h=>⟨_,_,rfl,(show("tuple":String) ≠ "type" by decide),by decide,h⟩
def fAll:List D->(Bool->D->Prop)->Prop:=fun ds Q=>∃bs:List Bool,ds=[.lst (bs.map .bl)]/\Q false (.bl (bs.all id))
theorem j2y:y0u (fun xs H Q=>∃p,xs=[.ref p]/\∃bs:List Bool,H p=some (.lst (bs.map V.bl))/\Q (.bl (bs.all id)) H) fAll:=by
 intro io H0 F0 F δ σ H xs vs Q Qd I px q k;obtain⟨bs,rfl,q⟩:=q;obtain⟨v,rfl,pk⟩:=pks1 px;obtain⟨a,us,rfl,h1,r⟩:=pk.lst I;rw[r.bls]at h1;exact⟨a,rfl,bs,h1,k false _ _ F H (Same.refl _) I.pB q⟩
variable {X:Cx}
def dIxC (K:W.Frag)(i:Nat)(ti:TEd):TEd:=fun δ Q=>∃ns,δ[i]? = some (.sc K ns)/\ti δ fun _ y δ1=>∃j n,y=.int j/\atI ns j=some n/\Q false (.int n) δ1
theorem q9s {α β:Type}(f:α->β){xs:List α}{i:Int}{x:α}(h:atI xs i=some x):atI (xs.map f) i=some (f x):=by
 unfold atI at h ⊢;rw[length_map];obtain⟨j,e,h⟩:=Option.bind_eq_some_iff.mp h;rw[e];simp[h]
theorem j6y {K:W.Frag}(hK:X.K=K){i:Nat}{x:Str}{p pos:Pos}{ie:Expr}{ti:TEd}(ho:PE X (.Name x p) (tVar i))(hi:DE X ie ti)(hs:NoSl ie:=by intro _ _;rfl):DE X (.Subscript (.Name x p) ie pos) (dIxC K i ti):=by
 subst hK;obtain⟨t,pi,si⟩:=hi;refine⟨_,z5r ix_list ho pi hs,fun io H0 F0 F δ σ H Q Qd I q k=>?_⟩;obtain⟨ns,e,q⟩:=q;obtain⟨a,ea,sq⟩:=I.get i _ e;refine⟨.ref a,z2n ea,si.fz I q fun y u δ1 F1 H1 f1 I1 r1 q1=>?_⟩;obtain⟨j,n,rfl,hj,q1⟩:=q1;cases(show u=V.int j from r1);exact⟨a,_,j,_,rfl,rfl,I1.sub.seq (f1.seq sq),q9s V.int hj,k false _ _ δ1 F1 H1 f1 I1.pI q1⟩
def q8w (K:W.Frag)(i:Nat):TEd:=fun δ Q=>∃ns,δ[i]? = some (.sc K ns)/\Q false (.int ns.length) δ
theorem q8e {K:W.Frag}(hK:X.K=K){i:Nat}{y:Str}{p p' pos:Pos}(hg:Gl X "len")(hm:X.mg "len" = none)(ha:PE X (.Name y p') (tVar i))
  (he:starEach [.Name y p'] X.env=[(false,eval (.Name y p') X.env)]:=by rfl)(hpl:(backTo pos (starEach [] X.env)).any (·.1)=false:=by rfl):DE X (.Call (.Name "len" p) [.Name y p'] [] pos) (q8w K i):=by
 subst hK;refine⟨_,z3h z4g hg hm boot_len (z0i ha z0p he) (by decide) (by decide) he hpl,fun io H0 F0 F δ σ H Q Qd I q k=>?_⟩;obtain⟨ns,e,q⟩:=q;obtain⟨a,ea,sq⟩:=I.get i _ e;refine⟨.ref a,z2n ea,a,_,rfl,.inl (I.sub.seq sq),?_⟩;rw[length_map];exact k false _ _ δ F H (Same.refl _) I.pI q
def q6u (td ti:TEd):TEd:=fun δ Q=>td δ fun _ x δ1=>∃ks:List Str,x=.lst (ks.map .str)/\ti δ1 fun _ y δ2=>∃(k:Str)(j:Nat),y=.str k/\ks[j]? = some k/\(∀m,m<j->ks[m]? ≠ some k)/\Q false (.int j) δ2
theorem q3n {l e:Expr}{td ti:TEd}{apos cpos:Pos}(hl:DE X l td)(hi:DE X e ti)
  (hbase:attributeBase l "index" X.env (eval l X.env)=eval l X.env:=by rfl)
  (hfew:((backTo cpos (starEach [e] X.env)).all (fun x=>!x.1)&&(backToKw cpos (keywordEach [] X.env)).all (fun x=>x.1.isSome)
  &&decide (([e]:List Expr).length+([]:List Keyword).length+(if ([]:List Keyword).isEmpty then 0 else 1)<30))=true:=by rfl)
  (hline:(apos.endLine == cpos.line)=true:=by rfl)(hst:starEach [e] X.env=(false,eval e X.env)::starEach [] X.env:=by rfl)(hplain:(backTo cpos (starEach [] X.env)).any (·.1)=false:=by rfl) :
  DE X (.Call (.Attribute l "index" apos) [e] [] cpos) (q6u td ti):=by
 obtain⟨t,pi,si⟩:=hi;obtain⟨t',pa,sa⟩:=hl;refine⟨_,y4l PySem.F.slot_list_index PySem.F.type_list_index q3p pa (z0i pi z0p hst) hbase hfew hline hst hplain,fun io H0 F0 F δ σ H Q Qd I q k=>sa.fz I q fun x v δ1 F1 H1 f1 I1 r1 q1=>?_⟩;obtain⟨ks,rfl,q1⟩:=q1;obtain⟨a,vs,rfl,h1,r1'⟩:=r1;rw[r1'.strs]at h1;refine⟨a,rfl,⟨_,I1.sub _ _ h1⟩,si.fz I1 q1 fun y u δ2 F2 H2 f2 I2 r2 q2=>?_⟩;obtain⟨key,j,rfl,e1,e2,q2⟩:=q2;cases(show u=V.str key from r2);exact⟨a,rfl,key,rfl,ks,I2.sub _ _ (f2 _ _ h1),j,e1,e2,k false _ _ δ2 F2 H2 (f1.trans f2) I2.pI q2⟩
def x0x (R:RD)(i:Nat)(u:TLd):TEd:=fun δ Q=>∃K ns,δ[i]? = some (.sc K ns)/\u δ fun ds δ'=>δ'[i]? = some (.sc K ns)/\R (.sc K ns::ds.map .fz) fun b d _=>Q b d δ'
end
section
variable {X:Cx}{CX:CXT}{k:Nat}{f:Addr}{fd:FuncData}{ps:List Str}{R:RD}{E:XK}{x y:Str}{p p' pos:Pos}{es:List Expr}{u:TLd}{i:Nat}
theorem q3j (G:FnOk X.prog X.w X.K X.mg X.base CX k f fd ps (spD R))(hr:Room k X.A)(hg:Gl X x)(hm:X.mg x=some (.ref f))(hk:keepIn X.K (.ref f)=true)(hb:Binds X.K fd ps [])(hx:y0j CX X E)
  (hv:PE X (.Name y p') (tVar i))(ha:DL X es u)(hdb:(x == ("__debug__":Str))=false:=by decide)(hs:starEach (.Name y p' :: es) X.env=(false,eval (.Name y p') X.env)::starEach es X.env:=by rfl)(hpl:(backTo pos (starEach es X.env)).any (·.1)=false:=by rfl) :
  DE X (.Call (.Name x p) (.Name y p' :: es) [] pos) (x0x R i u):=by
 obtain⟨t,pt,s⟩:=ha;refine⟨_,z7f G hr hg hm hk hb .nil hx (z0i hv pt hs) hdb hs hpl,fun io H0 F0 F δ σ H Q Qd I q kk=>?_⟩;obtain⟨K,ns,e0,q⟩:=q;obtain⟨a,ea,sq⟩:=I.get i _ e0;refine⟨.ref a,z2n ea,s io H0 F0 F δ σ H _ _ I q fun ds vs δ' F' H' sf I' r q'=>?_⟩;obtain⟨e1,q'⟩:=q';show spD R ((.ref a::vs)++[]) H' Q E;rw[append_nil];refine⟨H',[none],F',.sc K ns::ds.map .fz,_,fun p a e=>by cases p<;>simp at e,(y8y I'.sub r).push (s:=.sc K ns) (v:=.ref a) ⟨a,rfl,sf.seq sq⟩ (fun b c a e=>by cases e),q',fun b d v δ2 F2 H2 C q2=>?_⟩;exact kk b d v δ' F2 H2 (sf.trans C.ext) (I'.back C) q2
variable {δ:List Slot}{Q:Bool->D->List Slot->Prop}{QL:List D->List Slot->Prop}{Q2:Bool->D->Prop}{td ti:TEd}{ul:TLd}
theorem j2k {K:W.Frag}:dIxC K i ti δ Q=getK i δ fun s=>scK K s fun ns=>ti δ fun _ y δ1=>intK y fun j=>∃n,atI ns j=some n/\Q false (.int n) δ1:=by
 unfold dIxC getK scK;have key:∀(ns:List Int)(y:D)(δ1:List Slot),(∃j n,y=.int j/\atI ns j=some n/\Q false (.int n) δ1)=(intK y fun j=>∃n,atI ns j=some n/\Q false (.int n) δ1):=by
  intro ns y δ1;simp only[<-x0d];apply propext;constructor
  ·rintro⟨j,n,rfl,h⟩;exact⟨j,rfl,n,h⟩
  ·rintro⟨j,rfl,n,h⟩;exact⟨j,n,rfl,h⟩
 simp only[key];cases δ[i]?<;>simp
theorem q4t {K:W.Frag}:q8w K i δ Q=getK i δ fun s=>scK K s fun ns=>Q false (.int ns.length) δ:=by
 unfold q8w getK scK;cases δ[i]?<;>simp
theorem x5m:q6u td ti δ Q=td δ fun _ x δ1=>∃ks:List Str,x=.lst (ks.map .str)/\ti δ1 fun _ y δ2=>∃(k:Str)(j:Nat),y=.str k/\ks[j]? = some k/\(∀m,m<j->ks[m]? ≠ some k)/\Q false (.int j) δ2:=rfl
noncomputable def scA (s:Slot)(k:W.Frag->List Int->Prop):Prop:=match s with | .sc K ns=>k K ns|_=>False
theorem j6w {K:W.Frag}{ns:List Int}{k:W.Frag->List Int->Prop}:scA (.sc K ns) k=k K ns:=rfl
theorem y1u {R:RD}:x0x R i ul δ Q=getK i δ fun s=>scA s fun K ns=>ul δ fun ds δ'=>getK i δ' fun s'=>s' = .sc K ns/\hold R (fun b d _=>Q b d δ') .mk (.sc K ns::ds.map .fz):=by
 unfold x0x getK hold;have key:∀(K:W.Frag)(ns:List Int)(δ':List Slot)(A:Prop),(δ'[i]? = some (.sc K ns)/\A)=(match δ'[i]? with|some s'=>s' = .sc K ns/\A|none=>False):=by
  intro K ns δ' A;cases δ'[i]?<;>simp
 simp only[key];cases δ[i]? with
 |none=>simp
 |some s =>
  cases s with
  |sc K ns =>
   apply propext;constructor
   ·rintro⟨K',ns',e,h⟩;cases e;exact h
   ·intro h;exact⟨K,ns,rfl,h⟩
  |_=>simp[scA]
end
end VL
namespace L2
open PySem PySem.Spec PyProof.Rows PySem.SeqAt
end L2
namespace VL
open PySem L2
end VL
namespace L2
open PySem
open PyProof.Rows
end L2
namespace VL
open PySem L2
end VL
namespace L2
open PySem PySem.Spec PyProof.Rows PySem.W
end L2
namespace VL
open PySem L2
section
variable {X:Cx}
def y1m:Nat->List D->List D
 |_,[]=>[]
 |n,x::xs=>.tup [.int (n:Int),x]::y1m (n+1) xs
theorem y7e:∀(xs:List D)(n:Nat),(y1m n xs).length=xs.length
 | [],_=>rfl
 |_::xs,n=>by rw[y1m,length_cons,length_cons,y7e xs]
theorem y7k:∀(xs:List D)(n i:Nat)(d:D),(y1m n xs)[i]? = some d->∃x,xs[i]? = some x/\d=.tup [.int ((n+i:Nat):Int),x]
 | [],n,i,d,h=>by simp[y1m]at h
 |x::xs,n,0,d,h=>by simp[y1m]at h;exact⟨x,rfl,h.symm⟩
 |x::xs,n,i+1,d,h=>by
  obtain⟨y,e1,e2⟩:=y7k xs (n+1) i d (by simpa[y1m] using h);exact⟨y,by simpa using e1,by rw[e2];congr 3;congr 1;omega⟩
def x5k (u:TLd):TLd:=fun δ Q=>u δ fun ds δ'=>∃xs,ds=[.lst xs]/\Q (y1m 0 xs) δ'
theorem x9m {F:Hp}{a:Addr}{vs:List V}{xs:List D}(ha:F a=some (.lst vs))(ra:Reps F xs vs):ItOk (Itn a) F (y1m 0 xs):=by
 intro io H0 F0 F' δ σ H' sf I i;have hA:H' a=some (.lst vs):=I.sub _ _ (sf _ _ ha);refine⟨fun d e=>?_,fun e=>?_⟩
 ·obtain⟨x,ex,rfl⟩:=y7k _ _ _ _ e;obtain⟨v,ev,rv⟩:=ra.get ex;refine⟨⟨vs,v,hA,ev⟩,fun z H'' yl=>?_⟩;obtain⟨t,rfl,ht,yl⟩:=yl;obtain⟨v',ev',rfl⟩:=yl vs hA;rw[ev]at ev';cases ev';obtain⟨F2,s2,I2,r2⟩:=I.newT (ds:=[.int ((0+i:Nat):Int),x]) (vs:=[.int (i:Int),v]) ht ⟨_,_,rfl,(by rw[Nat.zero_add];rfl),_,_,rfl,Rep.mono sf _ _ rv,rfl⟩;exact⟨F2,s2,I2,r2⟩
 ·refine⟨vs,hA,?_⟩;have l1:=ra.len;rw[y7e]at e;rw[List.getElem?_eq_none_iff];omega
theorem q9f {elts:List Expr}{x1:Nat}{pt:Pos}{e1:Expr}{u:TLd}{p pos:Pos}(hg:Gl X "enumerate")(hm:X.mg "enumerate" = none)(ha:DL X [e1] u)(hs:starEach [e1] X.env=(false,eval e1 X.env)::starEach [] X.env:=by rfl)(hpl:(backTo pos (starEach [] X.env)).any (·.1)=false:=by rfl) :
  DI X (.Tuple elts x1 pt) (.Call (.Name "enumerate" p) [e1] [] pos) (x5k u):=by
 obtain⟨t,p,s⟩:=ha;refine⟨_,q9i hg hm p hs hpl,fun io H0 F0 F δ σ H R Qd I q k=>s io H0 F0 F δ σ H _ _ I q fun ds vs δ' F' H' sf I' r q'=>?_⟩;obtain⟨xs,rfl,q'⟩:=q';obtain⟨v,rfl,a,us,rfl,h1,r1⟩:=r.one_inv;exact⟨a,rfl,us,I'.sub _ _ h1,k _ _ δ' F' H' sf I' (x9m h1 r1) q'⟩
def x7r (t:TEd):TEd:=fun δ Q=>t δ fun _ d δ'=>∃ks:List Str,d=.lst (ks.map .str)/\ks.length<=4000/\Q false (.int (metS (fun i=>ks.getD i "") ks.length).length) δ'
theorem x5p {e:Expr}{t:TEd}{p p2 p3 p4:Pos}(hc:X.calm=true)(gl:Gl X "len")(ml:X.mg "len" = none)(gs:Gl X "set")(ms:X.mg "set" = none)(he:DE X e t)
  (s2:starEach [e] X.env=(false,eval e X.env)::starEach [] X.env:=by rfl)(n2:(backTo p3 (starEach [] X.env)).any (·.1)=false:=by rfl)
  (s1:starEach [.Call (.Name "set" p2) [e] [] p3] X.env=(false,eval (.Call (.Name "set" p2) [e] [] p3) X.env)::starEach [] X.env:=by rfl)(n1:(backTo p4 (starEach [] X.env)).any (·.1)=false:=by rfl) :
  DE X (.Call (.Name "len" p) [.Call (.Name "set" p2) [e] [] p3] [] p4) (x7r t):=by
 obtain⟨t1,q1,s⟩:=he;refine⟨_,y8g hc gl ml gs ms q1 s2 n2 s1 n1,fun io H0 F0 F δ σ H Q Qd I q k=>s.fz I q fun d v δ1 F1 H1 f1 I1 r1 q1=>?_⟩;obtain⟨ks,rfl,hl,q2⟩:=q1;obtain⟨a,vs,rfl,h1,r⟩:=r1;have ev:vs=ks.map V.str:=by
  clear hl q2 h1 q;induction ks generalizing vs with
  |nil=>exact r
  |cons z ks ih =>
   obtain⟨v,r',rfl,e1,e2⟩:=r;cases(show v=.str z from e1);rw[ih _ e2];rfl
 subst ev;exact⟨a,ks,rfl,I1.sub _ _ h1,hl,k false _ _ δ1 F1 H1 f1 I1.pI q2⟩
def dSlR (t:TEd):TEd:=fun δ Q=>t δ fun _ d δ'=>∃xs,d=.lst xs/\Q true (.lst xs.reverse) δ'
theorem x4r {e:Expr}{t:TEd}{k1:Nat}{p1 p0 p2 pos:Pos}(he:DE X e t):DE X (.Subscript e (.Slice none none (some (.UnaryOp .USub (.Constant (.int 1) k1 p1) p0)) p2) pos) (dSlR t):=by
 obtain⟨t1,q1,s⟩:=he;refine⟨_,x9e q1,fun io H0 F0 F δ σ H Q Qd I q k=>s.fz I q fun d v δ1 F1 H1 f1 I1 r1 q1=>?_⟩;obtain⟨xs,rfl,q2⟩:=q1;obtain⟨a,vs,rfl,h1,r⟩:=r1;exact⟨a,rfl,vs,I1.sub _ _ h1,fun p hp=>k true _ _ δ1 F1 _ f1 (I1.newL hp r.rev) q2⟩
inductive A2 where
 |v (d:D)|o1|o2
noncomputable def A2.one:A2->Bool
 |.o1=>true
 |_=>false
noncomputable def A2.two:A2->Bool
 |.o2=>true
 |_=>false
abbrev TA2:=List Slot->(List A2->List Slot->Prop)->Prop
abbrev TAT:=List Slot->(List A2->D->List Slot->Prop)->Prop
variable {δ:List Slot}{Q:Bool->D->List Slot->Prop}{QL:List D->List Slot->Prop}{Q2:Bool->D->Prop}{QA:List A2->List Slot->Prop}{td:TEd}{ul:TLd}{ua:TA2}{x y:Int}
noncomputable def q9r (ds:List D)(k:List D->Prop):Prop:=match ds with | [.lst x]=>k x|_=>False
theorem y2d {x:List D}{k:List D->Prop}:q9r [.lst x] k=k x:=rfl
theorem y2e:x5k ul δ QL=ul δ fun ds δ'=>q9r ds fun xs=>QL (y1m 0 xs) δ':=by
 unfold x5k;congr 1;funext ds δ';apply propext;constructor
 ·rintro⟨xs,rfl,h⟩;exact h
 ·intro h;unfold q9r at h;split at h
  ·exact⟨_,rfl,h⟩
  ·exact h.elim
theorem z9w:x7r td δ Q=td δ fun _ d δ'=>∃ks:List Str,d=.lst (ks.map .str)/\ks.length<=4000/\Q false (.int (metS (fun i=>ks.getD i "") ks.length).length) δ':=rfl
theorem j2q:dSlR td δ Q=td δ fun _ d δ'=>lstK d fun xs=>Q true (.lst xs.reverse) δ':=by unfold dSlR;simp only[y5o]
end
end VL
namespace L2
open PySem PySem.Spec PyProof.Rows PySem.SeqAt
end L2
namespace VL
open PySem L2
end VL
namespace L2
open PySem PyProof.Rows Builtin Builtin.ObjectAttr
noncomputable abbrev quiets:List Str:=["__init__","__getattribute__","__getattr__","__setattr__","__class__","name","row"]
noncomputable abbrev mroV:List Value:=[.type "ValueError",.type "Exception",.type "BaseException",.type "object"]
inductive Abv (h:Heap):List Value->Prop
 |base:Abv h mroV
 |own {a:Addr}{cl:Value}{di:Option Addr}{k:ClassData}{sl:Array (Option Value)}{f:Str->Option Value}{l:List Value}
   (ob:h.get? a=some { cls:=cl,dict:=di,data:=.cls k,slots:=sl }) (ns:h.Ns k.ns f) (no:∀x∈quiets,f x=none) (up:Abv h l):Abv h (.ref a::l)
theorem Abv.tail {h:Heap}{l:List Value}(T:Abv h l):OwnTail h mroV l:=by
 induction T with
 |base=>exact .base
 |own ob ns no _ ih=>exact .own ob ns (no _ (by simp)) ih
theorem Abv.keeps {h h2:Heap}{l:List Value}(T:Abv h l)(hk:∀b o,h.get? b=some o->h2.get? b=some o):Abv h2 l:=by
 induction T with
 |base=>exact .base
 |own ob ns no _ ih=>exact .own (hk _ _ ob) (ns.keeps hk) no ih
theorem Abv.refuse {h:Heap}{l:List Value}(T:Abv h l)(self:Value):refuseLoop self "__setattr__" l=pure ():=by
 induction T with
 |base=>exact F.store_ValueError.passes self
 |own _ _ _ _ ih=>rw[refuseLoop_ref];exact ih
section
variable {M:Model}{A:Around}{E:Value->Shared->Prop}{h:Heap}{g:Array GenState}{d:Drawn}{t:Nat}{os:OsState}
theorem Abv.along {l:List Value}{x:Str}{y:Option Value}{Q:Option Value->Shared->Prop}(T:Abv h l)(hx:x∈quiets)(e:typeLookup (.type "ValueError") x=pure y)(q:Q y ⟨h,g,d,t,os⟩) :
  wpAny M A (lookupAlong l x) Q E ⟨h,g,d,t,os⟩:=by
 induction T with
 |base =>
  have z:lookupAlong mroV x=pure y:=by rw[typeLookup_eq,F.store_ValueError.mro]at e;exact e
  rw[z];exact wpAny_pure q
 |own ob ns no _ ih =>
  rw[lookupAlong_cons];refine wpAny_bind (wpAny_classOwn_cls ob ns ?_);rw[no x hx];exact ih
structure XC (h:Heap)(C:Addr)(bm:List Value)(f:Str->Option Value)(nid:String):Prop where
 ex:∃nm q N bs sn sub ab col dd k0 k1 k2 k3 k5,h.get? C=some (excClassObj nm q C N bs bm true sn sub ab col dd k0 k1 k2 k3 k5 nid)/\h.Ns N f
 up:Abv h bm
theorem XC.keeps {h h2:Heap}{C:Addr}{bm:List Value}{f:Str->Option Value}{nid:String}(T:XC h C bm f nid)(hk:∀b o,h.get? b=some o->h2.get? b=some o):XC h2 C bm f nid:=by
 obtain⟨⟨nm,q,N,bs,sn,sub,ab,col,dd,k0,k1,k2,k3,k5,e,n⟩,u⟩:=T;exact⟨⟨nm,q,N,bs,sn,sub,ab,col,dd,k0,k1,k2,k3,k5,hk _ _ e,n.keeps hk⟩,u.keeps hk⟩
theorem XC.look {C:Addr}{bm:List Value}{f:Str->Option Value}{nid:String}{x:Str}{y:Option Value}{Q:Option Value->Shared->Prop}(c:XC h C bm f nid)(hx:x∈quiets)(e:typeLookup (.type "ValueError") x=pure y)
  (q:Q (match f x with|some v=>some v|none=>y) ⟨h,g,d,t,os⟩):wpAny M A (typeLookup (.ref C) x) Q E ⟨h,g,d,t,os⟩:=by
 obtain⟨⟨nm,qn,N,bs,sn,sub,ab,col,dd,k0,k1,k2,k3,k5,eC,n⟩,u⟩:=c;rw[typeLookup_eq];refine wpAny_bind (wpAny_mroOf_exc eC ?_);rw[lookupAlong_cons];refine wpAny_bind (wpAny_classOwn_exc eC n ?_);cases z:f x with
 |some v=>rw[z]at q;exact wpAny_pure q
 |none=>rw[z]at q;exact u.along hx e q
end
end L2
set_option maxHeartbeats 1000000
namespace L2
open PySem PyProof.Rows Builtin Builtin.ObjectAttr
section
variable {prog:Program}{w:World}{A:Around}{E:Value->Shared->Prop}{h:Heap}{g:Array GenState}{d:Drawn}{t:Nat}{os:OsState}{C x:Addr}{bm:List Value}{nid:String}{f:Str->Option Value}{a:Str}{v:Value}{vs:Array Value}{sl:Array (Option Value)}
theorem hasV {l:List Value}(T:Abv h l){X:String}(e:mroV.contains (.type X)=true)(C:Addr):(Value.ref C::l).contains (.type X)=true:=by
 rw[contains_cons,T.tail.hasType e,Bool.or_true]
def j6a (h:Heap)(x C:Addr)(vs:Array Value)(sl:Array (Option Value))(a:Str)(v:Value)(h2:Heap):Prop :=
 ∃dx,h.objs.size<=dx/\dx≠x/\h2.get? x=some { cls:=.ref C,dict:=some dx,data:=.fields vs,slots:=sl }/\h2.Ns1 dx (fun y=>if y=a then some v else none)/\∀b o,b≠x->h.get? b=some o->h2.get? b=some o
theorem x7p {tk:Tok}{Q:Fin->Shared->Prop}(c:XC h C bm f nid)(ha:a∈quiets)(hB:typeLookup (.type "ValueError") a=pure none)(hfa:f a=none)
  (hx:h.get? x=some { cls:=.ref C,data:=.fields vs,slots:=sl })(hq:∀h2 tk2,j6a h x C vs sl a v h2->Q (.done (.ret .none)) ⟨h2,g,d,tk2,os⟩) :
  wpAny (model prog w) A (Builtin.«object.__setattr__» ⟨[.ref x,.str a tk,v],[]⟩) Q E ⟨h,g,d,t,os⟩:=by
 have hpass:=c.up.refuse (.ref x);obtain⟨nm,qn,N,bs,sn,sub,ab,col,dd,k0,k1,k2,k3,k5,eC,n⟩:=id c.ex;unfold Builtin.«object.__setattr__»;have xs:x≠h.objs.size:=ne_of_lt (lt_size hx);have x1:(h.push { cls:=.type "dict",data:=.dict #[] }).get? x=some { cls:=.ref C,data:=.fields vs,slots:=sl }:=get?_push_of_some _ hx;have gd:((h.push { cls:=.type "dict",data:=.dict #[] }).update x fun o=>{ cls:=o.cls,dict:=some h.objs.size,data:=o.data,slots:=o.slots }).get? h.objs.size=some { cls:=.type "dict",data:=.dict #[] } :=
  (Heap.get?_update_ne _ _ _ _ xs.symm).trans (get?_push_at rfl rfl)
 have nd:((h.push { cls:=.type "dict",data:=.dict #[] }).update x fun o=>{ cls:=o.cls,dict:=some h.objs.size,data:=o.data,slots:=o.slots }).Ns h.objs.size (fun _=>none) :=
  ⟨_,#[],_,gd,rfl,fun e he=>absurd he (by simp),fun _=>rfl⟩
 repeat (first|rw[refuse_eq]|(rw[refuseLoop_ref,hpass])|with_reducible refine wpAny_loadPart_at hx ?_|with_reducible refine wpAny_mroOf_exc eC ?_|(with_reducible refine c.look ha hB ?_;rw[hfa])|with_reducible refine wpAny_nsSet1 (Heap.Ns1.of_empty nd) ?_|wp_step)
 intro h2 n2 s2;obtain⟨oD,eD,pD,gD,dD,cD⟩:=n2.count (Within.cons a v Within.nil);refine wpAny_bind (wpAny_lookBehind gD (by rw[dD];exact pastItsLine_dict (le_trans cD (by rw[length_cons,length_nil,sizeLine_eq];omega))) ?_)
 wp_walk
 refine hq _ _ ⟨h.objs.size,le_refl _,xs.symm,?_,n2,fun b o hb hbo=>?_⟩
 ·exact(s2.2 x xs).trans (get?_update_self _ x1 rfl)
 ·exact(s2.2 b (ne_of_lt (lt_size hbo))).trans ((Heap.get?_update_ne _ _ _ _ hb).trans (get?_push_of_some _ hbo))
theorem j6x {M:Model}{z:Value}{Q:Unit->Shared->Prop}(c:XC h C bm f nid)(hx:h.get? x=some { cls:=.ref C,data:=.fields vs,slots:=sl })(hq:Q () ⟨h,g,d,t,os⟩) :
  wpAny M A (checkBuiltinCall "object.__setattr__" ⟨[.ref x,z,v],[]⟩) Q E ⟨h,g,d,t,os⟩:=by
 obtain⟨nm,qn,N,bs,sn,sub,ab,col,dd,k0,k1,k2,k3,k5,eC,n⟩:=id c.ex;have SF:=F.store_ValueError;have hcB:=hasV c.up (X:="object") (by decide) C;have har:=SF.args (.ref x) z v;simp only[checkBuiltinCall,SF.kind,SF.split];refine wpAny_bind ?_;unfold isInstance
 repeat (first|with_reducible refine wpAny_loadPart_at hx ?_|(with_reducible refine wpAny_isSubtype_exc eC ?_;rw[hcB])|wp_step)
 exact hq
theorem q2n {Q:Unit->Shared->Prop}(c:XC h C bm f nid)(hfs:f "__setattr__" = none)(ha:a∈quiets)(hB:typeLookup (.type "ValueError") a=pure none)(hfa:f a=none)
  (hx:h.get? x=some { cls:=.ref C,data:=.fields vs,slots:=sl })(hq:∀h2 tk2,j6a h x C vs sl a v h2->Q () ⟨h2,g,d,tk2,os⟩) :
  wpAny (model prog w) A (setAttr (.ref x) a v) Q E ⟨h,g,d,t,os⟩:=by
 obtain⟨nm,qn,N,bs,sn,sub,ab,col,dd,k0,k1,k2,k3,k5,eC,n⟩:=id c.ex;have SF:=F.store_ValueError;have f3:=SF.slot.bind (.ref x);have hcB:=hasV c.up (X:="object") (by decide) C;have har:=SF.args (.ref x);unfold setAttr callSpecial? specialOf
 repeat (any_goals (first|assumption|with_reducible refine wpAny_loadPart_at hx ?_|(with_reducible refine c.look (by simp) SF.slot.lookup ?_;rw[hfs])|wp_step))
 refine codeAny_call_builtin SF.slot.plain SF.entry (j6x c hx (x7p c ha hB hfa hx fun h2 tk2 hl=>?_))
 repeat (any_goals (first|assumption|wp_step))
 exact hq h2 tk2 hl
end
end L2
set_option maxHeartbeats 1000000
namespace L2
open PySem PyProof.Rows Builtin Builtin.ObjectAttr
section
variable {prog:Program}{w:World}{A:Around}{E:Value->Shared->Prop}{h:Heap}{g:Array GenState}{d:Drawn}{t:Nat}{os:OsState}{C x dx:Addr}{bm:List Value}{nid:String}{f mA:Str->Option Value}{a:Str}{u:Value}{o:Obj}
theorem q5e {M:Model}{z:Value}{Q:Unit->Shared->Prop}(c:XC h C bm f nid)(hx:h.get? x=some o)(hc:o.cls=.ref C)(hq:Q () ⟨h,g,d,t,os⟩) :
  wpAny M A (checkBuiltinCall "BaseException.__getattribute__" ⟨[.ref x,z],[]⟩) Q E ⟨h,g,d,t,os⟩:=by
 obtain⟨nm,qn,N,bs,sn,sub,ab,col,dd,k0,k1,k2,k3,k5,eC,n⟩:=id c.ex;have kd:builtinKind "BaseException.__getattribute__" = some .slot:=by decide +kernel
 have ks:splitId "BaseException.__getattribute__" = some ("BaseException","__getattribute__"):=by decide +kernel
 have hcB:=hasV c.up (X:="BaseException") (by decide) C;have har:=F.args_bexc_ga (.ref x) z;simp only[checkBuiltinCall,kd,ks];refine wpAny_bind ?_;unfold isInstance
 repeat (first|(with_reducible refine wpAny_loadPart_at hx ?_;rw[hc])|(with_reducible refine wpAny_isSubtype_exc eC ?_;rw[hcB])|wp_step)
 exact hq
theorem x6t {tk:Tok}{Q:Fin->Shared->Prop}{vs:Array Value}{sl:Array (Option Value)}(c:XC h C bm f nid)(ha:a∈quiets)(hB:typeLookup (.type "ValueError") a=pure none)(hfa:f a=none)
  (hx:h.get? x=some { cls:=.ref C,dict:=some dx,data:=.fields vs,slots:=sl })(nx:h.Ns1 dx mA)(hv:mA a=some u)(hq:Q (.done (.ret u)) ⟨h,g,d,t,os⟩) :
  wpAny (model prog w) A (Builtin.«object.__getattribute__» ⟨[.ref x,.str a tk],[]⟩) Q E ⟨h,g,d,t,os⟩:=by
 have nx2:=nx.ns;obtain⟨nm,qn,N,bs,sn,sub,ab,col,dd,k0,k1,k2,k3,k5,eC,n⟩:=id c.ex
 repeat (any_goals (first|assumption|with_reducible refine wpAny_loadPart_at hx ?_|(with_reducible refine c.look ha hB ?_;rw[hfa])|with_reducible refine wpAny_loadPart_at eC ?_|(with_reducible refine wpAny_nsGet nx2 ?_;rw[hv])|wp_step))
theorem x2k {expr:Bool}{Q:Value->Shared->Prop}{vs:Array Value}{sl:Array (Option Value)}(c:XC h C bm f nid)(hg:f "__getattribute__" = none)(hh:f "__getattr__" = none)(ha:a∈quiets)(hB:typeLookup (.type "ValueError") a=pure none)(hfa:f a=none)
  (hx:h.get? x=some { cls:=.ref C,dict:=some dx,data:=.fields vs,slots:=sl })(nx:h.Ns1 dx mA)(hv:mA a=some u)(ho:handedOut u=pure u)(hq:Q u ⟨h,g,d,t+1,os⟩) :
  wpAny (model prog w) A (getAttr (.ref x) a expr) Q E ⟨h,g,d,t,os⟩:=by
 have FB:=F.attrBase_ValueError;have f3:=FB.ga.bind (.ref x);have z0:(expr&&onTheHeap (Value.builtin "BaseException.__getattribute__"))=false:=by cases expr<;>rfl
 have z2:(Value.builtin "BaseException.__getattribute__" == Value.builtin "object.__getattribute__")=false:=by decide +kernel
 have z1:(onTheHeap (Value.ref C)&&Value.builtin "BaseException.__getattribute__" == Value.builtin "object.__getattribute__")=false:=by rw[z2];rfl
 unfold getAttr
 repeat (any_goals (first|assumption|with_reducible refine wpAny_loadPart_at hx ?_|(with_reducible refine c.look (by simp) FB.ga.lookup ?_;rw[hg])|(with_reducible refine c.look (by simp) FB.noGetattr ?_;rw[hh])|wp_step))
 refine codeAny_call_builtin FB.ga.plain F.entry_bexc_ga (q5e c hx rfl (x6t c ha hB hfa hx nx hv ?_))
 repeat (any_goals (first|assumption|rw[ho]|wp_step))
end
end L2
set_option maxHeartbeats 1000000
namespace L2
open PySem PyProof.Rows
section
variable {prog:Program}{w:World}{A:Around}{E:Value->Shared->Prop}{h:Heap}{g:Array GenState}{d:Drawn}{t:Nat}{os:OsState}{C fI:Addr}{bm:List Value}{f:Str->Option Value}{us:List Value}{oI:Obj}
noncomputable abbrev vnew:String:="ValueError.__new__"
noncomputable abbrev x0e (us:List Value):Obj:={ cls:=.type "tuple",data:=.seq us.toArray }
noncomputable abbrev y4n (C T:Addr):Obj:={ cls:=.ref C,data:=.fields #[.ref T,.none,.none,.none,.bool false,.none] }
theorem x4i {Q:Fin->Shared->Prop}(c:XC h C bm f vnew)(hi:f "__init__" = some (.ref fI))(hf:h.get? fI=some oI)(hfc:oI.cls=.type "function")(hl:us.length<=sizeLine)
  (hq:wpAny (model prog w) A (call (.ref fI) (.ref (h.objs.size+1)::us)) (fun r s2=>r=.none/\Q (.done (.ret (.ref (h.objs.size+1)))) s2) E ⟨(h.push (x0e us)).push (y4n C h.objs.size),g,d,t,os⟩) :
  wpAny (model prog w) A (Builtin.«type.__call__» ⟨.ref C::us,[]⟩) Q E ⟨h,g,d,t,os⟩:=by
 obtain⟨nm,qn,N,bs,sn,sub,ab,col,dd,k0,k1,k2,k3,k5,eC,n⟩:=id c.ex;have Fx:=F.excBase_ValueError;have hB:mroV.contains (.type "ValueError")=true:=by decide
 have kp:∀b o,h.get? b=some o->((h.push (x0e us)).push (y4n C h.objs.size)).get? b=some o:=fun b o e=>get?_push_of_some _ (get?_push_of_some _ e);have c2:XC ((h.push (x0e us)).push (y4n C h.objs.size)) C bm f vnew:=c.keeps kp;have eC2:=kp _ _ eC;have hs:((h.push (x0e us)).push (y4n C h.objs.size)).get? (h.objs.size+1)=some (y4n C h.objs.size):=get?_push_at (by rw[size_push]) rfl;have hcC:(Value.ref C::bm).contains (.ref C)=true:=by simp
 repeat (first|with_reducible refine wpAny_loadPart_at eC ?_|with_reducible refine wpAny_madeBy_exc eC ?_|wp_step)
 refine codeAny_call_builtin_code (Code.quiet_builtin _ Fx.quiet) (wpAny_check_new_subU Fx hB c.up.tail eC ?_);refine codeAny_exc_new_subU Fx hB Fx c.up.tail eC ?_ hl;show wpAny _ _ _ _ _ _;unfold isInstance
 repeat (first|with_reducible refine wpAny_loadPart_at hs ?_|(with_reducible refine wpAny_isSubtype_exc eC2 ?_;rw[hcC])|wp_step)
 show wpAny _ _ (typeLookup (.ref C) _) _ _ _;refine c2.look (by simp) Fx.init.lookup ?_;rw[hi];refine wpAny_holding (wpAny_bind ?_);unfold bindSpecial;refine wpAny_bind (wpAny_typeOf (T:="function") ⟨_,kp _ _ hf,hfc⟩ ?_);rw[if_pos (by decide)];refine wpAny_pure (wpAny_bind (wpAny_mono hq (fun r s2 hr=>?_) fun _ _ z=>z));obtain⟨rfl,hr⟩:=hr
 wp_walk
 exact hr
theorem q0b {Q:Value->Shared->Prop}(c:XC h C bm f vnew)(hi:f "__init__" = some (.ref fI))(hf:h.get? fI=some oI)(hfc:oI.cls=.type "function")(hl:us.length<=sizeLine)
  (hq:wpAny (model prog w) (A.under (.builtin "type.__call__" ⟨.ref C::us,[]⟩)) (call (.ref fI) (.ref (h.objs.size+1)::us)) (fun r s2=>r=.none/\Q (.ref (h.objs.size+1)) s2) E ⟨(h.push (x0e us)).push (y4n C h.objs.size),g,d,t,os⟩) :
  wpAny (model prog w) A (call (.ref C) us) Q E ⟨h,g,d,t,os⟩:=by
 obtain⟨nm,qn,N,bs,sn,sub,ab,col,dd,k0,k1,k2,k3,k5,eC,n⟩:=id c.ex;have f1:=tc_lookup;have f2:=tc_bind (.ref C);have hT:(⟨h,g,d,t,os⟩:Shared).TypeIs (.ref C) "type":=⟨_,eC,rfl⟩;refine wpAny_call (codeAny_of_tree ?_);show wpAny _ _ (callAny (.ref C) _) _ _ _
 repeat (any_goals (first|assumption|with_reducible refine wpAny_loadPart_at eC ?_|wp_step))
 refine⟨rfl,?_⟩;exact codeAny_call_builtin_at (Code.quiet_builtin _ (by decide +kernel)) entry_typeCall (wpAny_check_type_call_sub eC (x4i c hi hf hfc hl hq))
end
end L2
set_option maxHeartbeats 1000000
namespace L2
open PySem PyProof.Rows
def XObj (h:Heap)(e C dx:Addr)(hd:Value):Prop:=∃vs sl,h.get? e=some { cls:=.ref C,dict:=some dx,data:=.fields vs,slots:=sl }/\vs[1]? = some hd
def TrOk (h:Heap)(T:Addr):Prop:=∃oT ts,h.get? T=some oT/\oT.data=.fields ts/\ts[3]? = some .none
section
variable {M:Model}{A:Around}{E:Value->Shared->Prop}{s:Shared}{base:Heap}{env:Env}{outer:List Env}{L e C dx T:Addr}
def y9t (l:List Env)(e C dx:Addr)(X:Addr->Prop)(h h2:Heap):Prop :=
 (∃T,h.objs.size<=T/\XObj h2 e C dx (.ref T)/\TrOk h2 T)/\(∀b o,h.get? b=some o->b≠e->¬X b->b∉l.filterMap (·.frame)->h2.get? b=some o) /\
  ∀b o,h.get? b=some o->b≠e->¬X b->∃sl,h2.get? b=some { o with slots:=sl }
theorem q6e {head:Value}{k:Bool}{vs:Array Value}{sl:Array (Option Value)}{Q:Unit->Shared->Prop}(hfr:A.frames=some (env::outer))(hl:s.heap.FunFrames base (env::outer))(hf:env.frame=some L)
  (he:s.heap.get? e=some { cls:=.ref C,dict:=some dx,data:=.fields vs,slots:=sl })(sz:1<vs.size)(hq:∀h2,y9t (env::outer) e C dx (fun _=>False) s.heap h2->Q () { s with heap:=h2 }) :
  wpAny M A (do let a <-frameOf env;let p <-entryPlaceOf L k;let b <-EntryCells.newEntry head a .none (rawInt L) .none p;setField (.ref e) 1 b) (fun _ s2=>wpAny M A (setFlight (.ref e) none) Q E s2) E s:=by
 have ne:e∉(env::outer).filterMap (·.frame):=fun m=>by
  obtain⟨_,o,ho,nf⟩:=hl.mem m;rw[he]at ho;cases ho;exact nf vs rfl
 refine wpAny_bind (wpAny_frameOf_fun hfr hl hf fun g1 r1=>?_);refine wpAny_bind (wpAny_entryPlaceOf fun p hp=>?_);unfold EntryCells.newEntry newFields;refine wpAny_bind (wpAny_newObj_type ?_ (hp.sizeOk5 _ _ _ _ _));generalize hob:(({ cls:=.type "traceback",dict:=none,data:=.fields ([head,.ref L,.none,rawInt L,.none]++(if p.isEmpty then replicate 6 Value.none else p)).toArray }:Obj))=ob;have obd:ob.data=.fields ([head,.ref L,.none,rawInt L,.none]++(if p.isEmpty then replicate 6 Value.none else p)).toArray:=by rw[<-hob]
 have obf:ob.isFreed=false:=by rw[<-hob];rfl
 have e1:g1.get? e=some { cls:=.ref C,dict:=some dx,data:=.fields vs,slots:=sl }:=(r1.2.1 e ne).trans he;have e2:=get?_push_of_some (h:=g1) ob e1;refine wpAny_setField e2 rfl sz ?_;have nTe:g1.objs.size≠e:=ne_of_gt (lt_size e1);have e3:((g1.push ob).update e (Obj.mapFields (·.setIfInBounds 1 (Value.ref g1.objs.size)))).get? e=some { cls:=.ref C,dict:=some dx,data:=.fields (vs.setIfInBounds 1 (.ref g1.objs.size)),slots:=sl } :=
  get?_update_self _ e2 rfl
 have T3:((g1.push ob).update e (Obj.mapFields (·.setIfInBounds 1 (Value.ref g1.objs.size)))).get? g1.objs.size=some ob:=(get?_update_other _ _ (Ne.symm nTe)).trans (get?_push_size g1 obf);unfold setFlight;refine wpAny_bind (wpAny_field e3 rfl (x:=.ref g1.objs.size) (by simp[sz]) ?_);rw[if_pos (show(Value.ref g1.objs.size != Value.none)=true from by simp)];refine wpAny_setField T3 obd (by simp only[size_toArray,length_append,length_cons,length_nil];omega) (hq _ ⟨⟨g1.objs.size,?_,⟨_,_,(get?_update_other _ _ nTe).trans e3,by simp[sz]⟩,_,_,get?_update_self _ T3 (Obj.isFreed_of_fields (Obj.data_mapFields obd _)),Obj.data_mapFields obd _,?_⟩,fun b o hb nb _ nf=>?_,fun b o hb nb _=>?_⟩)
 ·rw[r1.1];exact le_refl _
 ·rcases hp with rfl|⟨_,_,_,_,_,_,_,rfl⟩<;>simp
 ·have b1:g1.get? b=some o:=(r1.2.1 b nf).trans hb;exact(get?_update_other _ _ (ne_of_gt (lt_size b1))).trans ((get?_update_other _ _ (Ne.symm nb)).trans (get?_push_of_some _ b1))
 ·obtain⟨l2,b1⟩:=r1.2.2 b o hb;exact⟨l2,(get?_update_other _ _ (ne_of_gt (lt_size b1))).trans ((get?_update_other _ _ (Ne.symm nb)).trans (get?_push_of_some _ b1))⟩
theorem j4h {Q:Unit->Shared->Prop}(hfr:A.frames=some (env::outer))(hl:s.heap.FunFrames base (env::outer))(hf:env.frame=some L)(he:XObj s.heap e C dx .none)
  (hq:∀h2,y9t (env::outer) e C dx (fun _=>False) s.heap h2->Q () { s with heap:=h2 }) :
  wpAny M A (noteFrame (.ref e) env) (fun _ s2=>wpAny M A (setFlight (.ref e) none) Q E s2) E s:=by
 obtain⟨vs,sl,he,h1⟩:=he;unfold noteFrame;simp only[hf];refine wpAny_bind (wpAny_field he rfl h1 ?_);rw[if_neg (by decide)];exact q6e hfr hl hf he (Array.getElem?_eq_some_iff.mp h1).1 hq
theorem q5g {Q:Unit->Shared->Prop}(hfr:A.frames=some (env::outer))(hl:s.heap.FunFrames base (env::outer))(hf:env.frame=some L)(he:XObj s.heap e C dx (.ref T))(hT:TrOk s.heap T)(nT:T≠e)
  (hq:∀h2,y9t (env::outer) e C dx (fun b=>b=T) s.heap h2->Q () { s with heap:=h2 }) :
  wpAny M A (noteFrame (.ref e) env) (fun _ s2=>wpAny M A (setFlight (.ref e) none) Q E s2) E s:=by
 obtain⟨vs,sl,he,h1⟩:=he;obtain⟨oT,ts,gT,dT,h3⟩:=hT;unfold noteFrame;simp only[hf];refine wpAny_bind (wpAny_field he rfl h1 ?_);rw[if_pos (show(Value.ref T != Value.none)=true from by simp)];refine wpAny_bind (wpAny_field gT dT h3 ?_);rw[if_neg (show ¬((Value.none == rawInt L)=true) from by simp[rawInt])];refine wpAny_bind (wpAny_setField gT dT (Array.getElem?_eq_some_iff.mp h3).1 ?_);have oth:∀b,b≠T->(s.heap.update T (Obj.mapFields (·.setIfInBounds 3 Value.none))).get? b=s.heap.get? b:=fun b nb=>get?_update_other _ _ (Ne.symm nb);have nf:∀b o,s.heap.get? b=some o->(∀q,o.data≠.fields q)->b≠T:=fun b o hb n z=>by
  subst z;rw[gT]at hb;cases hb;exact n ts dT
 refine q6e (hfr) (hl.of_keeps fun b o hb n=>⟨o,(oth b (nf b o hb n)).trans hb,rfl⟩) hf ((oth e (Ne.symm nT)).trans he) (Array.getElem?_eq_some_iff.mp h1).1 fun h2 N=>hq h2 ?_;obtain⟨⟨T2,n2,x2,t2⟩,k,k2⟩:=N;exact⟨⟨T2,le_trans (le_of_eq (Heap.size_after_update ..).symm) n2,x2,t2⟩,fun b o hb nb nx=>k b o ((oth b nx).trans hb) nb id,fun b o hb nb nx=>k2 b o ((oth b nx).trans hb) nb id⟩
end
end L2
set_option maxHeartbeats 1000000
namespace L2
open PySem PyProof.Rows
noncomputable def XO (C dx x:Addr):HO:=.ext fun h=>∃vs sl,h.get? x=some { cls:=.ref C,dict:=some dx,data:=.fields vs,slots:=sl }
section
variable {P:Program}{w:World}{X:Cx}{pins:List (Addr×Obj)}{σ:St}{H:Hp}{s:Shared}{x C dx T:Addr}{hd:Value}{l:List Env}{h2:Heap}
theorem XO.ok {h:Heap}(o:XObj h x C dx hd):ObjOk P w H h x (XO C dx x):=by
 obtain⟨vs,sl,e,_⟩:=o;exact⟨⟨vs,sl,e⟩,⟨_,e⟩,fun h1 h2 ⟨vs,sl,e⟩ k=>⟨vs,sl,k _ e⟩⟩
theorem x1c {Y:Addr->Prop}(ok:HOk P w H s.heap)(fr:∀b∈frs l,H b=none)(hY:∀b,Y b->H b=none)(hx:H x=some (XO C dx x))(N:y9t l x C dx Y s.heap h2):HOk P w H h2:=fun a o e=>by
 obtain⟨⟨T2,_,x2,_⟩,k,k2⟩:=N;by_cases z:a=x
 ·subst z;rw[hx]at e;cases e;exact XO.ok x2
 ·refine(ok a o e).stay (fun b u hb q=>?_) (fun _ q=>q) fun _ _ q=>q;have tr:∃ob,H b=some ob/\b≠x:=by
   rcases hb with rfl|hb
   ·exact⟨_,e,z⟩
   ·refine⟨_,hb,fun r=>?_⟩;subst r;rw[hx]at hb;cases hb
  obtain⟨ob,tr,nb⟩:=tr;exact k b u q nb (fun y=>by rw[hY b y]at tr;cases tr) fun y=>by rw[fr b y]at tr;cases tr
theorem q1w {Y:Addr->Prop}(ok:HOk P w H s.heap)(fr:∀b∈frs l,H b=none)(hY:∀b,Y b->H b=none)(hx:H x=some (XO C dx x))(N:y9t l x C dx Y s.heap h2){ex:List Addr}(hex:∀b,Y b->b∈ex) :
  Un (frs l) ex H H s.heap h2/\HOk P w H h2:=by
 obtain⟨⟨T2,_,x2,_⟩,k,k2⟩:=id N;have nx:∀b,H b=none->b≠x:=fun b n z=>by subst z;rw[hx]at n;cases n
 refine⟨⟨fun b o e n nf ne=>k b o e (nx b n) (fun y=>ne (hex b y)) nf,fun b o e n _ ne=>k2 b o e (nx b n) fun y=>ne (hex b y),fun _ _ _ n _=>n,fun b o e ne=>?_,fun _ _ q=>q,fun _ _ _ q=>q,fun _ q=>q⟩,x1c ok fr hY hx N⟩
 ·by_cases z:b=x
  ·subst z;obtain⟨vs,sl,q,_⟩:=x2;exact⟨_,q⟩
  ·obtain⟨sl,q⟩:=k2 b o e z fun y=>ne (hex b y);exact⟨_,q⟩
def CX1 (P:Program)(w:World):CXT:=fun outer H s E e s2=>∃x C dx T H2,e=.ref x/\s2.os=s.os/\AllBare s2.gens/\Un (frs outer) [] H H2 s.heap s2.heap/\HOk P w H2 s2.heap/\H2 x=some (XO C dx x) /\
 XObj s2.heap x C dx (.ref T)/\TrOk s2.heap T/\H2 T=none/\s.heap.objs.size<=x/\s.heap.objs.size<=T/\E (.ref x) (some dx) H2
theorem j6t (o:XObj s.heap x C dx hd)(hx:H x=some (XO C dx x))(n:H T=none):T≠x:=fun z=>by subst z;rw[hx]at n;cases n
theorem j3b {K:W.Frag}{mg:Str->Option Value}{base:Heap}{N:List Str}{qual:Str}{scope:Scope}{f:Addr}{cd:Value}{A:Around}{outer:List Env}{s0:Shared}{H0:Hp}{E:XK}
  (I:Inv (cxOf (CX1 P w) P w K mg base N qual scope f cd A outer s0 H0 E) pins σ H s)(hx:H x=some (XO C dx x))(o:XObj s.heap x C dx hd)
  (ht:hd=.none \/ ∃T,hd=.ref T/\TrOk s.heap T/\H T=none/\s0.heap.objs.size<=T)(nx:s0.heap.objs.size<=x)(q:E (.ref x) (some dx) H) :
  (cxOf (CX1 P w) P w K mg base N qual scope f cd A outer s0 H0 E).xe (.ref x) s:=by
 have hl:=I.stack;have fr:=I.stkFree;have fin:∀(Y:Addr->Prop),(∀b,Y b->H b=none/\s0.heap.objs.size<=b)->∀h2,y9t (envOfC qual scope s0.heap.objs.size f cd::outer) x C dx Y s.heap h2->CX1 P w outer H0 s0 E (.ref x) { s with heap:=h2 }:=fun Y hY h2 nt=>by
  obtain⟨⟨T2,n2,x2,t2⟩,k,k2⟩:=id nt;have ok:HOk P w H h2:=x1c I.hok fr (fun b y=>(hY b y).1) hx nt;have old:∀b o,s0.heap.get? b=some o->b≠x/\¬Y b/\b≠s0.heap.objs.size:=fun b o e=>by
   have lt:b<s0.heap.objs.size:=lt_size e;exact⟨fun z=>absurd nx (by subst z;exact Nat.not_le_of_lt lt),fun z=>absurd (hY b z).2 (Nat.not_le_of_lt lt),ne_of_lt lt⟩
  have B:Un (frs outer) [] H0 H s0.heap s.heap:=I.base;refine⟨x,C,dx,T2,H,rfl,I.os,I.bare,⟨fun b o e n nf _=>?_,fun b o e n nf _=>?_,fun b o e n _=>B.free b o e n (by simp),fun b o e _=>?_,B.tups,B.frzs,B.tbls⟩,ok,hx,x2,t2,I.hok.fresh n2,nx,le_trans I.sz n2,q⟩
  ·obtain⟨y1,y2,y3⟩:=old b o e;refine k b o (B.keep b o e n nf (by simp)) y1 y2 fun z=>?_;rcases mem_cons.mp (show b∈s0.heap.objs.size::frs outer from z) with z|z
   ·exact y3 z
   ·exact nf z
  ·obtain⟨y1,y2,y3⟩:=old b o e;obtain⟨sl,e1⟩:=B.slot b o e n nf (by simp);obtain⟨sl2,e2⟩:=k2 b _ e1 y1 y2;exact⟨sl2,e2⟩
  ·obtain⟨y1,y2,y3⟩:=old b o e;obtain⟨o1,e1⟩:=B.there b o e (by simp);obtain⟨sl,e2⟩:=k2 b _ e1 y1 y2;exact⟨_,e2⟩
 show wpAny _ _ (leaving _ _) _ _ _;unfold leaving;rcases ht with rfl|⟨T,rfl,hT,nT,zT⟩
 ·exact wpAny_bind (j4h I.ok.frames hl rfl o (fin _ fun b y=>y.elim))
 ·exact wpAny_bind (q5g I.ok.frames hl rfl o hT (j6t o hx nT) (fin _ fun b y=>by cases y;exact⟨nT,zT⟩))
theorem q1h {K:W.Frag}{mg:Str->Option Value}{base:Heap}{N:List Str}{qual:Str}{scope:Scope}{f:Addr}{cd:Value}{A:Around}{outer:List Env}{s0:Shared}{H0:Hp}{E:XK} :
  y0j (CX1 P w) (cxOf (CX1 P w) P w K mg base N qual scope f cd A outer s0 H0 E) E:=by
 intro pins σ H s e s2 I z;obtain⟨x,C,dx,T,H2,he,os,bare,un,ok,hx,xo,tr,hT,nx,nT,q⟩:=z;subst he;have I2:=I.call' os un ok bare (fun b z=>absurd z (by simp));exact j3b I2 hx xo (.inr ⟨T,rfl,tr,hT,le_trans I.sz nT⟩) (le_trans I.sz nx) q
end
end L2
set_option maxHeartbeats 1000000
namespace L2
open PySem PyProof.Rows
noncomputable def y6p (K:W.Frag)(N:Addr)(l:List Str):Bool:=nsOkIn K N&&l.all fun x=>W.nsIn K N x == some none
noncomputable def q2u (K:W.Frag):List Value->Bool
 | []=>false
 |v::r=>(v::r) == mroV||match v with
  |.ref a=>(match K.lookup a with
   |some ⟨_,_,.cls k,_⟩=>y6p K k.ns quiets&&q2u K r
   |_=>false)
  |_=>false
theorem x1g {K:W.Frag}{h:Heap}{N:Addr}{l:List Str}(X:K.In h)(q:y6p K N l=true):h.Ns N (h.nsMap N)/\∀x∈l,h.nsMap N x=none:=by
 unfold y6p at q;simp only[and_eq_true,all_eq_true,beq_iff_eq]at q;exact⟨.of_isNs (W.isNs_of_in X q.1),fun x hx=>W.nsMap_none_of_in X q.1 (q.2 x hx)⟩
theorem q4u {K:W.Frag}{h:Heap}(X:K.In h):∀{l:List Value},q2u K l=true->Abv h l
 | [],e=>by cases e
 |v::r,e=>by
  unfold q2u at e;rcases Bool.or_eq_true_iff.mp e with q|q
  ·rw[beq_iff_eq.mp q];exact .base
  ·split at q
   ·split at q
    ·rename_i ho;rw[and_eq_true]at q;obtain⟨n,f⟩:=x1g X q.1;exact .own (X _ _ ho) n f (q4u X q.2)
    ·cases q
   ·cases q
noncomputable def clIn (K:W.Frag)(C:Addr)(bm:List Value)(g:ClassData->String->Bool):Bool:=match K.lookup C with
 |some ⟨c,_,.cls k,sl⟩=>c == .type "type"&&k.mro == .ref C::bm&&!k.hasDel&&(match sl.toList with
  | [_,_,_,_,v,_]=>(match v with|some (.builtin n)=>g k n|_=>false)
  |_=>false)
 |_=>false
theorem j4m {K:W.Frag}{C:Addr}{bm:List Value}{g:ClassData->String->Bool}(q:clIn K C bm g=true):∃dd k k0 k1 k2 k3 n k5,K.lookup C=some ⟨.type "type",dd,.cls k,#[k0,k1,k2,k3,some (.builtin n),k5]⟩/\k.mro=.ref C::bm/\k.hasDel=false/\g k n=true:=by
 unfold clIn at q;cases e:K.lookup C with
 |none=>rw[e]at q;exact(Bool.false_ne_true q).elim
 |some o =>
  rw[e]at q;obtain⟨c,dd,p,sl⟩:=o;cases p with
  |cls k =>
   dsimp only at q;rw[and_eq_true,and_eq_true,and_eq_true]at q;obtain⟨⟨⟨h1,h2⟩,h3⟩,q⟩:=q;cases beq_iff_eq.mp h1;rcases sl with ⟨_|⟨k0,_|⟨k1,_|⟨k2,_|⟨k3,_|⟨k4,_|⟨k5,_|⟨k6,r⟩⟩⟩⟩⟩⟩⟩⟩
   case some.cls.refl.cons.cons.cons.cons.cons.cons.nil =>
    cases k4 with
    |none=>exact(Bool.false_ne_true q).elim
    |some v =>
     cases v with
     |builtin n=>exact⟨dd,k,k0,k1,k2,k3,n,k5,rfl,beq_iff_eq.mp h2,by simpa using h3,q⟩
     |_=>exact(Bool.false_ne_true q).elim
   all_goals exact(Bool.false_ne_true q).elim
  |_=>exact(Bool.false_ne_true q).elim
noncomputable def xcIn (K:W.Frag)(C:Addr)(bm:List Value)(fI:Addr):Bool:=clIn K C bm fun k n=>n == vnew&&k.hasDict&&q2u K bm&&y6p K k.ns quiets.tail&&W.nsIn K k.ns "__init__" == some (some (.ref fI))
theorem x3s {K:W.Frag}{h:Heap}{N:Addr}{mg:Str->Option Value}{n:Str}{v:Value}(X:K.In h)(G:h.Ns N mg)(e:W.nsIn K N n=some (some v)):mg n=some v:=by
 obtain⟨o,es,ep,ho,hd,_,hf⟩:=G;unfold W.nsIn at e;split at e
 ·rename_i c d es2 n2 sl q;have z:=X _ _ q;rw[ho]at z;cases z;cases hd;split at e
  ·rename_i he;rw[<-hf];unfold nsFind findBy;rw[<-Array.find?_toList,he];simpa using e
  ·exact absurd e (by intro z;split at z<;>cases z)
 ·cases e
theorem y5y {K:W.Frag}{h:Heap}{C fI:Addr}{bm:List Value}(X:K.In h)(q:xcIn K C bm fI=true):∃f,XC h C bm f vnew/\f "__init__" = some (.ref fI)/\∀x∈quiets.tail,f x=none:=by
 obtain⟨dd,k,k0,k1,k2,k3,n,k5,ho,hm,hdel,q⟩:=j4m q;simp only[and_eq_true,beq_iff_eq]at q;obtain⟨⟨⟨⟨rfl,hdi⟩,ht⟩,hq⟩,hi⟩:=q;obtain⟨nm,bs,mro,ns,qn,hd,sn,sub,ab,col,del⟩:=k;dsimp only at hm hdel hq hi hdi;subst hm hdel hdi;obtain⟨n,f⟩:=x1g X hq;exact⟨h.nsMap ns,⟨⟨nm,qn,ns,bs,sn,sub,ab,col,dd,k0,k1,k2,k3,k5,X _ _ ho,n⟩,q4u X ht⟩,x3s X n hi,f⟩
end L2
set_option maxHeartbeats 1000000
namespace L2
open PySem PyProof.Rows
noncomputable def XN (C T x:Addr):HO:=.ext fun h=>h.get? x=some (y4n C T)
noncomputable def XF (C dx x:Addr):HO:=.ext fun h=>XObj h x C dx .none
section
variable {P:Program}{w:World}{X:Cx}{pins:List (Addr×Obj)}{σ:St}{H:Hp}{s:Shared}{x C dx T:Addr}{h h2:Heap}{fs ex:List Addr}{o1 o2:HO}
theorem Un.two (mu:Mut (H x))(nd:dx≠x)(k:∀b u,b≠x->h.get? b=some u->h2.get? b=some u)(hx:∃u,h2.get? x=some u)(hp:h.objs.size<=dx)(hn:H dx=none):Un fs ex H (upd (upd H dx o1) x o2) h h2:=by
 have nx:∀b,H b=none->b≠x:=fun b n z=>by subst z;rw[n]at mu;exact mu
 have nz:∀b u,h.get? b=some u->b≠dx:=fun b u e=>ne_of_lt (lt_of_lt_of_le (lt_size e) hp);have tr:∀b u,H b=some u->¬Mut (some u)->upd (upd H dx o1) x o2 b=some u:=fun b u e m=>by
  rw[z0j (fun z=>by subst z;rw[e]at mu;exact m mu),z0j (z0s e hn)];exact e
 refine⟨fun b o e n _ _=>k b o (nx b n) e,fun b o e n _ _=>⟨o.slots,k b o (nx b n) e⟩,fun b o e n _=>by rw[z0j (nx b n),z0j (nz b o e)];exact n,fun b o e _=>?_,fun b xs e=>tr b _ e id,fun b o u e=>tr b _ e id,fun b e=>tr b _ e id⟩;by_cases z:b=x
 ·subst z;exact hx
 ·exact⟨o,k b o z e⟩
theorem HOk.two (ok:HOk P w H h)(mu:Mut (H x))(nd:dx≠x)(k:∀b u,b≠x->h.get? b=some u->h2.get? b=some u)(hp:h.objs.size<=dx)
  (n1:ObjOk P w (upd (upd H dx o1) x o2) h2 dx o1)(n2:ObjOk P w (upd (upd H dx o1) x o2) h2 x o2):HOk P w (upd (upd H dx o1) x o2) h2:=fun b u e=>by
 have hn:=ok.fresh hp;by_cases zx:b=x
 ·subst zx;rw[z0g]at e;cases e;exact n2
 ·rw[z0j zx]at e;by_cases zd:b=dx
  ·subst zd;rw[z0g]at e;cases e;exact n1
  ·rw[z0j zd]at e;have st:∀c v,H c=some v->¬Mut (some v)->upd (upd H dx o1) x o2 c=some v:=fun c v q m=>by
    rw[z0j (fun z=>by subst z;rw[q]at mu;exact m mu),z0j (z0s q hn)];exact q
   refine(ok b u e).stay (fun c v hc q=>k c v (fun z=>?_) q) (fun c q=>st c _ q id) fun c xs q=>st c _ q id;subst z;rcases hc with hc|hc
   ·exact zx hc.symm
   ·rw[hc]at mu;exact mu
def tSetX (C:Addr)(a:Str)(to tv:TE):TS:=fun D σ H=>tv σ H fun v H1=>to σ H1 fun y H2=>∃x T,y=.ref x/\H2 x=some (XN C T x)/\∀dx,H2 dx=none->dx≠x->D.nx σ (upd (upd H2 dx (.xd [(a,v)])) x (XF C dx x))
theorem q8m {a:Str}{bm:List Value}{fI:Addr}{eo ev:Expr}{p pos:Pos}{to tv:TE}(q:xcIn X.K C bm fI=true)(ha:a∈(["name","row"]:List Str))(hv:PE X ev tv)(ho:PE X eo to)
  (hs:swapsWith ev (some (.Attribute eo a p)) pos.line X.env=pure false:=by rfl):PS X (.Assign [.Attribute eo a p] ev pos) (tSetX C a to tv):=by
 intro pins s σ H D I h;refine plainObj_wpAny_Assign_Attribute (thn (hv pins s σ H _ I h) fun u s1 ⟨v,H1,I1,rv,h1⟩=>thn (ho pins s1 σ H1 _ I1 h1) fun y s2 zq=>?_) hs;obtain⟨yv,H2,I2,ry,x,T,e,hx,h2⟩:=zq;subst e;obtain rfl:y=Value.ref x:=ry;obtain⟨hp,g,d,tk,os⟩:=s2;obtain⟨f,c,_,qt⟩:=y5y I2.kIn q;obtain⟨hx0,_,_⟩:=I2.hok x _ hx;have hB:typeLookup (.type "ValueError") a=pure none:=by
  rcases mem_cons.mp ha with rfl|ha
  ·rw[typeLookup_type,builtinLookup_eq_fast];kernel_rfl
  ·rcases mem_cons.mp ha with rfl|ha
   ·rw[typeLookup_type,builtinLookup_eq_fast];kernel_rfl
   ·cases ha
 have ha2:a∈quiets.tail:=by
  simp only[mem_cons,not_mem_nil,or_false]at ha;rcases ha with rfl|rfl<;>simp
 refine q2n c (qt _ (by simp)) (List.mem_of_mem_tail ha2) hB (qt a ha2) hx0 fun g2 tk2 zq=>?_;obtain⟨dx,n1,n2,gx,nx,kp⟩:=zq;have fr:H2 dx=none:=I2.hok.fresh n1;refine⟨σ,_,I2.un (Un.two (o1:=.xd [(a,v)]) (o2:=XF C dx x) (by rw[hx];trivial) n2 kp ⟨_,gx⟩ n1 fr) (I2.hok.two (by rw[hx];trivial) n2 kp n1 ⟨_,nx,fun y=>?_⟩ ⟨⟨_,_,gx,rfl⟩,⟨_,gx⟩,fun h1 h2 ⟨vs,sl,e,z⟩ k=>⟨vs,sl,k _ e,z⟩⟩),h2 dx fr n2⟩;by_cases z:y=a
 ·subst z;have:([(y,v)]:List (Str×V)).lookup y=some v:=by simp[List.lookup]
  rw[this,if_pos rfl];exact rv
 ·have:([(a,v)]:List (Str×V)).lookup y=none:=by
   have hb:(y == a)=false:=by simpa using z
   simp[List.lookup,hb]
  rw[this,if_neg z];trivial
end
end L2
set_option maxHeartbeats 1000000
namespace L2
open PySem PyProof.Rows
def x4t (C:Addr)(a:Str):Sp:=fun vs H Q _=>∃x T v,vs=[.ref x,v]/\H x=some (XN C T x)/\∀dx,H dx=none->dx≠x->Q .non (upd (upd H dx (.xd [(a,v)])) x (XF C dx x))
section
variable {P:Program}{w:World}{K:W.Frag}{mg:Str->Option Value}{base:Heap}{C fI:Addr}{bm:List Value}{a qual:Str}{st:Stmt}{fd:FuncData}
theorem y9j {p1 p2 p3 pos:Pos}(F:Fun K "__init__" qual st fI fd)(S:FnScope ["self",a] ["self",a] (z0f st))(hb:z2o st=[.Assign [.Attribute (.Name "self" p1) a p2] (.Name a p3) pos])(q:xcIn K C bm fI=true)
  (ha:a∈(["name","row"]:List Str)):FnOk P w K mg base CX0 1 fI fd ["self",a] (x4t C a):=by
 refine F.ok S (fun vs H Q E h=>?_) (fun cdv A outer s H vs Q E hr h=>?_)
 ·obtain⟨_,_,_,rfl,_⟩:=h;rfl
 ·obtain⟨x,T,v,rfl,hx,h⟩:=h;have vis:∀y∈(["self",a]:List Str),Vis (z0f st) y:=fun y hy=>by
   rcases S.par y hy with z|z
   ·exact .inl z
   ·exact .inr (.inl z)
  have db:(a == ("__debug__":Str))=false/\(a == ("__classdict__":Str))=false:=by
   simp only[mem_cons,not_mem_nil,or_false]at ha;rcases ha with rfl|rfl<;>decide
  rw[hb];refine⟨_,z0u (q8m q ha (y2n (i:=1) rfl (vis a (by simp)) db.1 db.2) (y2n (i:=0) rfl (vis "self" (by simp)))) z2i,?_⟩;refine⟨v,rfl,.ref x,rfl,x,T,rfl,hx,fun dx n1 n2=>h dx n1 n2⟩
theorem x7u {M:Model}{A:Around}{E:Value->Shared->Prop}{s:Shared}{env:Env}{t:Sem Value}{Q:Flow->Shared->Prop}(hh:A.handled=none)
  (h:wpAny M A t (fun v s1=>∃e C dx bm f,v=.ref e/\XC s1.heap C bm f vnew/\XObj s1.heap e C dx .none/\E (.ref e) s1) E s):wpAny M A (raiseStmt env (some t) none) Q E s:=by
 unfold raiseStmt;refine wpAny_bind (wpAny_mono h (fun v s1 h1=>?_) fun _ _ z=>z);obtain⟨e,C,dx,bm,f,rfl,c,⟨vs,sl,he,hv⟩,hE⟩:=h1;obtain⟨hp,g,d,tk,os⟩:=s1;obtain⟨nm,qn,N,bs,sn,sub,ab,col,dd,k0,k1,k2,k3,k5,eC,n⟩:=id c.ex;have hcB:=hasV c.up (X:="BaseException") (by decide) C
 repeat (first|with_reducible refine wpAny_field he rfl hv ?_|with_reducible refine wpAny_loadPart_at he ?_|with_reducible refine wpAny_loadPart_at eC ?_|(with_reducible refine wpAny_isSubtype_exc eC ?_;rw[hcB])|wp_step)
 exact wpAny_raiseNew_none hh hE
end
end L2
set_option maxHeartbeats 1000000
namespace L2
open PySem PyProof.Rows
noncomputable def z7i (C:Addr)(a:Str)(E:XK)(t:TA):TS:=fun _ σ H=>t σ H fun vs H1=>∃v,vs=[v]/\∀x dx,H1 x=none->H1 dx=none->dx≠x->E (.ref x) (some dx) (upd (upd H1 dx (.xd [(a,v)])) x (XO C dx x))
section
variable {P:Program}{w:World}{K:W.Frag}{mg:Str->Option Value}{base:Heap}{C fI:Addr}{bm:List Value}{a:Str}{fd:FuncData}
structure XK1 (P:Program)(w:World)(K:W.Frag)(mg:Str->Option Value)(base:Heap)(cn a:Str)(C:Addr):Prop where
 ex:∃bm fI fd,xcIn K C bm fI=true/\FnOk P w K mg base CX0 1 fI fd ["self",a] (x4t C a)/\Binds K fd ["self",a] []/\∃o,K.lookup fI=some o/\o.cls=.type "function"
 g:mg cn=some (.ref C)
 kp:keepIn K (.ref C)=true
theorem q3g {X:Cx}{cn:Str}{pins:List (Addr×Obj)}{σ:St}{H:Hp}{s:Shared}{v:V}{u:Value}{Q:Value->Shared->Prop}(c:XK1 X.prog X.w X.K X.mg X.base cn a C)(hr:Room 2 X.A)(I:Inv X pins σ H s)(r:RelV v u)
  (h:∀x dx s2,H x=none->H dx=none->dx≠x->s.heap.objs.size<=x->Inv X pins σ (upd (upd H dx (.xd [(a,v)])) x (XF C dx x)) s2->(∃bm f,XC s2.heap C bm f vnew)->Q (.ref x) s2) :
  wpAny (model X.prog X.w) X.A (call (.ref C) [u]) Q X.xe s:=by
 obtain⟨⟨bm,fI,fd,q,F,hb,oI,lk,fc⟩,g,kp⟩:=c;obtain⟨f,c,hi,_⟩:=y5y I.kIn q;obtain⟨hp,gs,d,tk,os⟩:=s;refine q0b c hi (I.kIn _ _ lk) fc (by simp[sizeLine_eq]) ?_;have gx:((hp.push (x0e [u])).push (y4n C hp.objs.size)).get? (hp.objs.size+1)=some (y4n C hp.objs.size):=get?_push_at (by rw[size_push]) rfl;have I2:Inv X pins σ (upd H (hp.objs.size+1) (XN C hp.objs.size (hp.objs.size+1))) ⟨(hp.push (x0e [u])).push (y4n C hp.objs.size),gs,d,tk,os⟩ :=
  I.laid (fun b o e=>get?_push_of_some _ (get?_push_of_some _ e)) (le_succ _) ⟨gx,⟨_,gx⟩,fun h1 h2 e k=>k _ e⟩
 have nx:H (hp.objs.size+1)=none:=I.hok.fresh (le_succ _);have rv:Vals [V.ref (hp.objs.size+1),v] [Value.ref (hp.objs.size+1),u]:=.cons rfl (.cons r .nil);refine wpAny_call (codeAny_mono (F.run _ X.stack _ _ ⟨[.ref (hp.objs.size+1),u],[]⟩ [.ref (hp.objs.size+1),u] _ (fun z H2=>z=.non/\∃dx,H dx=none/\dx≠hp.objs.size+1/\H2=upd (upd H dx (.xd [(a,v)])) (hp.objs.size+1) (XF C dx (hp.objs.size+1))) E0 ((hr.make C [u] []).mono (by omega))
  (I2.env0.make C [u] []) (by simpa using hb _ [.ref (hp.objs.size+1),u] I2.kIn rfl) rv ⟨_,_,v,rfl,z0g,fun dx n1 n2=>⟨rfl,dx,?_,n2,?_⟩⟩) fun r s2 hq=>?_)
 ·rw[z0j n2]at n1;exact n1
 ·funext b;unfold upd;by_cases z:b=hp.objs.size+1
  ·simp[z]
  ·simp[z]
 ·cases r with
  |error e=>exact False.elim hq
  |ok fl =>
   cases fl with
   |ret u2 =>
    obtain⟨z,H2,I3,rz,e1,dx,n1,n2,e2⟩:=I2.after hq;subst e1;subst e2;exact⟨rz,h _ dx s2 nx n1 n2 (le_succ _) I3 (let ⟨f,c,_⟩:=y5y I3.kIn q;⟨_,f,c⟩)⟩
   |next=>exact False.elim hq
   |brk=>exact False.elim hq
   |cont=>exact False.elim hq
theorem z8q {N:List Str}{qual:Str}{scope:Scope}{f:Addr}{cd:Value}{A:Around}{outer:List Env}{s0:Shared}{H0:Hp}{E:XK}{cn:Str}{p cpos pos:Pos}{e:Expr}{t:TA}
  (c:XK1 P w K mg base cn a C)(hr:Room 2 (cxOf (CX1 P w) P w K mg base N qual scope f cd A outer s0 H0 E).A)(hg:Gl (cxOf (CX1 P w) P w K mg base N qual scope f cd A outer s0 H0 E) cn)
  (ha:PA (cxOf (CX1 P w) P w K mg base N qual scope f cd A outer s0 H0 E) [e] t)(hdb:(cn == ("__debug__":Str))=false:=by decide)
  (he:starEach [e] (cxOf (CX1 P w) P w K mg base N qual scope f cd A outer s0 H0 E).env=(false,eval e (cxOf (CX1 P w) P w K mg base N qual scope f cd A outer s0 H0 E).env)::starEach [] (cxOf (CX1 P w) P w K mg base N qual scope f cd A outer s0 H0 E).env:=by rfl) :
  PS (cxOf (CX1 P w) P w K mg base N qual scope f cd A outer s0 H0 E) (.Raise (some (.Call (.Name cn p) [e] [] cpos)) none pos) (z7i C a E t):=by
 intro pins s σ H D I h;rw[arm_exec_Raise];refine wpAny_bind (wpAny_standAt (x7u (I.ok.hd rfl) ?_));refine wpAny_bind (wpAny_mono (wpAny_Call_Name_kw (z8l I hg c.g ?_ hdb)) (fun v s2 h2=>wpAny_bind (wpAny_standAt (wpAny_pure h2))) fun _ _ z=>z);refine callWith_K (h₀:=base) I.ok.mod.kin c.kp (thn (ha cpos pins s σ H _ I h) fun us s1 ⟨vs,H1,I1,r,v,e1,h1⟩=>⟨I1.kIn,?_⟩) he rfl;subst e1;obtain⟨u,rfl,ru⟩:=z8w r;refine q3g c hr I1 ru fun x dx s2 n1 n2 n3 n4 I2 ⟨bm,f2,xc⟩=>?_;have hx:∃vs sl,s2.heap.get? x=some { cls:=.ref C,dict:=some dx,data:=.fields vs,slots:=sl }/\vs[1]? = some .none:=by
  obtain⟨⟨vs,sl,e1,e2⟩,_,_⟩:=I2.hok x _ z0g;exact⟨vs,sl,e1,e2⟩
 have xo:XObj s2.heap x C dx .none:=hx;refine⟨x,C,dx,bm,f2,rfl,xc,xo,?_⟩;have I3:Inv (cxOf (CX1 P w) P w K mg base N qual scope f cd A outer s0 H0 E) pins σ (upd (upd (upd H1 dx (.xd [(a,v)])) x (XF C dx x)) x (XO C dx x)) s2:=by
  have:=I2.write (x:=x) (e:=x) (o:=XO C dx x) (h':=s2.heap) (t':=s2.toks) (by rw[z0g];trivial) (.inl rfl) (fun b u _ q=>q) (by obtain⟨_,_,q,_⟩:=hx;exact⟨_,q⟩) (XO.ok xo);exact this
 rw[x6d]at I3;exact j3b I3 z0g xo (.inl rfl) (le_trans I1.sz n4) (h1 x dx n1 n2 n3)
end
end L2
set_option maxHeartbeats 1000000
namespace L2
open PySem PyProof.Rows
section
variable {X:Cx}{pins:List (Addr×Obj)}{σ:St}{H:Hp}{s:Shared}{M:Model}{A:Around}{E:Value->Shared->Prop}
theorem Inv.frame {σ2:St}{h2:Heap}{m:Str->Option Value}(I:Inv X pins σ H s)(hs:Heap.SameBut X.env.locals s.heap h2)(hn:h2.Ns X.env.locals m)
  (hl:∀(i:Nat)(x:Str)(v:V),X.N[i]? = some x->σ2[i]? = some (some v)->Vis X.env.scope x->∃u,RelV v u/\Look X.env h2 m x u)(hz:σ2.length=σ.length):Inv X pins σ2 H { s with heap:=h2 }:=by
 have nb:∀b o,X.s₀.heap.get? b=some o->b≠X.env.locals:=fun b o e=>ne_of_lt (lt_of_lt_of_le (lt_size e) I.ok.above);have tr:HOk X.prog X.w H h2:=fun b ob e=>by
  refine(I.hok b ob e).stay (fun c u hc q=>(hs.2 c ?_).trans q) (fun _ q=>q) fun _ _ q=>q;rintro rfl;rcases hc with rfl|hc
  ·rw[I.free]at e;cases e
  ·rw[I.free]at hc;cases hc
 refine⟨I.ok,I.os,I.bare,⟨fun b o e n hb hx=>(hs.2 b (nb b o e)).trans (I.base.keep b o e n hb hx),fun b o e n hb hx=>?_,I.base.free,fun b o e hx=>?_,I.base.tups,I.base.frzs,I.base.tbls⟩,⟨m,hn,hl⟩,fun y c e=>?_,I.free,I.freeC,fun p hp=>?_,tr,hz.trans I.len⟩
 ·obtain⟨sl,e1⟩:=I.base.slot b o e n hb hx;exact⟨sl,(hs.2 b (nb b o e)).trans e1⟩
 ·obtain⟨o1,e1⟩:=I.base.there b o e hx;exact⟨o1,(hs.2 b (nb b o e)).trans e1⟩
 ·obtain⟨u,z⟩:=I.cell y c e;exact⟨u,z.sameBut hs (I.cne y c e)⟩
 ·obtain⟨e,n,ne,nf,d⟩:=I.pin p hp;exact⟨(hs.2 p.1 ne).trans e,n,ne,nf,d⟩
theorem j3r {i:Nat}{n:Str}{pos:Pos}{Q:Unit->Shared->Prop}(I:Inv X pins σ H s)(hN:X.N.Nodup)(hi:X.N[i]? = some n)(hx:X.env.kindOf n=some .local)(h:∀s2,Inv X pins (σ.set i none) H s2->Q () s2) :
  wpAny M A (do bindName X.env n .none;unbindBehindTheSuite X.env n pos) Q E s:=by
 have hk:X.env.scope.names.lookup n=some .local:=hx;refine wpAny_bind (wpAny_bindName (z9f (v:=.non) I hN hi (.inl hk) rfl (fun s1 I1=>?_) (.inr hk)));unfold unbindBehindTheSuite;refine wpAny_onRaise ?_;obtain⟨m,hn,hl⟩:=I1.loc;have hiσ:i<σ.length:=by rw[I.len];exact(List.getElem?_eq_some_iff.mp hi).1
 obtain⟨u,ru,lk⟩:=hl i n .non hi (by rw[getElem?_set_self hiσ]) (.inl hk);have hm:m n=some u:=by
  rcases lk with ⟨_,e⟩|⟨k,_⟩
  ·exact e
  ·rw[hx]at k;rcases k with k|k<;>cases k
 refine wpAny_unbindName_local hx hn hm (by rw[I.ok.kind];rfl) fun h2 u2 hn2 hs=>h _ ?_;refine I1.frame (σ2:=σ.set i none) hs hn2 (fun j y v e1 e2 e3=>?_) (by simp);by_cases hj:j=i
 ·subst hj;rw[getElem?_set_self hiσ]at e2;cases e2
 ·rw[getElem?_set_ne (Ne.symm hj)]at e2;obtain⟨u3,r3,q⟩:=hl j y v e1 (by rw[getElem?_set_ne (Ne.symm hj)];exact e2) e3;refine⟨u3,r3,?_⟩;have ny:y≠n:=fun z=>hj (y6j hN e1 (z ▸ hi));rcases q with ⟨k,e⟩|⟨k,c,e,z⟩
  ·exact .inl ⟨k,by simp[ny,e]⟩
  ·exact .inr ⟨k,c,e,z.sameBut hs (I1.cne y c e)⟩
noncomputable abbrev Cx.in_ (X:Cx)(e:Value):Cx:={ X with A:=X.A.mark (some e),calm:=false }
theorem Cx.Ok.in_ {e:Value}(ok:X.Ok):(X.in_ e).Ok :=
 ⟨ok.mod,ok.kind,ok.glob,ok.blt,ok.above,ok.inj,ok.has,ok.cab,(fun z=>nomatch z),ok.frames,ok.stk,ok.exf,ok.bs,ok.bsz,ok.noex,ok.exfs,ok.funs,ok.frf,ok.lam⟩
theorem Inv.in_ {e:Value}(I:Inv X pins σ H s):Inv (X.in_ e) pins σ H s:=⟨I.ok.in_,I.os,I.bare,I.base,I.loc,I.cell,I.free,I.freeC,I.pin,I.hok,I.len⟩
noncomputable def fxIn (K:W.Frag)(C:Addr):Bool:=clIn K C mroV fun _ _=>true
theorem k0p {K:W.Frag}{h:Heap}{C:Addr}(Y:K.In h)(q:fxIn K C=true):∃nm q N bs hd sn sub ab col dd k0 k1 k2 k3 k5 nid,h.get? C=some (excClassObj nm q C N bs mroV hd sn sub ab col dd k0 k1 k2 k3 k5 nid):=by
 obtain⟨dd,k,k0,k1,k2,k3,n,k5,ho,hm,hdel,-⟩:=j4m q;obtain⟨nm,bs,mro,ns,qn,hd,sn,sub,ab,col,del⟩:=k;dsimp only at hm hdel;subst hm hdel;exact⟨nm,qn,ns,bs,hd,sn,sub,ab,col,dd,k0,k1,k2,k3,k5,n,Y _ _ ho⟩
theorem exm {K:W.Frag}{x C CF dx:Addr}{bm:List Value}{f:Str->Option Value}{hd:Value}{Q:Bool->Shared->Prop}(Y:K.In s.heap)(q:fxIn K CF=true)(c:XC s.heap C bm f vnew)(hb:bm.contains (.ref CF)=true)(o:XObj s.heap x C dx hd)(h:Q true s) :
  wpAny M A (excMatches (.ref x) (.ref CF)) Q E s:=by
 obtain⟨hp,g,d,t,os⟩:=s;obtain⟨nm,qn,N,bs,sn,sub,ab,col,dd,k0,k1,k2,k3,k5,eC,n⟩:=id c.ex;obtain⟨nm2,q2,N2,bs2,hd2,sn2,sub2,ab2,col2,dd2,j0,j1,j2,j3,j5,nid2,eF⟩:=k0p Y q;obtain⟨vs,sl,he,_⟩:=o;have hcB:(Value.ref CF::mroV).contains (.type "BaseException")=true:=by rw[contains_cons];simp
 have hcC:(Value.ref C::bm).contains (.ref CF)=true:=by rw[contains_cons,hb,Bool.or_true]
 have f:=tc_notTuple;unfold excMatches
 repeat (first|with_reducible refine wpAny_loadPart_at he ?_|with_reducible refine wpAny_loadPart_at eF ?_|(with_reducible refine wpAny_isSubtype_exc eF ?_;rw[hcB])|(with_reducible refine wpAny_isSubtype_exc eC ?_;rw[hcC])|wp_step)
 exact h
end
end L2
set_option maxHeartbeats 1000000
namespace L2
open PySem PyProof.Rows
def j5c (K:W.Frag)(CF C:Addr):Prop:=∃bm fI,xcIn K C bm fI=true/\bm.contains (.ref CF)=true
def tTry (K:W.Frag)(CF:Addr)(sp:Sp)(t:TA)(ie iy:Nat):TS:=fun D σ H=>t σ H fun vs H1=>sp vs H1 (fun _ H2=>D.nx σ H2) (fun e od H2=>∃x C dx,e=.ref x/\od=some dx/\H2 x=some (XO C dx x)/\j5c K CF C /\
 D.nx (((σ.set ie (some (.ref x))).set iy (some (.ref x))).set ie none) H2)
section
variable {X:Cx}{pins:List (Addr×Obj)}{σ:St}{H:Hp}{s:Shared}{M:Model}{A:Around}{E:Value->Shared->Prop}{CF x C dx T:Addr}
theorem Inv.out_ {e:Value}(ok:X.Ok)(I:Inv (X.in_ e) pins σ H s):Inv X pins σ H s:=⟨ok,I.os,I.bare,I.base,I.loc,I.cell,I.free,I.freeC,I.pin,I.hok,I.len⟩
theorem q7b {s1:Shared}(I:Inv X pins σ H s1)(n:s1.heap.objs.size<=T):∀b∈[T],(b∈X.ex\/X.s₀.heap.objs.size<=b)/\b≠X.env.locals/\(∀x c,X.env.cells.lookup x=some c->c≠b)/\∀p∈X.pn++pins,p.1≠b:=fun b hb=>by
 cases mem_singleton.mp hb;have lt:∀c o,s1.heap.get? c=some o->c≠T:=fun c o e=>ne_of_lt (lt_of_lt_of_le (lt_size e) n);refine⟨.inr (le_trans I.sz n),?_,fun y c e=>?_,fun p hp=>?_⟩
 ·exact Ne.symm (ne_of_lt (lt_of_lt_of_le I.lt n))
 ·obtain⟨v,o,ho,_⟩:=I.cell y c e;exact lt c o ho
 ·obtain⟨e,_⟩:=I.pin p hp;exact lt p.1 _ e
theorem j7r {n y cf:Str}{ie iy:Nat}{p2 p3 p4 p5 hpos:Pos}{H2:Hp}{s2:Shared}{D:Ends}(I:Inv X pins σ H s)(hst:X.stack=X.env::X.outer/\X.env.frame=some X.env.locals)(hne:X.xe=fun _ _=>False)
  (hN:X.N.Nodup)(hi:X.N[ie]? = some n)(hl:X.env.kindOf n=some .local)(hy:X.N[iy]? = some y)(hyl:Loc X.env.scope y)(hyf:X.fn y=true\/X.env.scope.names.lookup y=some .local)(gcf:Gl X cf)(mcf:X.mg cf=some (.ref CF))(qcf:fxIn X.K CF=true)(bl:j5c X.K CF C)
  (os:s2.os=s.os)(bare:AllBare s2.gens)(un:Un (frs X.stack) [] H H2 s.heap s2.heap)(ok:HOk X.prog X.w H2 s2.heap)(hx:H2 x=some (XO C dx x))(xo:XObj s2.heap x C dx (.ref T))(tr:TrOk s2.heap T)(hT:H2 T=none)(nT:s.heap.objs.size<=T)
  (hd:(cf == ("__debug__":Str))=false)(hdn:(n == ("__debug__":Str))=false)(hcn:(n == ("__classdict__":Str))=false)
  (hs:swapsWith (.Name n p4) (some (.Name y p3)) p5.line X.env=pure false)
  (q:D.nx (((σ.set ie (some (.ref x))).set iy (some (.ref x))).set ie none) H2) :
  wpAny (model X.prog X.w) X.A (noteFrame (.ref x) X.env) (fun _ s3=>wpAny (model X.prog X.w) X.A (setFlight (.ref x) none) (fun _ s4=>wpAny (model X.prog X.w) X.A (handleBy (.ref x) X.env [.ExceptHandler (some (.Name cf p2)) (some n) [.Assign [.Name y p3] (.Name n p4) p5] hpos]) (SP X pins D) E s4) E s3) E s2:=by
 have I1:Inv X pins σ H2 s2:=I.call' os un ok bare (fun b z=>absurd z (by simp));have sz:s.heap.objs.size<=s2.heap.objs.size:=by
  obtain⟨bm,fI,q1,q2⟩:=bl;cases Nat.lt_or_ge s2.heap.objs.size s.heap.objs.size with
  |inr h=>exact h
  |inl h =>
   obtain⟨_,_,g,_⟩:=tr;exact absurd (lt_of_lt_of_le (lt_trans (lt_size g) h) nT) (lt_irrefl _)
 have fr:X.A.frames=some (X.env::X.outer):=by rw[<-hst.1];exact I.ok.frames
 refine q5g (base:=X.base) fr (by rw[<-hst.1];exact I1.stack) hst.2 xo tr (j6t xo hx hT) fun h2 nt=>?_;obtain⟨⟨T2,n2,x2,t2⟩,k,k2⟩:=id nt;have nt2:y9t X.stack x C dx (fun b=>b=T) s2.heap h2:=by rw[hst.1];exact nt
 obtain⟨un2,ok2⟩:=q1w (P:=X.prog) (w:=X.w) (ex:=[T]) I1.hok I1.stkFree (fun b z=>by rw[z];exact hT) hx nt2 (fun b z=>by simp[z]);have chT:∀b∈[T],(b∈X.ex\/X.s₀.heap.objs.size<=b)/\b≠X.env.locals/\(∀x c,X.env.cells.lookup x=some c->c≠b)/\∀p∈X.pn++pins,p.1≠b:=q7b I nT;have I2:Inv X pins σ H2 { s2 with heap:=h2 }:=I1.call' rfl un2 ok2 bare chT;have hT2:H2 T2=none:=I1.hok.fresh n2;obtain⟨bm,fI,qC,hbm⟩:=bl;refine wpAny_handleBy_cons (codeAny_handlers_test ?_) (by intro z;cases z);refine z8l (X:=X.in_ (.ref x)) I2.in_ gcf mcf ?_ hd;obtain⟨f,xc,_⟩:=y5y I2.kIn qC;refine exm I2.kIn qcf xc hbm x2 ?_;refine codeAny_handlers_suite_as ?_;obtain⟨vs,sl,gx,hv⟩:=id x2;obtain⟨oT,ts,gT,dT,h3⟩:=id t2;refine wpAny_setFlight_none gx rfl hv gT dT (Array.getElem?_eq_some_iff.mp h3).1 ?_;have nTx:T2≠x:=fun z=>by rw[z,hx]at hT2;cases hT2
 have kp:∀b o,b≠T2->h2.get? b=some o->(h2.update T2 (Obj.mapFields (·.setIfInBounds 3 .none))).get? b=some o:=fun b o nb e=>(get?_update_other _ _ (Ne.symm nb)).trans e;have un3:Un (frs X.stack) [T2] H2 H2 h2 (h2.update T2 (Obj.mapFields (·.setIfInBounds 3 .none))) :=
  ⟨fun b o e _ _ nb=>kp b o (by simpa using nb) e,fun b o e _ _ nb=>⟨o.slots,kp b o (by simpa using nb) e⟩,fun _ _ _ n _=>n,fun b o e nb=>⟨o,kp b o (by simpa using nb) e⟩,fun _ _ z=>z,fun _ _ _ z=>z,fun _ z=>z⟩
 have ok3:HOk X.prog X.w H2 (h2.update T2 (Obj.mapFields (·.setIfInBounds 3 .none))):=fun b o e=>by
  refine(I2.hok b o e).stay (fun c u hc z=>kp c u (fun r=>?_) z) (fun _ z=>z) fun _ _ z=>z;subst r;rcases hc with rfl|hc
  ·rw[hT2]at e;cases e
  ·rw[hT2]at hc;cases hc
 have I3:Inv X pins σ H2 { s2 with heap:=h2.update T2 (Obj.mapFields (·.setIfInBounds 3 .none)) }:=I2.call' rfl un3 ok3 bare (q7b I (le_trans sz n2));refine z9f (v:=.ref x) I3 hN hi (.inl hl) rfl (fun s4 I4=>?_) (.inr hl);have body:PSs (X.in_ (.ref x)) [.Assign [.Name y p3] (.Name n p4) p5] _:=z0u (z2t hN hy hyl (y2n hi (.inl hl) hdn hcn) hs hyf) z2i;have hiσ:ie<σ.length:=by rw[I.len];exact(List.getElem?_eq_some_iff.mp hi).1
 refine wpAny_mono (body pins s4 _ H2 { nx:=fun σ' H'=>σ' = (σ.set ie (some (.ref x))).set iy (some (.ref x))/\H' = H2,rt:=fun _ _=>False } I4.in_ ⟨.ref x,by rw[getElem?_set_self hiσ],rfl,rfl⟩) (fun fl s5 h5=>?_) fun e s5 h5=>?_
 ·cases fl with
  |next =>
   obtain⟨σ5,H5,I5,rfl,rfl⟩:=h5;exact j3r (I5.out_ I.ok) hN hi hl fun s6 I6=>⟨_,_,I6,q⟩
  |ret u=>obtain⟨_,_,_,_,_,z⟩:=h5;exact z.elim
  |brk=>obtain⟨_,_,_,z⟩:=h5;exact z.elim
  |cont=>obtain⟨_,_,_,z⟩:=h5;exact z.elim
 ·have z:X.xe e s5:=h5;rw[hne]at z;exact z.elim
end
end L2
set_option maxHeartbeats 1000000
namespace L2
open PySem PyProof.Rows
section
variable {X:Cx}
theorem j6p {k:Nat}{f:Addr}{fd:FuncData}{ps:List Str}{sp:Sp}{g n y cf:Str}{ie iy:Nat}{p2 p3 p4 p5 hpos pg cpos epos pos:Pos}{CF:Addr}{e:Expr}{es:List Expr}{t:TA}
  (F:FnOk X.prog X.w X.K X.mg X.base (CX1 X.prog X.w) k f fd ps sp)(hr:Room k X.A)(hg:Gl X g)(hm:X.mg g=some (.ref f))(hk:keepIn X.K (.ref f)=true)(hb:Binds X.K fd ps [])(ha:PA X (e::es) t)
  (hst:X.stack=X.env::X.outer/\X.env.frame=some X.env.locals)(hne:X.xe=fun _ _=>False)(hN:X.N.Nodup)(hi:X.N[ie]? = some n)(hl:X.env.kindOf n=some .local)(hy:X.N[iy]? = some y)(hyl:Loc X.env.scope y)
  (hyf:X.fn y=true\/X.env.scope.names.lookup y=some .local)(gcf:Gl X cf)(mcf:X.mg cf=some (.ref CF))(qcf:fxIn X.K CF=true)
  (hd:(cf == ("__debug__":Str))=false:=by decide)(hdn:(n == ("__debug__":Str))=false:=by decide)(hcn:(n == ("__classdict__":Str))=false:=by decide)(hdg:(g == ("__debug__":Str))=false:=by decide)
  (hs:swapsWith (.Name n p4) (some (.Name y p3)) p5.line X.env=pure false:=by rfl)(he:starEach (e::es) X.env=(false,eval e X.env)::starEach es X.env:=by rfl)(hpl:(backTo cpos (starEach es X.env)).any (·.1)=false:=by rfl)
  (hse:swapsWith (.Call (.Name g pg) (e::es) [] cpos) none epos.line X.env=pure false:=by rfl) :
  PS X (.Try [.Expr (.Call (.Name g pg) (e::es) [] cpos) epos] [.ExceptHandler (some (.Name cf p2)) (some n) [.Assign [.Name y p3] (.Name n p4) p5] hpos] [] [] pos) (tTry X.K CF sp t ie iy):=by
 intro pins s σ H D I h;refine wpAny_Try_except (wpAny_execs_cons ?_);refine wpAny_Expr_any ?_ I.quiet hse;refine wpAny_Call_Name_kw (z8l I hg hm ?_ hdg);refine callWith_K (h₀:=X.base) I.ok.mod.kin hk (wpAny_mono (ha cpos pins s σ H _ I h) (fun us s1 ⟨vs,H1,I1,r,q⟩=>⟨I1.kIn,?_⟩) fun e s1 z=>?_) he hpl
 ·have hl2:(us++[]).length=ps.length:=by rw[append_nil,<-r.length];exact F.len _ _ _ _ q
  have bt:=hb s1 us I1.kIn hl2;rw[append_nil]at bt;refine wpAny_call (codeAny_mono (F.run X.A X.stack s1 H1 ⟨us,[]⟩ us vs _ _ hr I1.env0 bt r q) fun r2 s2 hq=>?_);cases r2 with
  |error e =>
   obtain⟨x,C,dx,T,H2,rfl,os,bare,un,ok,hx,xo,tr,hT,nx,nT,x2,C2,dx2,e1,e2,hx2,bl,q⟩:=hq;cases e1;cases e2;have eC:C2=C:=by
    obtain⟨⟨v1,l1,g1⟩,_⟩:=ok x _ hx2;obtain⟨v2,l2,g2,_⟩:=xo;rw[g1]at g2;cases g2;rfl
   subst eC;exact j7r I1 hst hne hN hi hl hy hyl hyf gcf mcf qcf bl os bare un ok hx xo tr hT nT hd hdn hcn hs q
  |ok fl =>
   cases fl with
   |ret u =>
    obtain⟨v,H2,I2,rv,q2⟩:=I1.after hq;exact wpAny_execs_nil (wpAny_execs_nil ⟨σ,H2,I2,q2⟩)
   |next=>exact False.elim hq
   |brk=>exact False.elim hq
   |cont=>exact False.elim hq
 ·rw[hne]at z;exact z.elim
end
end L2
set_option maxHeartbeats 1000000
namespace L2
open PySem PyProof.Rows Builtin Builtin.ObjectAttr
theorem j0l:typeLookup (.type "ValueError") "__class__" = pure (some (.builtin "object.__class__")):=by rw[typeLookup_type,builtinLookup_eq_fast];kernel_rfl
section
variable {prog:Program}{w:World}{A:Around}{E:Value->Shared->Prop}{h:Heap}{g:Array GenState}{d:Drawn}{t:Nat}{os:OsState}{C x:Addr}{bm:List Value}{nid:String}{f:Str->Option Value}{o:Obj}
theorem q8y {R:Result->Shared->Prop}(c:XC h C bm f nid)(hx:h.get? x=some o)(hc:o.cls=.ref C)(hq:R (.ok (.ret (.ref C))) ⟨h,g,d,t,os⟩) :
  codeAny (model prog w) A (.call (.builtin "getset_descriptor.__get__") ⟨[.builtin "object.__class__",.ref x,.ref C],[]⟩) R ⟨h,g,d,t,os⟩:=by
 obtain⟨nm,qn,N,bs,sn,sub,ab,col,dd,k0,k1,k2,k3,k5,eC,n⟩:=id c.ex;have t5:(⟨h,g,d,t,os⟩:Shared).TypeIs (.builtin "object.__class__") "getset_descriptor":=F.typeOf_object_class;have hcB:(Value.ref C::bm).contains (.type (".".intercalate ("object.__class__".cutAt '.').dropLast))=true:=by rw[F.owner_object_class];exact hasV c.up (by decide) C
 refine codeAny_call_builtin F.slot_gs_get.plain F.entry_gs_get (F.slot_gs_get.check _ _ _ _ _ _ _ _ t5 (F.args_gs_get _ _ _) ?_)
 repeat (any_goals (first|assumption|(with_reducible refine wpAny_loadPart_at hx ?_;rw[hc])|(with_reducible refine wpAny_isSubtype_exc eC ?_;rw[hcB])|wp_step))
 refine⟨Code.quiet_builtin _ (by decide +kernel),codeAny_builtin F.entry_object_class ?_⟩
 repeat (any_goals (first|assumption|(with_reducible refine wpAny_loadPart_at hx ?_;rw[hc])|wp_step))
theorem x9n {tk:Tok}{Q:Fin->Shared->Prop}(c:XC h C bm f nid)(hfa:f "__class__" = none)(hx:h.get? x=some o)(hc:o.cls=.ref C)(hq:Q (.done (.ret (.ref C))) ⟨h,g,d,t,os⟩) :
  wpAny (model prog w) A (Builtin.«object.__getattribute__» ⟨[.ref x,.str "__class__" tk],[]⟩) Q E ⟨h,g,d,t,os⟩:=by
 have t5:(⟨h,g,d,t,os⟩:Shared).TypeIs (.builtin "object.__class__") "getset_descriptor":=F.typeOf_object_class;have f5:=F.typeOf_object_class;have f6:=F.slot_gs_get.lookup;have f7:=F.slot_gs_set.lookup
 repeat (any_goals (first|assumption|(with_reducible refine wpAny_loadPart_at hx ?_;rw[hc])|(with_reducible refine c.look (by simp) j0l ?_;rw[hfa])|wp_step))
 refine q8y c hx hc ?_
 repeat (any_goals (first|assumption|wp_step))
theorem q2g {Q:Option Value->Shared->Prop}(c:XC h C bm f nid)(hg:f "__getattribute__" = none)(hh:f "__getattr__" = none)(hfa:f "__class__" = none)(hx:h.get? x=some o)(hc:o.cls=.ref C)(hq:Q (some (.ref C)) ⟨h,g,d,t+1,os⟩) :
  wpAny (model prog w) A (getAttr? (.ref x) "__class__") Q E ⟨h,g,d,t,os⟩:=by
 have FB:=F.attrBase_ValueError;have f3:=FB.ga.bind (.ref x);have z0:(false&&onTheHeap (Value.builtin "BaseException.__getattribute__"))=false:=rfl;have z2:(Value.builtin "BaseException.__getattribute__" == Value.builtin "object.__getattribute__")=false:=by decide +kernel
 have z1:(onTheHeap (Value.ref C)&&Value.builtin "BaseException.__getattribute__" == Value.builtin "object.__getattribute__")=false:=by rw[z2];rfl
 unfold getAttr? getAttrBy?
 repeat (any_goals (first|assumption|(with_reducible refine wpAny_loadPart_at hx ?_;rw[hc])|(with_reducible refine c.look (by simp) FB.ga.lookup ?_;rw[hg])|(with_reducible refine c.look (by simp) FB.noGetattr ?_;rw[hh])|wp_step))
 refine codeAny_call_builtin FB.ga.plain F.entry_bexc_ga (q5e c hx hc (x9n c hfa hx hc ?_))
 repeat (any_goals (first|assumption|wp_step))
end
section
theorem q0t {K:W.Frag}{C x fI:Addr}{bm:List Value}(q:xcIn K C bm fI=true):W.KitX K (.ref x) (.ref C) (fun h=>∃o,h.get? x=some o/\o.cls=.ref C) where
 ty:=fun M h _ ⟨o,h1,h2⟩=>h2 ▸ (W.Looks.ld h1).andThen .now
 it:=fun M h Y _=>by
  obtain⟨f,c,_⟩:=y5y Y q;obtain⟨nm,qn,N,bs,sn,sub,ab,col,dd,k0,k1,k2,k3,k5,eC,n⟩:=c.ex;intro A' Q' E' s' k q;unfold isType loadHead;exact wpAny_bind (wpAny_loadPart (k _ _ eC) (wpAny_pure q))
 ne:=fun h tp dd its n sl Y htp=>Bool.eq_false_iff.mpr fun z=>by
  obtain⟨f,c,_⟩:=y5y Y q;obtain⟨nm,qn,N,bs,sn,sub,ab,col,dd,k0,k1,k2,k3,k5,eC,n⟩:=c.ex;have e:C=tp:=Value.ref.inj (beq_iff_eq.mp z);subst e;rw[eC]at htp;exact absurd (Value.type.inj (congrArg Obj.cls (Option.some.inj htp))) (by decide)
 ca:=fun {prog w A E Q s} Y ⟨o,h1,h2⟩ k=>by
  obtain⟨f,c,_,no⟩:=y5y Y q;obtain⟨hp,g,d,t,os⟩:=s;exact q2g c (no _ (by simp)) (no _ (by simp)) (no _ (by simp)) h1 h2 k
end
end L2
set_option maxHeartbeats 1000000
namespace L2
open PySem PyProof.Rows
noncomputable def z6z (K:W.Frag)(a:Str)(te:TE):TE:=fun σ H Q=>te σ H fun y H1=>∃x C dx v bm fI,y=.ref x/\H1 x=some (XO C dx x)/\H1 dx=some (.xd [(a,v)])/\xcIn K C bm fI=true/\(∃z,v=.str z)/\Q v H1
theorem q4n {a:Str}(ha:a∈(["name","row"]:List Str)):a∈quiets.tail/\typeLookup (.type "ValueError") a=pure none:=by
 simp only[mem_cons,not_mem_nil,or_false]at ha;rcases ha with rfl|rfl
 ·exact⟨by simp,by rw[typeLookup_type,builtinLookup_eq_fast];kernel_rfl⟩
 ·exact⟨by simp,by rw[typeLookup_type,builtinLookup_eq_fast];kernel_rfl⟩
section
variable {X:Cx}{e:Expr}{te:TE}{a:Str}{pos:Pos}
theorem z9e (ha:a∈(["name","row"]:List Str))(he:PE X e te)(hb:attributeBase e a X.env (eval e X.env)=eval e X.env):PE X (.Attribute e a pos) (z6z X.K a te):=by
 intro pins s σ H Q I h;refine x6y hb (thn (he pins s σ H _ I h) fun u s1 ⟨y,H1,I1,ry,x,C,dx,v,bm,fI,e1,hx,hd,q,⟨z,e2⟩,h1⟩=>?_);subst e1;subst e2;obtain rfl:u=Value.ref x:=ry;obtain⟨f,c,_,no⟩:=y5y I1.kIn q;obtain⟨⟨vs,sl,gx⟩,_,_⟩:=I1.hok x _ hx;obtain⟨mA,nx,rel⟩:=(show ∃mA,s1.heap.Ns1 dx mA/\∀f,RelO (([(a,V.str z)]:List (Str×V)).lookup f) (mA f) from I1.hok dx _ hd);obtain⟨aq,aB⟩:=q4n ha;have ra:=rel a;have lk:([(a,V.str z)]:List (Str×V)).lookup a=some (.str z):=by simp[List.lookup]
 rw[lk]at ra;cases hv:mA a with
 |none=>rw[hv]at ra;exact ra.elim
 |some u2 =>
  rw[hv]at ra;obtain⟨tk,rfl⟩:=(show ∃t,u2=Value.str z t from ra);obtain⟨hp,g,d,t,os⟩:=s1;exact x2k c (no _ (by simp)) (no _ (by simp)) (List.mem_of_mem_tail aq) aB (no a aq) gx nx hv rfl ⟨.str z,H1,I1.tok _,⟨tk,rfl⟩,h1⟩
def rIsX (K:W.Frag):List V->Hp->VK->Prop:=fun xs H Q=>∃x c cv t b,xs=[x,c]/\((∃T,c=.ty T/\cv=.type T) \/ ∃C2,c=.ref C2/\cv=.ref C2) /\
 ((x=.non/\t=.type "NoneType") \/ ∃y C dx bm fI,x=.ref y/\H y=some (XO C dx y)/\xcIn K C bm fI=true/\t=.ref C)/\kitOne K t cv=some b/\Q (.bl b) H
theorem z6e:z8i X (.builtin "isinstance") (rIsX X.K):=by
 intro pins s σ H xs us Q I r h;obtain⟨x,c,cv,t,b,rfl,hc,hx,e,q⟩:=h;obtain⟨u,u2,rfl,rx,rt⟩:=q8x r;have e2:u2=cv:=by
  rcases hc with ⟨T,rfl,rfl⟩|⟨C2,rfl,rfl⟩
  ·exact rt
  ·exact rt
 subst e2;rcases hx with ⟨rfl,rfl⟩|⟨y,C,dx,bm,fI,rfl,hy,xc,rfl⟩
 ·cases(show u=Value.none from rx);exact kia_one kitx_none I.kIn True.intro e (fun z=>nomatch z) fun tk=>⟨.bl b,H,I.tok tk,rfl,q⟩
 ·obtain rfl:u=Value.ref y:=rx;obtain⟨⟨vs,sl,gx⟩,_,_⟩:=I.hok y _ hy;exact kia_one (q0t xc) I.kIn ⟨_,gx,rfl⟩ e (fun z=>nomatch z) fun tk=>⟨.bl b,H,I.tok tk,rfl,q⟩
theorem y4y {x:Str}{C:Addr}(hg:Gl X x)(hm:X.mg x=some (.ref C))(hd:(x == ("__debug__":Str))=false:=by decide):PE X (.Name x pos) (tC (.ref C)):=fun pins s σ H Q I h=>z8l I hg hm ⟨.ref C,H,I,rfl,h⟩ hd
noncomputable def isNo:Value->Bool
 |.none=>true
 |_=>false
noncomputable def isN:V->Bool
 |.non=>true
 |_=>false
theorem q1s {v:V}{w:Value}(r:RelV v w):isNo w=isN v:=by
 cases v with
 |non=>cases(show w=.none from r);rfl
 |ref a=>cases(show w=.ref a from r);rfl
 |int i=>obtain⟨t,rfl⟩:=r;rfl
 |str i=>obtain⟨t,rfl⟩:=r;rfl
 |bl i=>cases(show w=.bool i from r);rfl
 |_=>first|(obtain⟨t,rfl⟩:=r;rfl)|(cases r;rfl)
theorem x2p:∀{xs:List V}{us:List Value},Vals xs us->us.any isNo=xs.any isN
 |_,_,.nil=>rfl
 |_,_,.cons r rs=>by simp only[any_cons,q1s r,x2p rs]
theorem x1n {w:Value}:∀{xs:List V}{us:List Value},Vals xs us->w∈us->∃v∈xs,RelV v w
 |_,_,.nil,h=>by cases h
 |_,_,.cons r rs,h=>by
  rcases mem_cons.mp h with rfl|h
  ·exact⟨_,mem_cons_self,r⟩
  ·obtain⟨v,hv,r'⟩:=x1n rs h;exact⟨v,mem_cons_of_mem _ hv,r'⟩
theorem x8u (hu:X.A.units+100<cLine):OpR X (compareOp .In) (fun x y H Q=>∃p,y=.ref p/\∃xs,x=.non/\H p=some (.lst xs)/\(∀v∈xs,v=.non \/ ∃a ys,v=.ref a/\H a=some (.tup ys))/\Q (.bl (xs.any isN)) H):=by
 intro pins s σ H x y v u Q I rx ry h;obtain⟨p,rfl,xs,rfl,hp,hx,q⟩:=h;cases(show v=.none from rx);cases(show u=.ref p from ry);obtain⟨its,r,pl,hz⟩:=I.list (SqL.of hp);refine SeqAt.in_listAt isNo pl.isList (fun w hw=>?_) ⟨.bl _,H,I,rfl,?_⟩
 ·obtain⟨v',hv,rv⟩:=x1n r (by simpa using hw);rcases hx v' hv with rfl|⟨a,ys,rfl,ha⟩
  ·cases(show w=.none from rv);exact .same _
  ·cases(show w=.ref a from rv);obtain⟨its2,r2,pl2,hz2⟩:=I.tuple (SqT.of ha);exact SeqAt.EqAt.tuple_none pl2 (lt_of_le_of_lt (by show X.A.units+1<=_;omega) hu)
 ·rw[show its.toArray.any isNo=its.any isNo by simp,x2p r];exact q
end
end L2
namespace VL
open PySem L2
noncomputable def isND:D->Bool
 |.non=>true
 |_=>false
theorem j1x {F:Hp}{d:D}{v:V}(h:Rep F d v):isN v=isND d:=by
 cases d with
 |non=>cases(show v=.non from h);rfl
 |int i=>cases(show v=.int i from h);rfl
 |str i=>cases(show v=.str i from h);rfl
 |bl i=>cases(show v=.bl i from h);rfl
 |lst xs=>obtain⟨a,vs,rfl,_⟩:=h;rfl
 |tup xs=>obtain⟨a,vs,rfl,_⟩:=h;rfl
 |dct xs=>obtain⟨a,vs,rfl,_⟩:=h;rfl
 |_=>first|(cases h;rfl)|(obtain⟨a,rfl⟩:=h;rfl)
theorem x3d {F:Hp}:∀{ds:List D}{vs:List V},Reps F ds vs->vs.any isN=ds.any isND
 | [],vs,h=>by cases(show vs=[] from h);rfl
 |d::ds,vs,h=>by obtain⟨v,r,rfl,h1,h2⟩:=h;simp only[any_cons,j1x h1,x3d h2]
theorem x1t {F:Hp}{v:V}:∀{ds:List D}{vs:List V},Reps F ds vs->v∈vs->∃d∈ds,Rep F d v
 | [],vs,h,hv=>by cases(show vs=[] from h);cases hv
 |d::ds,vs,h,hv=>by
  obtain⟨v0,r,rfl,h1,h2⟩:=h;rcases mem_cons.mp hv with rfl|hv
  ·exact⟨d,mem_cons_self,h1⟩
  ·obtain⟨d',hd,h'⟩:=x1t h2 hv;exact⟨d',mem_cons_of_mem _ hd,h'⟩
def fInN:D->D->(Bool->D->Prop)->Prop:=fun x y Q=>∃ds:List D,x=.non/\y=.lst ds/\(∀d∈ds,d=.non \/ ∃xs,d=.tup xs)/\Q false (.bl (ds.any isND))
theorem j5d:OpS (fun x y H Q=>∃p,y=.ref p/\∃xs,x=.non/\H p=some (.lst xs)/\(∀v∈xs,v=.non \/ ∃a ys,v=.ref a/\H a=some (.tup ys))/\Q (.bl (xs.any isN)) H) fInN:=by
 intro io H0 F0 F δ σ H x y v u Q Qd I px py q k;obtain⟨ds,rfl,rfl,hds,q⟩:=q;obtain⟨b,us,rfl,h2,r2⟩:=py.lst I;have ex:v=.non:=px.non;subst ex;refine⟨b,rfl,us,rfl,h2,fun w hw=>?_,k false _ _ F H (Same.refl _) (I.pushF ?_) q⟩
 ·obtain⟨d,hd,rd⟩:=x1t r2 hw;rcases hds d hd with rfl|⟨xs,rfl⟩
  ·exact .inl rd
  ·obtain⟨a,vs,rfl,ha,_⟩:=rd;exact .inr ⟨a,vs,rfl,I.sub _ _ ha⟩
 ·rw[x3d r2];rfl
end VL
namespace L2
open PySem PyProof.Rows
end L2
namespace VL
open PySem L2
end VL
namespace L2
open PySem PySem.Spec PySem.Calls PyProof.Rows PySem.W
noncomputable abbrev q1r:Scope:={ kind:=.function,names:=[(Str.ofString "each",.local)],isGenerator:=false,isCoroutine:=false,more:=[] }
section
variable {X:Cx}{c p:Addr}{pos p0 p1 p2 p3 p4 p5 lp k1 k2:Pos}{e:Expr}{t:TA}
structure LamX (X:Cx)(c p:Addr):Prop where
 code:X.env.code=.ref c
 qual:X.env.qual++"<lambda>" = lamQ
 P:lamP=some p
 hd:codeHdIn X.K c p=true
 cl:closureFor q1r X.env=pure []
end
end L2
namespace VL
open PySem L2
theorem q1a {H:Hp}{a b:Addr}{o u:HO}(h:a≠b):upd (upd H a o) b u=upd (upd H b u) a o:=by
 funext c;by_cases z:c=a
 ·subst z;rw[z0j h,z0g,z0g]
 ·by_cases z2:c=b
  ·subst z2;rw[z0g,z0j z,z0g]
  ·rw[z0j z2,z0j z,z0j z,z0j z2]
end VL
namespace L2
open PySem PySem.Spec PyProof.Rows PySem.W
def x3g (K:W.Frag)(w:World)(a:Addr)(g:Str->Option Str):Prop:=(a == sysModules)=false/\∃es n,K.lookup a=some ⟨.type "dict",none,.dict es n,#[]⟩/\KeysLit w.params es.toList /\
 ∀x,(∀v,g x=some v->∃t,nsIn K a x=some (some (.str v t)))/\(g x=none->nsIn K a x=some none)
section
variable {X:Cx}{a:Addr}{g:Str->Option Str}{x:Str}{p pos:Pos}{ke:Expr}{tk:TE}
def j0o (g:Str->Option Str)(tk:TE):TE:=fun σ H Q=>tk σ H fun y H1=>∃z v,y=.str z/\g z=some v/\Q (.str v) H1
theorem x8b (hd:x3g X.K X.w a g)(hg:Gl X x)(hm:X.mg x=some (.ref a))(hk:PE X ke tk)(hs:NoSl ke)(hdb:(x == ("__debug__":Str))=false:=by decide):PE X (.Subscript (.Name x p) ke pos) (j0o g tk):=by
 intro pins s σ H Q I h;obtain⟨_,es,n,hl,hkl,hv⟩:=hd;refine q9x PySem.F.slot_dict_getitem.lookup hs (z8l I hg hm (thn (hk pins s σ H _ I h) fun iv s2 zq=>?_) hdb);obtain⟨y,H2,I2,ry,z,v,ey,gz,q2⟩:=zq;subst ey;obtain⟨t,rfl⟩:=ry;obtain⟨m,F⟩:=I2.fr;obtain⟨t',e⟩:=(hv z).1 v gz;refine⟨(mapOf_K (prog:=X.prog) I2.kIn hl hkl).typeIs,topGetDict_K F I2.ok.mod.kin hl hkl e ⟨.str v,H2,I2.tok _,⟨t',rfl⟩,q2⟩⟩
theorem j5k (hd:x3g X.K X.w a g):OpR X (compareOp .In) (fun x y H Q=>∃z,x=.str z/\y=.ref a/\Q (.bl (g z).isSome) H):=by
 intro pins s σ H x y v u Q I rx ry h;obtain⟨lo,es,n,hl,hkl,hv⟩:=hd;obtain⟨z,rfl,rfl,q⟩:=h;obtain⟨t,rfl⟩:=rx;cases ry;obtain⟨m,F⟩:=I.fr;cases e:g z with
 |none =>
  rw[e]at q;exact topIn_K (r:=none) F I.ok.mod.kin hl hkl ((hv z).2 e) lo ⟨.bl false,H,I.tok _,rfl,q⟩
 |some v =>
  rw[e]at q;obtain⟨t',e'⟩:=(hv z).1 v e;exact topIn_K (r:=some (.str v t')) F I.ok.mod.kin hl hkl e' lo ⟨.bl true,H,I.tok _,rfl,q⟩
theorem y7b:OpR X (compareOp .LtE) (fun x y H Q=>∃i j,x=.str i/\y=.str j/\Q (.bl (!decide (j.cps.toList<i.cps.toList))) H):=by
 intro pins s σ H x y v u Q I rx ry h;obtain⟨i,j,rfl,rfl,q⟩:=h;obtain⟨t,rfl⟩:=rx;obtain⟨t',rfl⟩:=ry;exact PySem.P.le_str (z1r I q rfl)
end
end L2
namespace VL
open PySem L2
section
variable {X:Cx}{a:Addr}{g:Str->Option Str}{x:Str}{p pos:Pos}{ke:Expr}{dk:TEd}
def j5x (g:Str->Option Str)(dk:TEd):TEd:=fun δ Q=>dk δ fun _ y δ'=>∃z v,y=.str z/\g z=some v/\Q false (.str v) δ'
theorem j0c (hd:x3g X.K X.w a g)(hg:Gl X x)(hm:X.mg x=some (.ref a))(hk:DE X ke dk)(hs:NoSl ke)(hdb:(x == ("__debug__":Str))=false:=by decide):DE X (.Subscript (.Name x p) ke pos) (j5x g dk):=by
 obtain⟨t,pt,s⟩:=hk;refine⟨_,x8b hd hg hm pt hs hdb,fun io H0 F0 F δ σ H Q Qd I q k=>s.fz I q fun d v δ' F' H' sf I' r q'=>?_⟩;obtain⟨z,v',rfl,e,q'⟩:=q';cases r;exact⟨z,v',rfl,e,k false (.str v') _ δ' F' H' sf (I'.pushF rfl) q'⟩
theorem j6l {δ:List Slot}{Q:Bool->D->List Slot->Prop}:j5x g dk δ Q=dk δ fun _ y δ'=>∃z v,y=.str z/\g z=some v/\Q false (.str v) δ':=rfl
noncomputable def leC (x y:Str):Bool:=!decide (y.cps.toList<x.cps.toList)
def x8m (da db dc:TEd):TEd:=fun δ Q=>da δ fun _ x δ1=>db δ1 fun _ y δ2=>∃i j,x=.str i/\y=.str j/\(if leC i j=true then dc δ2 fun _ z δ3=>∃k,z=.str k/\Q false (.bl (leC j k)) δ3 else Q false (.bl false) δ2)
theorem x7d {X:Cx}{a b c:Expr}{da db dc:TEd}{pos:Pos}(ha:DE X a da)(hb:DE X b db)(hc:DE X c dc)(hm:lastMarks [CmpOp.LtE,CmpOp.LtE] [b,c]=false:=by with_unfolding_all rfl):DE X (.Compare a [.LtE,.LtE] [b,c] pos) (x8m da db dc):=by
 obtain⟨ta,pa,sa⟩:=ha;obtain⟨tb,pb,sb⟩:=hb;obtain⟨tc,pc,sc⟩:=hc;refine⟨_,q0v y7b y7b pa pb pc hm,fun io H0 F0 F δ σ H Q Qd I q k=>sa.fz I q fun d v δ1 F1 H1 s1 I1 r1 q1=>sb.fz I1 q1 fun d2 v2 δ2 F2 H2 s2 I2 r2 q2=>?_⟩;obtain⟨i,j,rfl,rfl,q2⟩:=q2;cases r1;cases r2;refine⟨i,j,rfl,rfl,leC i j,rfl,?_⟩;cases e:leC i j with
 |false =>
  rw[e,if_neg (by simp)]at q2;rw[if_neg (by simp)];exact k false (.bl false) _ δ2 F2 H2 (s1.trans s2) I2.pB q2
 |true =>
  rw[e,if_pos rfl]at q2;rw[if_pos rfl];refine sc.fz I2 q2 fun d3 v3 δ3 F3 H3 s3 I3 r3 q3=>?_;obtain⟨m,rfl,q3⟩:=q3;cases r3;exact⟨j,m,rfl,rfl,k false (.bl (leC j m)) _ δ3 F3 H3 ((s1.trans s2).trans s3) I3.pB q3⟩
theorem q1g {da db dc:TEd}{δ:List Slot}{Q:Bool->D->List Slot->Prop}:x8m da db dc δ Q=da δ fun _ x δ1=>db δ1 fun _ y δ2=>∃i j,x=.str i/\y=.str j/\(if leC i j=true then dc δ2 fun _ z δ3=>∃k,z=.str k/\Q false (.bl (leC j k)) δ3 else Q false (.bl false) δ2):=rfl
end
end VL
namespace L2
open PySem PySem.Spec PyProof.Rows
noncomputable def Its (x:Str):It:=⟨fun i H=>i<x.cps.size,fun i H v H'=>H' = H/\∃c,x.cps[i]? = some c/\v=.str ⟨#[c]⟩,fun i H=>i=x.cps.size⟩
theorem x2n {P:Program}{w:World}{K:PySem.W.Frag}{tg:Expr}{ty:String}(x:Str)(t:Tok)(it:Addr)(W:∀A:Around,A.handled=none->Walks P w A it [it] [it] x.cps.size (SignAt x) (fun i h=>h.IsStrIter it ty x t i))
  (hn:["enumerate","zip","dict_itemiterator","dict_reverseitemiterator","odict_iterator","itertools.zip_longest","itertools.pairwise"].contains ty=false)
  (self:∀(A:Around)(i:Nat)(s:Shared)(Q:Value->Shared->Prop)(E:Value->Shared->Prop),s.heap.IsStrIter it ty x t i->Q (.ref it) s->wpAny (model P w) A (pyIter (.ref it)) Q E s) :
  Turn P w K tg (Its x) [it] it (fun i h=>h.IsStrIter it ty x t i) where
 mem:=by simp
 obj:=fun i h st b hb=>by
  have e:b=it:=by simpa using hb
  subst e;obtain⟨o,e,c,d⟩:=st;exact⟨o,e,fun v z=>by rw[d]at z;cases z⟩
 keep:=fun i h h' st k=>by
  obtain⟨o,e,c,d⟩:=st;exact⟨o,k it (by simp) o e,c,d⟩
 item:=by
  intro X hP hw hK hc i pins s σ H E I hf st hg;subst hP hw hK;obtain⟨f0,f1,f2,f3,f4,f5⟩:=hf it (by simp);refine(W X.A (I.ok.hd hc)).item i s _ _ hg st fun v h' tk hv st' hk=>?_;obtain⟨c,u,hc',rfl⟩:=hv;have I1:Inv X pins σ H { s with heap:=h',toks:=tk }:=I.turned (fun b o hb e=>hk b o (by simpa using hb) e) f0 f1 f3 f4 f5;obtain⟨o,e,c2,d⟩:=id st';exact⟨_,rfl,j0r (s:={ s with heap:=h',toks:=tk }) e c2 d hn ⟨.str ⟨#[c]⟩,H,I1,⟨u,rfl⟩,⟨rfl,c,hc',rfl⟩,st',fun b hb=>(hf b hb).1⟩⟩
 done:=by
  intro X hP hw hK hc i pins s σ H E I hf st hg;subst hP hw hK;obtain⟨f0,f1,f2,f3,f4,f5⟩:=hf it (by simp);have hg':i=x.cps.size:=hg;subst hg';exact(W X.A (I.ok.hd hc)).done s _ _ st fun h' tk hk=>⟨rfl,I.turned (fun b o hb e=>hk b o (by simpa using hb) e) f0 f1 f3 f4 f5⟩
 self:=self
def iStr (tl:TE):TI:=fun σ H R=>tl σ H fun v H1=>∃x,v=.str x/\R (Its x) H1
theorem j6u {X:Cx}{tg l:Expr}{tl:TE}(hl:PE X l tl):PI X tg l (iStr tl):=by
 intro pins s σ H R I h;refine thn (hl pins s σ H _ I h) fun v s1 zq=>?_;obtain⟨y,H1,I1,r1,x,ey,q1⟩:=zq;subst ey;obtain⟨t,rfl⟩:=r1;refine wpAny_pyIter_strU ?_;have fp:∀b∈[s1.heap.objs.size],FpOk X pins H1 b:=fun b hb=>by
  have e:b=s1.heap.objs.size:=by simpa using hb
  subst e;exact I1.fpOk (le_refl _) I1.fresh
 have k2:∀ob:Obj,Inv X pins σ H1 { s1 with heap:=s1.heap.push ob }:=fun ob=>I1.kept (t':=s1.toks) fun b o e=>get?_push_of_some _ e;unfold strIterType;cases ha:x.cps.all (· < 128) with
 |true =>
  exact⟨s1.heap.objs.size,[s1.heap.objs.size],_,_,H1,rfl,k2 _,x2n (ty:="str_ascii_iterator") x t _ (fun A hA=>Walks.strAscii hA _ x t) (by decide) (fun A i s Q E hit h=>wpAny_pyIter_striter_ascii hit h),⟨_,get?_push_size _ rfl,rfl,rfl⟩,fp,q1⟩
 |false =>
  exact⟨s1.heap.objs.size,[s1.heap.objs.size],_,_,H1,rfl,k2 _,x2n (ty:="str_iterator") x t _ (fun A hA=>Walks.strWide hA _ x t) (by decide) (fun A i s Q E hit h=>wpAny_pyIter_striter_wide hit h),⟨_,get?_push_size _ rfl,rfl,rfl⟩,fp,q1⟩
end L2
namespace VL
open PySem L2
noncomputable def sgD (x:Str):List D:=x.cps.toList.map fun c=>D.str ⟨#[c]⟩
theorem q2o {F:Hp}(x:Str):ItOk (Its x) F (sgD x):=by
 intro io H0 F0 F' δ σ H' sf I i;refine⟨fun d e=>?_,fun e=>?_⟩
 ·have hi:i<x.cps.size:=by
   have:=(List.getElem?_eq_some_iff.mp e).1;simpa[sgD] using this
  refine⟨hi,fun v H'' y=>?_⟩;obtain⟨rfl,c,hc,rfl⟩:=y;have ed:d=.str ⟨#[c]⟩:=by
   simp only[sgD,getElem?_map,Array.getElem?_toList,hc,Option.map_some,Option.some.injEq]at e;exact e.symm
  subst ed;exact⟨F',Same.refl _,I,rfl⟩
 ·simpa[sgD,Its] using e
def j7m (td:TEd):TLd:=fun δ Q=>td δ fun _ d δ'=>∃x,d=.str x/\Q (sgD x) δ'
theorem j4s {X:Cx}{tg a:Expr}{da:TEd}(h:DE X a da):DI X tg a (j7m da):=by
 obtain⟨t,p,s⟩:=h;refine⟨_,j6u p,fun io H0 F0 F δ σ H R Qd I q k=>s.fz I q fun d v δ' F' H' sf I' r q'=>?_⟩;obtain⟨x,rfl,q'⟩:=q';cases r;exact⟨x,rfl,k _ (sgD x) δ' F' H' sf I' (q2o x) q'⟩
theorem q9w {td:TEd}{δ:List Slot}{Q:List D->List Slot->Prop}:j7m td δ Q=td δ fun _ d δ'=>∃x,d=.str x/\Q (sgD x) δ':=rfl
def dAug (i:Nat)(n:Int):TSd:=fun E δ=>∃k,δ[i]? = some (.fz (.int k))/\E.nx (δ.set i (.fz (.int (k+n))))
theorem j3u {X:Cx}{i:Nat}{x:Str}{n:Int}{j:Nat}{pos pos' p:Pos}(hN:X.N.Nodup)(hi:X.N[i]? = some x)(hx:Loc X.env.scope x)(hf:X.fn x=true\/X.env.scope.names.lookup x=some .local:=by first|exact .inl rfl|exact .inr rfl|assumption) :
  DS X (.AugAssign (.Name x pos') .Add (.Constant (.int n) j p) pos) (dAug i n):=by
 refine⟨_,j2l hN hi hx z2q j6q hf,fun io H0 F0 F δ σ H E Ed I h S=>?_⟩;obtain⟨k,e,q⟩:=h;obtain⟨v,ev,rv⟩:=I.get i _ e;cases rv;have hl:i<δ.length:=(List.getElem?_eq_some_iff.mp e).1;refine⟨_,z2n ev,k,n,rfl,rfl,S.nx F _ _ H (Same.refl _) ((I.pushF (d:=.int (k+n)) (v:=.int (k+n)) rfl).setv (b:=false) (fun c z=>by rw[e]at z;cases z) hl) q⟩
noncomputable def inS:Slot->Nat
 |.fz (.int e)=>e.toNat
 |.fz (.tup [_,.int e])=>e.toNat
 |_=>0
noncomputable def inAt (i:Nat)(δ:List Slot):Nat:=inS (δ.getD i .no)
theorem j9o {a:Slot}{e:Int}{r:List Slot}:inAt 1 (a::.fz (.int e)::r)=e.toNat:=rfl
theorem j6j {a b:Slot}{e:Int}{r:List Slot}:inAt 2 (a::b::.fz (.int e)::r)=e.toNat:=rfl
theorem inAt3 {a b c:Slot}{x:D}{e:Int}{r:List Slot}:inAt 3 (a::b::c::.fz (.tup [x,.int e])::r)=e.toNat:=rfl
theorem lenS {α:Type}{l:List α}{n:Nat}(h:l.length=n+1):∃a r,l=a::r/\r.length=n:=by
 cases l with
 |nil=>cases h
 |cons a r=>exact⟨a,r,rfl,Nat.succ.inj h⟩
theorem len0 {α:Type}{l:List α}(h:l.length=0):l=[]:=eq_nil_of_length_eq_zero h
theorem len3 {α:Type}{l:List α}(h:l.length=3):∃a b c,l=[a,b,c]:=by
 obtain⟨a,r,rfl,h1⟩:=lenS h;obtain⟨b,q,rfl,h2⟩:=lenS h1;obtain⟨c,p,rfl,h3⟩:=lenS h2;cases len0 h3;exact⟨a,b,c,rfl⟩
theorem len5 {α:Type}{l:List α}(h:l.length=5):∃a b c d e,l=[a,b,c,d,e]:=by
 obtain⟨a,r,rfl,h1⟩:=lenS h;obtain⟨b,q,rfl,h2⟩:=lenS h1;obtain⟨c,d,e,rfl⟩:=len3 h2;exact⟨a,b,c,d,e,rfl⟩
end VL
namespace L2
open PySem PySem.Spec PyProof.Rows PySem.SeqAt
section
variable {X:Cx}{CX:CXT}{k:Nat}{f:Addr}{fd:FuncData}{ps:List Str}{sp:Sp}{dvs:List V}{ds:List Value}{E:XK}{x:Str}{p pos:Pos}{e:Expr}{es:List Expr}{t:TA}
def y2p (i:Nat)(f:Addr)(sp:Sp)(dvs:List V)(E:XK)(t:TA):TE:=fun σ H Q=>tVar i σ H fun v H1=>v=.ref f/\t σ H1 fun vs H2=>sp (vs++dvs) H2 Q E
theorem q0k (i:Nat)(F:FnOk X.prog X.w X.K X.mg X.base CX k f fd ps sp)(hr:Room k X.A)(hk:keepIn X.K (.ref f)=true)(hb:Binds X.K fd ps ds)(hd:Vals dvs ds)(hx:y0j CX X E)(ha:PA X (e::es) t)
  (hN:X.N[i]? = some x:=by rfl)(hv:Vis X.env.scope x:=by first|exact Or.inl rfl|exact Or.inr (Or.inl rfl)|exact Or.inr (Or.inr rfl))(hdb:(x == ("__debug__":Str))=false:=by decide)(hcd:(x == ("__classdict__":Str))=false:=by decide)(he:starEach (e::es) X.env=(false,eval e X.env)::starEach es X.env:=by rfl)(hpl:(backTo pos (starEach es X.env)).any (·.1)=false:=by rfl) :
  PE X (.Call (.Name x p) (e::es) [] pos) (y2p i f sp dvs E t):=by
 intro pins s σ H Q I h;refine wpAny_Call_Name_kw (thn (y2n hN hv hdb hcd pins s σ H _ I h) fun u s1 zq=>?_);obtain⟨v,H1,I1,r,ev,q⟩:=zq;subst ev;obtain rfl:u=Value.ref f:=r;refine callWith_K (h₀:=X.base) I1.ok.mod.kin hk (thn (ha pos pins s1 σ H1 _ I1 q) fun us s2 ⟨vs,H2,I2,r2,q2⟩=>⟨I2.kIn,?_⟩) he hpl;exact q4k F hr hb hd hx I2 r2 q2
def j0i:V->List V->Hp->VK->Prop:=fun x vs H Q=>∃a b,x=.str a/\vs=[.str b]/\b.length≠0/\a.length<=sizeLine/\∀p,H p=none->Q (.ref p) (upd H p (.tup [.str (partition a b).1,.str (partition a b).2.1,.str (partition a b).2.2]))
theorem y9h:MtR X "str.partition" j0i:=by
 intro pins s σ H x xs v us Q I rx rs h;obtain⟨a,b,rfl,rfl,hb,ha,q⟩:=h;obtain⟨t,rfl⟩:=rx;obtain⟨u,rfl,ru⟩:=z8w rs;obtain⟨t',rfl⟩:=ru;refine call_meets F.slot_str_partition (typeIs_str _ _ _) F.entry_str_partition (F.args_str_partition_2 _ _) (meets_str_partition a b t t' (by simpa using hb) ha) ?_;have q':=q _ (I.hok.fresh (le_refl _));unfold partition at q';revert q';cases Builtin.Str.occurrences a b 0 a.length 1 with
 |nil=>exact fun q'=>⟨.ref s.heap.objs.size,_,I.laid (t':=s.toks+1) (fun b u e=>get?_push_of_some _ e) (le_refl _) (show ObjOk X.prog X.w _ _ _ (.tup [.str a,.str Str.empty,.str Str.empty]) from⟨by show 3<=sizeLine;decide,_,.cons ⟨_,rfl⟩ (.cons ⟨_,rfl⟩ (.cons ⟨_,rfl⟩ .nil)),⟨_,get?_push_size _ rfl,rfl,_,rfl⟩⟩),rfl,q'⟩
 |cons i r=>exact fun q'=>⟨.ref s.heap.objs.size,_,I.laid (t':=s.toks+1+1) (fun b u e=>get?_push_of_some _ e) (le_refl _) (show ObjOk X.prog X.w _ _ _ (.tup [.str (Builtin.Str.strSub a 0 i),.str b,.str (Builtin.Str.strSub a (i+b.length) a.length)]) from⟨by show 3<=sizeLine;decide,_,.cons ⟨_,rfl⟩ (.cons ⟨_,rfl⟩ (.cons ⟨_,rfl⟩ .nil)),⟨_,get?_push_size _ rfl,rfl,_,rfl⟩⟩),rfl,q'⟩
end
section
variable {prog:Program}{w:World}{A:Around}{E:Value->Shared->Prop}{s:Shared}
theorem j9q (l:Addr)(its:Array Value)(n:Nat)(dct:Option Addr)(sl:Array (Option Value))(j:Int)(t:Tok)(hj:Builtin.SmallTypes.fitsIndex j=true) :
  Meets (Builtin.«enumerate.__new__» ⟨[.type "enumerate",.ref l],[("start",.int j t)]⟩) (fun _ R s=>s.heap.get? l=some { cls:=.type "list",dict:=dct,data:=.seq its n,slots:=sl } /\
   R (.ok (.ret (.ref (s.heap.push { cls:=.type "list_iterator",data:=.fields #[.ref l,.int 0 0] }).objs.size)))
    { s with heap:=(s.heap.push { cls:=.type "list_iterator",data:=.fields #[.ref l,.int 0 0] }).push { cls:=.type "enumerate",data:=.fields #[.none,.bool false,.ref s.heap.objs.size,rawInt j,.none,.none] } }) :=
 .of_wp fun prog w A R s h=>by
  obtain⟨hp,g,d,tk,os⟩:=s;obtain⟨hl,h⟩:=h;have hsub:=sub_enumerate;have hL:Heap.IsList (Shared.heap ⟨hp,g,d,tk,os⟩) l its:=⟨_,hl,rfl,n,rfl⟩
  wp_walk using AutoSeq1.wpAny_loadPart' hl
  refine wpAny_stack_any fun st=>wpAny_pure ?_;have hj2:(!Builtin.SmallTypes.fitsIndex j)=false:=by rw[hj];rfl
  split
  ·rename_i c _ _ _ _ _;cases(c == Value.type "enumerate")
   ·wp_walk using AutoSeq1.wpAny_loadPart' hl,wpAny_pyIter_list hL
    exact⟨_,rfl,h⟩
   ·wp_walk using AutoSeq1.wpAny_loadPart' hl,wpAny_pyIter_list hL
    exact⟨_,rfl,h⟩
  ·wp_walk using AutoSeq1.wpAny_loadPart' hl,wpAny_pyIter_list hL
   exact⟨_,rfl,h⟩
theorem j3d {T newId:String}{self:Value}{rest:List Value}{kw:List (Str×Value)}(hl:typeLookup (.type T) "__init__" = pure (some (.builtin "object.__init__")))
  (hm:Bind.madeBy (.type T)=pure (some newId))(hne:(some newId != some "object.__new__")=true) :
  Meets (Builtin.«object.__init__» ⟨self::rest,kw⟩) (fun _ R s=>s.TypeIs self T/\R (.ok (.ret .none)) s):=by
 refine Meets.of_wp fun prog w A R s ⟨hT,hq⟩=>?_;by_cases hz:(!rest.isEmpty||!kw.isEmpty)=true
 ·repeat (any_goals (first|assumption|wp_step))
  exact⟨_,rfl,hq⟩
 ·cases rest with
  |cons a r=>exact absurd rfl hz
  |nil =>
   cases kw with
   |cons a r=>exact absurd rfl hz
   |nil=>exact wpAny_pure ⟨_,rfl,hq⟩
theorem j4q {T newId:String}{Bn:Builtin}{us:List Value}{kw:List (Str×Value)}{S:PySem.Spec}{Q:Value->Shared->Prop}(ft:TypeCalled T newId "object.__init__")(hne:(some newId != some "object.__new__")=true)
  (hct:checkTypeCall T ⟨us,kw⟩=pure ())(hcn:checkBuiltinCall newId ⟨.type T::us,kw⟩=pure ())(hok:∀obj,argsOk "object.__init__" ⟨obj::us,kw⟩)(eN:entryFor table newId=some Bn)(g:Meets (Bn ⟨.type T::us,kw⟩) S)
  (h:S A.in1 (wants (fun obj s₁=>s₁.TypeIs obj T/\Q obj s₁) E) s):wpAny (model prog w) A (call (.type T) us kw) Q E s:=by
 obtain⟨c,tl,hmro⟩:=ft.mro;have hmade:=ft.made;have hsub:=ft.sub;refine wpAny_call (codeAny_of_tree ?_);show wpAny _ _ (callAny (.type T) _) _ _ _;refine wpAny_pure ⟨Code.quiet_builtin _ (by decide +kernel),codeAny_builtin F.entry_type_call ?_⟩;rw[Around.under_plain (weight_type_call_type T us kw) (units_type_call_type T us kw)];have h1:=ft.notType;have h2:=ft.canCreate
 repeat (any_goals (first|assumption|wp_step))
 refine codeAny_mono (codeAny_call_builtin ft.plain eN (wpAny_of_eq hcn (g prog w A.in1 _ s h))) fun r s1 hr=>?_;cases r with
 |error e=>exact hr
 |ok fl =>
  cases fl with
  |ret obj =>
   obtain⟨hT,hq⟩:=hr;have hli:=ft.init.lookup;have hbi:=ft.init.bind obj
   repeat (any_goals (first|assumption|wp_step))
   refine codeAny_mono (codeAny_call_builtin ft.init.plain F.entry_object_init (ft.init.check _ _ _ _ _ _ _ _ hT (hok obj) (j3d (kw:=kw) ft.init.lookup ft.made hne prog w A.in1 _ s1 ⟨hT,(show wants (fun r s2=>r=.none/\Q obj s2) E _ _ from⟨rfl,hq⟩)⟩))) fun r2 s2 hr2=>?_;cases r2 with
   |error e=>exact hr2
   |ok fl2 =>
    cases fl2 with
    |ret r =>
     obtain⟨rfl,hq⟩:=hr2
     repeat (any_goals (first|assumption|wp_step))
    |_=>exact hr2.elim
  |_=>exact hr.elim
theorem j4v (a:Value)(j:Int)(t:Tok):checkTypeCall "enumerate" ⟨[a],[("start",.int j t)]⟩=pure ():=by kernel_rfl
theorem j3e (a:Value)(j:Int)(t:Tok):checkBuiltinCall "enumerate.__new__" ⟨[.type "enumerate",a],[("start",.int j t)]⟩=pure ():=by kernel_rfl
theorem aiKw (a b:Value)(j:Int)(t:Tok):argsOk "object.__init__" ⟨[a,b],[("start",.int j t)]⟩:=by
 unfold argsOk;rw[signature?_of (id:="object.__init__") (n:=['_','_','t','i','n','i','_','_']) (o:=['t','c','e','j','b','o']) (by kernel_rfl) F.owner_object]
 kernel_rfl
theorem y9i {l:Addr}{items:Array Value}{j:Int}{t:Tok}{Q:Value->Shared->Prop}(hj:Builtin.SmallTypes.fitsIndex j=true)(hL:s.heap.IsList l items)
  (h:∀h',IsEnum h' (s.heap.objs.size+1) s.heap.objs.size j .none->h'.IsListIter s.heap.objs.size l 0->h'.objs.size=s.heap.objs.size+2 ->
   (∀b o,s.heap.get? b=some o->h'.get? b=some o)->Q (.ref (s.heap.objs.size+1)) { s with heap:=h' }) :
  wpAny (model prog w) A (call (.type "enumerate") [.ref l] [("start",.int j t)]) Q E s:=by
 obtain⟨⟨c,dct,dt,sl⟩,hl,hc,n,hd⟩:=hL;obtain rfl:c=.type "list":=hc;obtain rfl:dt=.seq items n:=hd;refine j4q F.called_enumerate (by decide) (j4v _ j t) (j3e _ j t) (fun obj=>aiKw obj _ j t) F.entry_enumerate_new (j9q l items n dct sl j t hj) ⟨hl,?_⟩;have hz:(s.heap.push { cls:=.type "list_iterator",data:=.fields #[.ref l,.int 0 0] }).objs.size=s.heap.objs.size+1:=size_push ..;show _/\_;rw[hz];have he:IsEnum ((s.heap.push { cls:=.type "list_iterator",data:=.fields #[.ref l,.int 0 0] }).push { cls:=.type "enumerate",data:=.fields #[.none,.bool false,.ref s.heap.objs.size,rawInt j,.none,.none] }) (s.heap.objs.size+1) s.heap.objs.size j .none:=by
  have:=get?_push_size (s.heap.push { cls:=.type "list_iterator",data:=.fields #[.ref l,.int 0 0] }) (o:={ cls:=.type "enumerate",data:=.fields #[.none,.bool false,.ref s.heap.objs.size,rawInt j,.none,.none] }) rfl;rwa [hz]at this
 exact⟨⟨_,he,rfl⟩,h _ he ⟨_,get?_push_of_some _ (get?_push_size _ rfl),rfl,rfl⟩ (by rw[size_push,hz]) fun b o x=>get?_push_of_some _ (get?_push_of_some _ x)⟩
theorem j3s {e it l:Addr}{j:Int}{i:Nat}{items:Array Value}{x old:Value}{Q:Value->Shared->Prop}
  (he:IsEnum s.heap e it j old)(hit:s.heap.IsListIter it l i)(hl:s.heap.IsList l items)(hx:items[i]? = some x)(hne:e≠it)
  (hQ:∀h',IsEnumOut h' e it (j+1) x s.heap.objs.size->h'.IsListIter it l (i+1)->h'.get? s.heap.objs.size=some { cls:=.type "tuple",data:=.seq #[.int j s.toks,x] }->h'.objs.size=s.heap.objs.size+1 ->
   (∀b o,b≠e->b≠it->s.heap.get? b=some o->h'.get? b=some o)->Q (.ref s.heap.objs.size) { s with heap:=h',toks:=s.toks+1 }) :
  wpAny (model prog w) A (Builtin.«enumerate.__next__» ⟨[.ref e],[]⟩) (fun fin s'=>∃v,fin=.done (.ret v)/\Q v s') E s:=by
 obtain⟨hp,g,d,tk,os⟩:=s;show wpAny _ _ (field (.ref e) 2 >>= _) _ _ _;refine wpAny_bind (wpAny_field he rfl (x:=.ref it) rfl ?_);refine wpAny_bind (wpAny_nextOf_list_item hit hl hx fun g1 i1 (k1:Heap.SameBut it hp g1)=>?_);have e1:IsEnum g1 e it j old:=(k1.2 e hne).trans he;show wpAny _ _ (field (.ref e) 3 >>= _) _ _ ⟨g1,g,d,tk,os⟩;refine wpAny_bind (wpAny_field e1 rfl (x:=rawInt j) rfl ?_);show wpAny _ _ (field (.ref e) 4 >>= _) _ _ ⟨g1,g,d,tk,os⟩;refine wpAny_bind (wpAny_field e1 rfl (x:=.none) rfl ?_);show wpAny _ _ (mkInt j >>= _) _ _ ⟨g1,g,d,tk,os⟩;refine wpAny_bind (wpAny_mkInt ?_);show wpAny _ _ (setField (.ref e) 3 (rawInt (j+1)) >>= _) _ _ ⟨g1,g,d,tk+1,os⟩;refine wpAny_bind (wpAny_setField_rec e1 (by simp) fun g2 (e2:IsEnum g2 e it (j+1) old) (k2:Heap.SameBut e g1 g2)=>?_);show wpAny _ _ (setField (.ref e) 4 .none >>= _) _ _ ⟨g2,g,d,tk+1,os⟩;refine wpAny_bind (wpAny_setField_rec e2 (by simp) fun g3 (e3:IsEnum g3 e it (j+1) old) (k3:Heap.SameBut e g2 g3)=>?_);show wpAny _ _ (newTuple [.int j tk,x] >>= _) _ _ ⟨g3,g,d,tk+1,os⟩;refine wpAny_bind (wpAny_newTuple ?_);have e4:IsEnum (g3.push { cls:=.type "tuple",data:=.seq #[.int j tk,x] }) e it (j+1) old:=get?_push_of_some _ e3;generalize hg4:g3.push { cls:=.type "tuple",data:=.seq #[.int j tk,x] }=g4 at e4;have hsz:g3.objs.size=hp.objs.size:=by rw[k3.1,k2.1,k1.1]
 have hel:e<hp.objs.size:=lt_size he;have t4:g4.get? hp.objs.size=some { cls:=.type "tuple",data:=.seq #[.int j tk,x] }:=by rw[<-hg4,<-hsz];exact get?_push_size _ rfl
 have z4:g4.objs.size=hp.objs.size+1:=by rw[<-hg4,size_push,hsz]
 have k4:∀b o,b≠e->b≠it->hp.get? b=some o->g4.get? b=some o:=fun b o hbe hbi hb=>by
  rw[<-hg4];exact get?_push_of_some _ (k3.extBut b o hbe (k2.extBut b o hbe (k1.extBut b o hbi hb)))
 have i4:g4.IsListIter it l (i+1):=by
  rw[<-hg4];obtain⟨o,ho,r⟩:=(i1.extBut k2.extBut (Ne.symm hne)).extBut k3.extBut (Ne.symm hne);exact⟨o,get?_push_of_some _ ho,r⟩
 show wpAny _ _ (Builtin.SmallTypes.ownedTupleIsFree (.ref e) >>= _) _ _ ⟨g4,g,d,tk+1,os⟩;rw[hsz];clear hg4 e3 k3 e2 k2 e1 k1 i1 hsz g3 g2 g1;refine wpAny_bind ?_;unfold Builtin.SmallTypes.ownedTupleIsFree;refine wpAny_bind (wpAny_field e4 rfl (x:=.none) rfl (wpAny_pure ?_));simp only[if_true];refine wpAny_bind (wpAny_rule ?_);refine wpAny_bind (wpAny_field e4 rfl (x:=old) rfl ?_);refine wpAny_bind (wpAny_setField_rec e4 (by simp) fun g5 (e5:IsEnum g5 e it (j+1) x) (k5:Heap.SameBut e g4 g5)=>?_);show wpAny _ _ (Builtin.SmallTypes.ownedTupleHandOut (.ref e) (.ref hp.objs.size) >>= _) _ _ ⟨g5,g,d,tk+1,os⟩;refine wpAny_bind ?_;unfold Builtin.SmallTypes.ownedTupleHandOut;refine wpAny_bind (wpAny_setField_rec e5 (by simp) fun g6 (e6:IsEnumOut g6 e it (j+1) x hp.objs.size) (k6:Heap.SameBut e g5 g6)=>?_);refine wpAny_setField_rec e6 (by simp) fun g7 (e7:IsEnumOut g7 e it (j+1) x hp.objs.size) (k7:Heap.SameBut e g6 g7)=>?_;have ne:=ne_of_gt hel;exact wpAny_bind (wpAny_letGo (wpAny_pure ⟨_,rfl,hQ g7 e7 (((i4.extBut k5.extBut (Ne.symm hne)).extBut k6.extBut (Ne.symm hne)).extBut k7.extBut (Ne.symm hne)) (k7.extBut _ _ ne (k6.extBut _ _ ne (k5.extBut _ _ ne t4))) (by rw[k7.1,k6.1,k5.1,z4]) fun b o h1 h2 hb=>k7.extBut b o h1 (k6.extBut b o h1 (k5.extBut b o h1 (k4 b o h1 h2 hb)))⟩))
theorem q2h {e it l:Addr}{j:Int}{i:Nat}{items:Array Value}{x old:Value}{Q:Option Value->Shared->Prop}
  (he:IsEnum s.heap e it j old)(hit:s.heap.IsListIter it l i)(hl:s.heap.IsList l items)(hx:items[i]? = some x)(hne:e≠it)
  (hQ:∀h',IsEnumOut h' e it (j+1) x s.heap.objs.size->h'.IsListIter it l (i+1)->h'.get? s.heap.objs.size=some { cls:=.type "tuple",data:=.seq #[.int j s.toks,x] }->h'.objs.size=s.heap.objs.size+1 ->
   (∀b o,b≠e->b≠it->s.heap.get? b=some o->h'.get? b=some o)->Q (some (.ref s.heap.objs.size)) { s with heap:=h',toks:=s.toks+1 }) :
  wpAny (model prog w) A (pyNext (.ref e)) Q E s:=by
 have hT:s.TypeIs (.ref e) "enumerate":=⟨_,he,rfl⟩;unfold pyNext;exact wpAny_bind (wpAny_attempt (wpAny_callSpecial?_slot (name:=Str.ofString "__next__") hT F.slot_enumerate_next (wpAny_call_entry F.slot_enumerate_next hT F.entry_enumerate_next (j3s he hit hl hx hne fun h' a b c d k=>wpAny_pure (hQ h' a b c d k)) (F.args_enumerate_next_1 _))))
theorem y9f {e it l:Addr}{j:Int}{i:Nat}{items:Array Value}{old:Value}{Q:Option Value->Shared->Prop}(hh:A.handled=none)
  (he:IsEnum s.heap e it j old)(hit:s.heap.IsListIter it l i)(hl:s.heap.IsList l items)(hx:items[i]? = none)(hQ:∀h',Heap.ExtBut it s.heap h'->Q none { s with heap:=h' }):wpAny (model prog w) A (pyNext (.ref e)) Q E s:=by
 have hT:s.TypeIs (.ref e) "enumerate":=⟨_,he,rfl⟩;unfold pyNext;refine wpAny_bind (wpAny_attempt (wpAny_callSpecial?_slot (name:=Str.ofString "__next__") hT F.slot_enumerate_next (wpAny_call_entry F.slot_enumerate_next hT F.entry_enumerate_next ?_ (F.args_enumerate_next_1 _))));show wpAny _ _ (field (.ref e) 2 >>= _) _ _ _;refine wpAny_bind (wpAny_field he rfl (x:=.ref it) rfl (wpAny_bind (wpAny_nextOf_list_end hh hit hl hx fun h' x he' hx'=>?_)));obtain⟨o,ho,hc⟩:=hx';exact wpAny_bind (wpAny_isInstance (T:="StopIteration") (b:=true) ⟨o,ho,hc⟩ isSubtype_stop (wpAny_pure (hQ _ he')))
variable {X:Cx}
theorem y4h {M:Model}{A:Around}{E:Value->Shared->Prop}{s:Shared}{env:Env}{pos:Pos}{T:String}{e:Expr}{rest:List Expr}{kws:List Keyword}{Q:Value->Shared->Prop}
  (h:wpAny M A (spliced (backTo pos (starEach (e::rest) env))) (fun vs s₁=>wpAny M A (evalAll ((backToKw pos (keywordEach kws env)).map (·.2)))
   (fun kvs s₂=>wpAny M A (call (.type T) vs (((backToKw pos (keywordEach kws env)).filterMap (·.1)).zip kvs)) Q E s₂) E s₁) E s)
  (he:backTo pos (starEach (e::rest) env)=(false,eval e env)::backTo pos (starEach rest env))(hplain:(backTo pos (starEach (e::rest) env)).any (·.1)=false)
  (hall:(backToKw pos (keywordEach kws env)).all (·.1.isSome)=true)(hkw:(backToKw pos (keywordEach kws env)).any (·.1.isNone)=false) :
  wpAny M A (callWith pos (.type T) [] (backTo pos (starEach (e::rest) env)) (backToKw pos (keywordEach kws env))) Q E s:=by
 have h2:wpAny M A (evalArgs (.type T) true (backTo pos (starEach (e::rest) env)) (backToKw pos (keywordEach kws env))) (fun a s₁=>wpAny M A (call (.type T) ([]++a.pos) a.kw) Q E s₁) E s:=by
  rw[he]at h ⊢;exact evalArgs_kwB hall h
 unfold callWith;refine wpAny_bind (wpAny_holding (wpAny_mono h2 (fun a s1 h1=>wpAny_bind (wpAny_standAt ?_)) fun _ _ x=>x));simp only[hplain,hkw,Bool.or_false];refine wpAny_bind (wpAny_pure ?_);exact wpAny_bind (wpAny_mono h1 (fun r s2 hr=>wpAny_bind (wpAny_holding (wpAny_point (wpAny_pure hr)))) fun _ _ x=>x)
theorem jsucc (j:Int)(i:Nat):j+((i+1:Nat):Int)=j+(i:Int)+1:=by omega
def x5h (K:W.Frag)(a:Str)(te:TE):TE:=fun σ H Q=>te σ H fun y H1=>∃x C dx v bm fI,y=.ref x/\H1 x=some (XO C dx x)/\H1 dx=some (.xd [(a,v)])/\xcIn K C bm fI=true/\(∃z,v=.int z)/\Q v H1
variable {e:Expr}{te:TE}{a:Str}{pos:Pos}
theorem q0z (ha:a∈(["name","row"]:List Str))(he:PE X e te)(hb:attributeBase e a X.env (eval e X.env)=eval e X.env):PE X (.Attribute e a pos) (x5h X.K a te):=by
 intro pins s σ H Q I h;refine x6y hb (thn (he pins s σ H _ I h) fun u s1 z=>?_);obtain⟨y,H1,I1,ry,x,C,dx,v,bm,fI,e1,hx,hd,q,⟨z,e2⟩,h1⟩:=z;subst e1;subst e2;obtain rfl:u=Value.ref x:=ry;obtain⟨f,c,_,no⟩:=y5y I1.kIn q;obtain⟨⟨vs,sl,gx⟩,_,_⟩:=I1.hok x _ hx;obtain⟨mA,nx,rel⟩:=(show ∃mA,s1.heap.Ns1 dx mA/\∀f,RelO (([(a,V.int z)]:List (Str×V)).lookup f) (mA f) from I1.hok dx _ hd);obtain⟨aq,aB⟩:=q4n ha;have ra:=rel a;have lk:([(a,V.int z)]:List (Str×V)).lookup a=some (.int z):=by simp[List.lookup]
 rw[lk]at ra;cases hv:mA a with
 |none=>rw[hv]at ra;exact ra.elim
 |some u2 =>
  rw[hv]at ra;obtain⟨tk,rfl⟩:=(show ∃t,u2=Value.int z t from ra);obtain⟨hp,g,d,t,os⟩:=s1;exact x2k c (no _ (by simp)) (no _ (by simp)) (List.mem_of_mem_tail aq) aB (no a aq) gx nx hv rfl ⟨.int z,H1,I1.tok _,⟨tk,rfl⟩,h1⟩
noncomputable def Ite (a:Addr)(j:Int):It :=
 ⟨fun i H=>∃xs x,H a=some (.lst xs)/\xs[i]? = some x,
 fun i H v H'=>∃t,v=.ref t/\H t=none/\∀xs,H a=some (.lst xs)->∃x,xs[i]? = some x/\H' = upd H t (.tup [.int (j+i),x]),
 fun i H=>∃xs,H a=some (.lst xs)/\xs[i]? = none⟩
theorem x4f {P:Program}{w:World}{K:W.Frag}{elts:List Expr}{x1:Nat}{pos:Pos}{l e it:Addr}{j:Int}(nd:e≠it) :
  Turn P w K (.Tuple elts x1 pos) (Ite l j) [e,it] e (fun i h=>(∃old,IsEnum h e it (j+i) old)/\h.IsListIter it l i) where
 mem:=by simp
 obj:=fun i h st b hb=>by
  obtain⟨⟨old,h1⟩,⟨o4,e4,c4,d4⟩⟩:=st;simp only[mem_cons,not_mem_nil,or_false]at hb;rcases hb with rfl|rfl
  ·exact⟨_,h1,fun v z=>by cases z⟩
  ·exact⟨_,e4,fun v z=>by rw[d4]at z;cases z⟩
 keep:=fun i h h' ⟨⟨old,h1⟩,h4⟩ k=>⟨⟨old,k e (by simp) _ h1⟩,h4.at fun o q=>k it (by simp) o q⟩
 item:=by
  intro X hP hw hK hc i pins s σ H E I hf st hg;subst hP hw hK;obtain⟨⟨old,h1⟩,h4⟩:=st;obtain⟨xs,x,ha,hx⟩:=hg;obtain⟨us,ru,pu,_⟩:=I.list (SqL.of ha);obtain⟨ux,ex,rx⟩:=ru.get hx;refine q2h h1 h4 pu.isList (x:=ux) (by simpa using ex) nd fun h' a1 a3 a5 a6 a7=>?_;have I1:Inv X pins σ (upd H s.heap.objs.size (.tup [.int (j+i),x])) { s with heap:=h',toks:=s.toks+1 }:=I.turnsLaid (t':=s.toks+1) (ch:=[e,it]) (fun b u hb q=>a7 b u (fun z=>hb (by simp[z])) (fun z=>hb (by simp[z])) q)
   hf (le_refl _) (show ObjOk X.prog X.w _ h' _ (.tup [.int (j+i),x]) from⟨by show 2<=sizeLine;decide,[_,ux],.cons ⟨_,rfl⟩ (.cons rx .nil),⟨_,a5,rfl,_,rfl⟩⟩)
  have hfr:=I.fresh;have old':∀b∈[e,it],upd H s.heap.objs.size (.tup [.int (j+i),x]) b=none:=fun b hb=>by
   rw[z2y];refine⟨fun q=>?_,(hf b hb).1⟩;have ob:∃o,s.heap.get? b=some o:=by
    obtain⟨o4,e4,_⟩:=h4;simp only[mem_cons,not_mem_nil,or_false]at hb;rcases hb with rfl|rfl
    ·exact⟨_,h1⟩
    ·exact⟨_,e4⟩
   obtain⟨o,eo⟩:=ob;exact absurd (lt_size eo) (by rw[q];exact lt_irrefl _)
  refine⟨_,rfl,wpAny_letOwnedTupleGo_enum (s:={ s with heap:=h',toks:=s.toks+1 }) a1 fun h2' b1 b2=>?_⟩;obtain⟨_,f1,f2,f3,f4⟩:=hf e (by simp);have I2:Inv X pins σ (upd H s.heap.objs.size (.tup [.int (j+i),x])) { s with heap:=h2',toks:=s.toks+1 }:=I1.turned (t':=s.toks+1) (fun b o hb q=>(b2.2 b hb).trans q) (old' e (by simp)) f1 f3 f4.1 f4.2;refine⟨.ref s.heap.objs.size,_,I2,rfl,⟨_,rfl,hfr,fun xs' q1=>?_⟩,⟨⟨ux,by rw[jsucc];exact b1⟩,a3.at fun o q=>(b2.2 it (Ne.symm nd)).trans q⟩,old'⟩;rw[ha]at q1;cases q1;exact⟨x,hx,rfl⟩
 done:=by
  intro X hP hw hK hc i pins s σ H E I hf st hg;subst hP hw hK;obtain⟨⟨old,h1⟩,h4⟩:=st;obtain⟨xs,ha,hend⟩:=hg;obtain⟨us,ru,pu,_⟩:=I.list (SqL.of ha);refine y9f (I.ok.hd hc) h1 h4 pu.isList (by simpa using Vals.none_of ru hend) fun h' hk=>⟨rfl,I.turneds (t':=s.toks) (ch:=[e,it]) (fun b u hb q=>hk b u (fun z=>hb (by simp[z])) q) hf⟩
 self:=fun _ _ _ _ _ st h=>by
  obtain⟨⟨old,h1⟩,_⟩:=st;exact wpAny_pyIter_enum h1 h
def q5u (ta:TA)(tk:TE):TI:=fun σ H R=>ta σ H fun vs H1=>tk σ H1 fun y H2=>∃a j,vs=[.ref a]/\y=.int j/\Builtin.SmallTypes.fitsIndex j=true/\∃xs,H2 a=some (.lst xs)/\R (Ite a j) H2
theorem q0w {elts:List Expr}{x1:Nat}{pt kp:Pos}{e1 e2:Expr}{ta:TA}{tk:TE}{p pos:Pos}(hg:Gl X "enumerate")(hm:X.mg "enumerate" = none)(ha:PA X [e1] ta)(hk:PE X e2 tk)
  (he:backTo pos (starEach [e1] X.env)=(false,eval e1 X.env)::backTo pos (starEach [] X.env):=by rfl)(hpl:(backTo pos (starEach [e1] X.env)).any (·.1)=false:=by rfl)
  (hall:(backToKw pos (keywordEach [⟨some "start",e2,kp⟩] X.env)).all (·.1.isSome)=true:=by rfl)(hkw:(backToKw pos (keywordEach [⟨some "start",e2,kp⟩] X.env)).any (·.1.isNone)=false:=by rfl) :
  PI X (.Tuple elts x1 pt) (.Call (.Name "enumerate" p) [e1] [⟨some "start",e2,kp⟩] pos) (q5u ta tk):=by
 intro pins s σ H R I h;refine wpAny_Call_Name_kw (z9k I hg hm boot_enumerate ?_);refine y4h (thn (ha pos pins s σ H _ I h) fun us s1 zq=>?_) he hpl hall hkw;obtain⟨vs,H1,I1,r1,q1⟩:=zq;refine kws_cons (thn (hk pins s1 σ H1 _ I1 q1) fun u s2 ⟨y,H2,I2,ry,q2⟩=>kws_nil ?_);obtain⟨a,j,rfl,rfl,hj,xs,hA,q⟩:=q2;obtain⟨u1,rfl,ru⟩:=z8w r1;cases ru;obtain⟨t,rfl⟩:=ry;obtain⟨us,ru,pu,_⟩:=I2.list (SqL.of hA);refine y9i hj pu.isList fun h' z1 z2 z3 z7=>wpAny_pyIter_enum z1 ?_;refine⟨s2.heap.objs.size+1,_,_,_,H2,rfl,I2.kept (t':=s2.toks) z7,x4f (by show(_:Nat)≠_;omega),⟨⟨_,by simpa using z1⟩,z2⟩,fun c hc=>?_,q⟩;have hge:s2.heap.objs.size<=c:=by
  simp only[mem_cons,not_mem_nil,or_false]at hc;rcases hc with rfl|rfl
  ·exact le_add_right _ _
  ·exact le_refl _
 exact I2.fpOk hge (I2.hok.fresh hge)
def j2v (a:Addr)(j:Int)(g:TG)(tb:TS)(D:Ends)(σ:St)(H1:Hp):Prop:=∃W:Nat->Nat->St->Hp->Prop,(∃m,W 0 m σ H1)/\∀i m σ H,W i m σ H ->
 ((Ite a j).stop i H/\D.nx σ H)\/((Ite a j).go i H/\∃N:St->Hp->Prop,(∀σ' H',N σ' H'->∃m',m' < m/\W (i+1) m' σ' H')/\∀x H',(Ite a j).yld i H x H'->g x σ H' fun σ2 H2=>tb { D with nx:=N,ct:=N,bk:=D.nx } σ2 H2)
theorem q6b {ta:TA}{tk:TE}{g:TG}{tb:TS}{D:Ends}{σ:St}{H:Hp}:tFor (q5u ta tk) g tb D σ H=ta σ H fun vs H1=>tk σ H1 fun y H2=>∃a j,vs=[.ref a]/\y=.int j/\Builtin.SmallTypes.fitsIndex j=true/\∃xs,H2 a=some (.lst xs)/\j2v a j g tb D σ H2:=rfl
theorem k0r {a:Addr}{j:Int}{xs:List V}{g:TG}{tb:TS}{D:Ends}{σ:St}{H:Hp}(Pv:Nat->St->Hp->Prop)(h0:Pv 0 σ H)(hl:∀i σ H,Pv i σ H->H a=some (.lst xs))
  (hs:∀(i:Nat) x σ H t,xs[i]? = some x->Pv i σ H->H t=none->g (.ref t) σ (upd H t (.tup [.int (j+i),x])) fun σ2 H2=>tb { D with nx:=Pv (i+1),ct:=Pv (i+1),bk:=D.nx } σ2 H2)(hd:∀σ H,Pv xs.length σ H->D.nx σ H):j2v a j g tb D σ H:=by
 refine⟨fun i m σ H=>Pv i σ H/\i+m=xs.length,⟨xs.length,h0,by omega⟩,fun i m σ H ⟨p,e⟩=>?_⟩;cases m with
 |zero =>
  obtain rfl:i=xs.length:=by omega
  exact .inl ⟨⟨xs,hl _ σ H p,List.getElem?_eq_none (le_refl _)⟩,hd σ H p⟩
 |succ m =>
  obtain⟨x,hx⟩:∃x,xs[i]? = some x:=⟨_,getElem?_eq_getElem (by omega)⟩;refine .inr ⟨⟨xs,x,hl i σ H p,hx⟩,Pv (i+1),fun σ' H' q=>⟨m,by omega,q,by omega⟩,fun v H' y=>?_⟩;obtain⟨t,rfl,ht,y⟩:=y;obtain⟨x',hx',rfl⟩:=y xs (hl i σ H p);rw[hx]at hx';cases hx';exact hs i x σ H t hx p ht
end
end L2
namespace L2
open PySem PySem.Spec PyProof.Rows PySem.W
section
variable {X:Cx}{a b:Expr}{rest:List Expr}{pos:Pos}{ta tb:TE}
theorem x5a:OpR X (compareOp .In) (fun x y H Q=>∃i j,x=.str i/\y=.str j/\Q (.bl (!(Builtin.Str.occurrences j i 0 j.length 1).isEmpty)) H):=by
 intro pins s σ H x y v u Q I rx ry h;obtain⟨i,j,rfl,rfl,q⟩:=h;obtain⟨t,rfl⟩:=rx;obtain⟨t',rfl⟩:=ry;exact PySem.P.in_str (z1r I q rfl)
theorem q9j:MtR X "str.index" (fun x vs H Q=>∃i j n r,x=.str i/\vs=[.str j]/\Builtin.Str.occurrences i j 0 i.length 1=n::r/\Q (.int (n:Nat)) H):=by
 intro pins s σ H x xs v us Q I rx rs h;obtain⟨i,j,n,r,rfl,rfl,e,q⟩:=h;obtain⟨t,rfl⟩:=rx;obtain⟨u,rfl,ru⟩:=z8w rs;obtain⟨t',rfl⟩:=ru;exact call_gives F.slot_str_index (typeIs_str _ _ _) F.entry_str_index (F.args_str_index_2 _ _) (gives_str_index i j t t' n r e) ⟨.int n,H,I.tok _,⟨_,rfl⟩,q⟩
def j8r (K:W.Frag)(ta tb:TE):TE:=fun σ H Q=>ta σ H fun x H1=>∃k,TruV K x H1 k/\if k=true then tb σ H1 Q else Q x H1
theorem j1b (ha:PE X a ta)(hb:PE X (.BoolOp .And (b::rest) pos) tb):PE X (.BoolOp .And (a::b::rest) pos) (j8r X.K ta tb):=by
 intro pins s σ H Q I h;refine BoolOp_and (thn (ha pins s σ H _ I h) fun v s1 zq=>?_);obtain⟨x,H1,I1,r1,k,e,q1⟩:=zq;refine thn (q4q pins s1 σ H1 x v (fun k' H'=>k' = k/\H' = H1) I1 r1 ⟨k,e,rfl,rfl⟩) fun c s2 zq=>?_;obtain⟨H2,I2,ec,eH⟩:=zq;subst ec eH;cases c with
 |true=>exact hb pins s2 σ H2 Q I2 (by rw[if_pos rfl]at q1;exact q1)
 |false=>exact⟨x,H2,I2,r1,by rw[if_neg (by simp)]at q1;exact q1⟩
end
end L2
namespace VL
open PySem L2
section
variable {X:Cx}{a b:Expr}{rest:List Expr}{pos:Pos}{ta tb:TEd}
def j8x:D->D->(Bool->D->Prop)->Prop:=fun x y Q=>∃i j,x=.str i/\y=.str j/\Q false (.bl (!(Builtin.Str.occurrences j i 0 j.length 1).isEmpty))
theorem x6x:OpS (fun x y H Q=>∃i j,x=.str i/\y=.str j/\Q (.bl (!(Builtin.Str.occurrences j i 0 j.length 1).isEmpty)) H) j8x:=by
 intro io H0 F0 F δ σ H x y v u Q Qd I px py q k;obtain⟨i,j,rfl,rfl,q⟩:=q;cases px.str;cases py.str;exact⟨i,j,rfl,rfl,k false _ _ F H (Same.refl _) (I.pushF (d:=.bl _) rfl) q⟩
def q8r (ta tb:TEd):TEd:=fun δ Q=>ta δ fun _ x δ1=>∃i,x=.str i/\tb δ1 fun _ y δ2=>∃j,y=.str j/\∃n r,Builtin.Str.occurrences i j 0 i.length 1=n::r/\Q false (.int (n:Nat)) δ2
theorem q8q {apos cpos:Pos}(ha:DE X a ta)(hb:DE X b tb)
  (hbase:attributeBase a "index" X.env (eval a X.env)=eval a X.env:=by rfl)
  (hfew:((backTo cpos (starEach [b] X.env)).all (fun x=>!x.1)&&(backToKw cpos (keywordEach [] X.env)).all (fun x=>x.1.isSome)
  &&decide ([b].length+([]:List Keyword).length+(if ([]:List Keyword).isEmpty then 0 else 1)<30))=true:=by rfl)
  (hline:(apos.endLine == cpos.line)=true:=by rfl)(hst:starEach [b] X.env=(false,eval b X.env)::starEach [] X.env:=by rfl)(hplain:(backTo cpos (starEach [] X.env)).any (·.1)=false:=by rfl) :
  DE X (.Call (.Attribute a "index" apos) [b] [] cpos) (q8r ta tb):=by
 obtain⟨t1,p1,s1⟩:=ha;obtain⟨t2,p2,s2⟩:=hb;refine⟨_,x8q plainAttrs_str PySem.F.slot_str_index PySem.F.type_str_index q9j p1 (z0i p2 z0p hst) hbase hfew hline hst hplain,fun io H0 F0 F δ σ H Q Qd I q k=>s1.fz I q fun d v δ1 F1 H1 f1 I1 r1 q1=>?_⟩;obtain⟨i,rfl,q1⟩:=q1;cases(show v=.str i from r1);refine⟨rfl,s2.fz I1 q1 fun d v δ2 F2 H2 f2 I2 r2 q2=>?_⟩;obtain⟨j,rfl,n,r,e,q2⟩:=q2;cases(show v=.str j from r2);exact⟨i,j,n,r,rfl,rfl,e,k false _ _ δ2 F2 H2 (f1.trans f2) I2.pI q2⟩
def q8n (ta tb:TEd):TEd:=fun δ Q=>ta δ fun _ x δ1=>∃i,x=.str i/\tb δ1 fun _ y δ2=>∃j,y=.str j/\j.length≠0/\i.length<=sizeLine/\Q false (.tup [.str (partition i j).1,.str (partition i j).2.1,.str (partition i j).2.2]) δ2
theorem q7x {apos cpos:Pos}(ha:DE X a ta)(hb:DE X b tb)
  (hbase:attributeBase a "partition" X.env (eval a X.env)=eval a X.env:=by rfl)
  (hfew:((backTo cpos (starEach [b] X.env)).all (fun x=>!x.1)&&(backToKw cpos (keywordEach [] X.env)).all (fun x=>x.1.isSome)
  &&decide ([b].length+([]:List Keyword).length+(if ([]:List Keyword).isEmpty then 0 else 1)<30))=true:=by rfl)
  (hline:(apos.endLine == cpos.line)=true:=by rfl)(hst:starEach [b] X.env=(false,eval b X.env)::starEach [] X.env:=by rfl)(hplain:(backTo cpos (starEach [] X.env)).any (·.1)=false:=by rfl) :
  DE X (.Call (.Attribute a "partition" apos) [b] [] cpos) (q8n ta tb):=by
 obtain⟨t1,p1,s1⟩:=ha;obtain⟨t2,p2,s2⟩:=hb;refine⟨_,x8q plainAttrs_str slot_str_partition type_str_partition y9h p1 (z0i p2 z0p hst) hbase hfew hline hst hplain,fun io H0 F0 F δ σ H Q Qd I q k=>s1.fz I q fun d v δ1 F1 H1 f1 I1 r1 q1=>?_⟩;obtain⟨i,rfl,q1⟩:=q1;cases(show v=.str i from r1);refine⟨rfl,s2.fz I1 q1 fun d v δ2 F2 H2 f2 I2 r2 q2=>?_⟩;obtain⟨j,rfl,hj,hi,q2⟩:=q2;cases(show v=.str j from r2);refine⟨i,j,rfl,rfl,hj,hi,fun p hp=>?_⟩;obtain⟨F3,s3,I3,r3⟩:=I2.newT (ds:=[.str (partition i j).1,.str (partition i j).2.1,.str (partition i j).2.2]) hp ⟨_,_,rfl,rfl,_,_,rfl,rfl,_,_,rfl,rfl,rfl⟩;exact k false _ _ δ2 F3 _ ((f1.trans f2).trans s3) (I3.pushF r3) q2
def j6b (ta tb:TEd):TEd:=fun δ Q=>ta δ fun _ x δ1=>(x=.non/\Q false .non δ1) \/ ∃y ys,x=.tup (y::ys)/\tb δ1 Q
theorem x7o (ha:DE X a ta)(hb:DE X (.BoolOp .And (b::rest) pos) tb):DE X (.BoolOp .And (a::b::rest) pos) (j6b ta tb):=by
 obtain⟨t1,p1,s1⟩:=ha;obtain⟨t2,p2,s2⟩:=hb;refine⟨_,j1b p1 p2,fun io H0 F0 F δ σ H Q Qd I q k=>s1.fz I q fun d v δ' F' H' sf I' r q'=>?_⟩;rcases q' with ⟨rfl,q'⟩|⟨y,ys,rfl,q'⟩
 ·cases(show v=.non from r);exact⟨false,rfl,by rw[if_neg (by simp)];exact k false _ _ δ' F' H' sf (I'.pushF (d:=.non) rfl) q'⟩
 ·obtain⟨p,vs,rfl,hp,rs⟩:=r;obtain⟨z,zs,rfl,_,_⟩:=rs;refine⟨true,.inr (.inl ⟨_,.inl (.inl (I'.sub _ _ hp)),rfl⟩),?_⟩;rw[if_pos rfl];exact s2 io H0 F0 F' δ' σ H' Q Qd I' q' fun b d v δ2 F2 H2 s2 I2 q2=>k b d v δ2 F2 H2 (sf.trans s2) I2 q2
variable {δ:List Slot}{Q:Bool->D->List Slot->Prop}
theorem j5g:q8r ta tb δ Q=ta δ fun _ x δ1=>strK x fun i=>tb δ1 fun _ y δ2=>strK y fun j=>∃n r,Builtin.Str.occurrences i j 0 i.length 1=n::r/\Q false (.int (n:Nat)) δ2:=by unfold q8r;simp only[y0d]
theorem j2o:q8n ta tb δ Q=ta δ fun _ x δ1=>strK x fun i=>tb δ1 fun _ y δ2=>strK y fun j=>j.length≠0/\i.length<=sizeLine/\Q false (.tup [.str (partition i j).1,.str (partition i j).2.1,.str (partition i j).2.2]) δ2:=by unfold q8n;simp only[y0d]
theorem j6d:j6b ta tb δ Q=ta δ fun _ x δ1=>(x=.non/\Q false .non δ1) \/ ∃y ys,x=.tup (y::ys)/\tb δ1 Q:=rfl
theorem j7e {a:D}{l:List D}{Q:D->Prop}:(∃d,atI (a::l) 0=some d/\Q d)=Q a:=by rw[atI0];simp
theorem j7 {a b:D}{l:List D}{Q:D->Prop}:(∃d,atI (a::b::l) 1=some d/\Q d)=Q b:=by rw[atI1];simp
theorem j5w {a b c:D}{l:List D}{Q:D->Prop}:(∃d,atI (a::b::c::l) 2=some d/\Q d)=Q c:=by rw[atI2];simp
end
end VL
namespace Pap
open PySem L2
inductive Part where
 |txt (s:Str)
 |tup (n:Str)(ps:List Part)
inductive RepL (H:Hp):List V->List Part->List V->List Addr->Prop
 |nil:RepL H [] [] [] []
 |txt {s:Str}{vs:List V}{ps:List Part}{out:List V}{F:List Addr}:RepL H vs ps out F->RepL H (.str s::vs) (.txt s::ps) (.str s::out) F
 |tup {t l:Addr}{n:Str}{cs:List V}{qs:List Part}{o1:List V}{F1:List Addr}{vs:List V}{ps:List Part}{o2:List V}{F2:List Addr}(ht:H t=some (.tup [.str n,.ref l])) (hl:H l=some (.lst cs)) (h1:RepL H cs qs o1 F1) (h2:RepL H vs ps o2 F2) :
   RepL H (.ref t::vs) (.tup n qs::ps) (.ref t::(o1++o2)) (l::(F1++F2))
inductive Bel (H:Hp):Addr->List Addr->List (List Part×Str)->List Addr->Prop
 |nil {c:Addr}:Bel H c [] [] []
 |cons {c a t:Addr}{as:List Addr}{vs:List V}{n:Str}{ps:List Part}{o:List V}{F G:List Addr}{fs:List (List Part×Str)}(ha:H a=some (.lst (vs++[.ref t]))) (ht:H t=some (.tup [.str n,.ref c])) (h:RepL H vs ps o F) (b:Bel H a as fs G) :
   Bel H c (a::as) ((ps,n)::fs) (F++G)
structure BInv (H:Hp)(a:Addr)(as:List Addr)(cur:List Part)(fs:List (List Part×Str))(S:List Addr):Prop where
 ex:∃vs o F G,H a=some (.lst vs)/\RepL H vs cur o F/\Bel H a as fs G/\S=F++G
 nd:(a::as).Nodup
 off:∀b∈a::as,b∉S
end Pap
namespace L2
open PySem PySem.Spec PyProof.Rows
structure Ent (K:W.Frag)(mg:Str->Option Value)(x:Str)(st:Stmt)(ps:List Str)(f:Addr)(fd:FuncData):Prop where
 F:Fun K x x st f fd
 g:mg x=some (.ref f)
 b:Binds K fd ps []
theorem j5p {K:W.Frag}{mg:Str->Option Value}{h:Heap}{x:Str}{st:Stmt}{ps:List Str}{f:Addr}{oc:Value}{od an:Option Addr}{osl:Array (Option Value)}{kV doc pm cdv ct:Value}(X:K.In h)(G:h.Ns mainGlobals mg)
  (hb:∀(kV doc pm:Value)(an:Option Addr)(cdv ct:Value)(us:List Value),us.length=ps.length->bindArgs (fnOf x x (z4t st) (z2o st) (z0f st) .none kV doc pm an cdv ct) ⟨us,[]⟩=pure (ps.zip us))
  (a:W.nsIn K mainGlobals x=some (some (.ref f)))(l:K.lookup f=some ⟨oc,od,.func (fnOf x x (z4t st) (z2o st) (z0f st) .none kV doc pm an cdv ct),osl⟩)
  (c:codeIn K cdv x=true)(k:keepIn K (.ref f)=true):∃f fd,Ent K mg x st ps f fd :=
 ⟨f,_,y7j l c k,mg_of X G a,(y7j (st:=st) l c k).binds hb⟩
end L2
namespace VL
open PySem L2
section
variable {X:Cx}{k i:Nat}{f:Addr}{fd:FuncData}{ps:List Str}{R:RD}{x y:Str}{st:Stmt}{p p' pos pos':Pos}{a e:Expr}{es:List Expr}{da:TEd}{sp:Sp}
theorem z1x {u:TLd}(G:FnOk X.prog X.w X.K X.mg X.base CX0 k f fd ps (spD R))(N:Ent X.K X.mg x st ps f fd)(ha:DL X (e::es) u)(hr:Room k X.A:=by refine Room.mono (by assumption) (by omega))(hg:Gl X x:=by rfl)(hdb:(x == ("__debug__":Str))=false:=by decide)(he:starEach (e::es) X.env=(false,eval e X.env)::starEach es X.env:=by rfl)(hpl:(backTo pos (starEach es X.env)).any (·.1)=false:=by rfl) :
  DE X (.Call (.Name x p) (e::es) [] pos) (q0q R u):=j1w G hr hg N.g N.F.kp N.b x9b ha hdb he hpl
theorem x5y {u:TLd}(G:FnOk X.prog X.w X.K X.mg X.base CX0 k f fd ps (spD R))(N:Ent X.K X.mg x st ps f fd)(hv:PE X (.Name y p') (tVar i))(ha:DL X es u)(hr:Room k X.A:=by refine Room.mono (by assumption) (by omega))(hg:Gl X x:=by rfl)(hdb:(x == ("__debug__":Str))=false:=by decide)(hs:starEach (.Name y p' :: es) X.env=(false,eval (.Name y p') X.env)::starEach es X.env:=by rfl)(hpl:(backTo pos (starEach es X.env)).any (·.1)=false:=by rfl) :
  DE X (.Call (.Name x p) (.Name y p' :: es) [] pos) (x0x R i u):=q3j G hr hg N.g N.F.kp N.b x9b hv ha hdb hs hpl
theorem x3l {u:TAd}(G:FnOk X.prog X.w X.K X.mg X.base CX0 k f fd ps (spD R))(N:Ent X.K X.mg x st ps f fd)(ha:DA X i (e::es) u)(hr:Room k X.A:=by refine Room.mono (by assumption) (by omega))(hg:Gl X x:=by rfl)(hdb:(x == ("__debug__":Str))=false:=by decide)(he:starEach (e::es) X.env=(false,eval e X.env)::starEach es X.env:=by rfl)(hpl:(backTo pos (starEach es X.env)).any (·.1)=false:=by rfl) :
  DE X (.Call (.Name x p) (e::es) [] pos) (y2l R i u):=x5c G hr hg N.g N.F.kp N.b x9b ha hdb he hpl
theorem z6s {t:TA}(G:FnOk X.prog X.w X.K X.mg X.base CX0 k f fd ps sp)(N:Ent X.K X.mg x st ps f fd)(ha:PA X (e::es) t)(hr:Room k X.A:=by refine Room.mono (by assumption) (by omega))(hg:Gl X x:=by rfl)(hdb:(x == ("__debug__":Str))=false:=by decide)(he:starEach (e::es) X.env=(false,eval e X.env)::starEach es X.env:=by rfl)(hpl:(backTo pos (starEach es X.env)).any (·.1)=false:=by rfl) :
  PE X (.Call (.Name x p) (e::es) [] pos) (z9x sp [] E0 t):=z7f G hr hg N.g N.F.kp N.b .nil x9b ha hdb he hpl
theorem dq (i:Nat)(hN:X.N.Nodup)(he:DE X a da)(hi:X.N[i]? = some x:=by rfl)(hx:Loc X.env.scope x:=by exact Or.inl rfl)(hs:swapsWith a (some (.Name x pos')) pos.line X.env=pure false:=by rfl)(hf:X.fn x=true\/X.env.scope.names.lookup x=some .local:=by first|exact .inl rfl|exact .inr rfl|assumption) :
  DS X (.Assign [.Name x pos'] a pos) (dSet i da):=x7c hN hi hx he hs hf
theorem dn (i:Nat)(hN:X.N.Nodup)(hi:X.N[i]? = some x:=by rfl)(hx:Loc X.env.scope x:=by exact Or.inl rfl)(hf:X.fn x=true\/X.env.scope.names.lookup x=some .local:=by first|exact .inl rfl|exact .inr rfl|assumption) :
  DG X (.Name x pos) (dgN i):=q7z hN hi hx hf
end
end VL
set_option backward.defeqAttrib.useBackward true
namespace K04
open PySem L2 VL
noncomputable def top (i:Nat):Stmt:=PySem.Challenge.pw_formferry_k23_form_rows_looked_at.main.body.getD i (.Pass ⟨0,0,0,0⟩)
abbrev u0n:Stmt:=top 10
abbrev u5i:Stmt:=top 11
abbrev u3j:Stmt:=top 13
abbrev u3k:Stmt:=top 14
abbrev u6f:Stmt:=top 15
abbrev u1d:Stmt:=top 19
abbrev u2s:Stmt:=top 20
abbrev u3a:Stmt:=top 21
abbrev u3b:Stmt:=top 22
abbrev u2o:Stmt:=top 23
abbrev u4a:Stmt:=top 24
abbrev u1o:Stmt:=top 25
abbrev u2t:Stmt:=top 26
abbrev u1p:Stmt:=top 27
abbrev u5x:Stmt:=top 31
abbrev u1c:Stmt:=top 32
abbrev u1y:Stmt:=top 33
abbrev u3s:Stmt:=top 34
abbrev u3l:Stmt:=top 35
abbrev u3t:Stmt:=top 36
abbrev u3h:Stmt:=top 38
abbrev u2p:Stmt:=top 39
abbrev u3q:Stmt:=top 40
abbrev u4b:Stmt:=top 41
abbrev u3c:Stmt:=top 42
abbrev u1z:Stmt:=top 43
abbrev u2a:Stmt:=top 44
abbrev u2q:Stmt:=top 45
abbrev u3u:Stmt:=top 46
abbrev u1q:Stmt:=top 47
abbrev u4k:Stmt:=top 48
abbrev u1l:Stmt:=top 49
abbrev u0i:Stmt:=top 50
abbrev u0z:Stmt:=top 51
abbrev u1b:Stmt:=top 52
abbrev u0o:Stmt:=top 53
abbrev u0w:Stmt:=top 54
abbrev u1g:Stmt:=top 55
abbrev u1r:Stmt:=top 56
abbrev u3v:Stmt:=top 57
abbrev u4m:Stmt:=top 58
abbrev u3i:Stmt:=top 59
abbrev u4l:Stmt:=top 60
abbrev u2u:Stmt:=top 61
abbrev u2j:Stmt:=top 62
abbrev u6x:Stmt:=top 63
local macro_rules|`(tactic| walk_at "s")=>`(tactic| exact ⟨rfl,rfl,rfl,by decide +kernel,rfl,by decide +kernel,by decide +kernel⟩)
theorem z8u:FnScope ["pattern"] ["pattern"] (z0f u0n):=by walk_at "s"
theorem u5z:FnScope ["pattern","found","inner"] ["pattern"] (z0f u5i):=by walk_at "s"
theorem u2v:FnScope ["rules","ahead","name","pattern","found"] ["rules"] (z0f u3j):=by walk_at "s"
theorem u3o:FnScope ["root","rules","known","rule","sign"] ["root","rules"] (z0f u3k):=by walk_at "s"
theorem j1y:FnScope ["form"] ["form"] (z0f u6f):=by walk_at "s"
theorem y7s:FnScope ["sign"] ["sign"] (z0f u1d):=by walk_at "s"
theorem x4c:FnScope ["text"] ["text"] (z0f u2s):=by walk_at "s"
theorem u4t:FnScope ["line","begin","end","close"] ["line","begin"] (z0f u3a):=by walk_at "s"
theorem u3m:FnScope ["line","found","begin","end"] ["line"] (z0f u3b):=by walk_at "s"
theorem x0p:FnScope ["kind","patterns"] ["kind","patterns"] (z0f u2o):=by walk_at "s"
theorem u6g:FnScope ["rows","patterns"] ["rows"] (z0f u4a):=by walk_at "s"
theorem u4r:FnScope ["groups","inner"] ["groups"] (z0f u1o):=by walk_at "s"
theorem u5d:FnScope ["groups","token","row"] ["groups","token"] (z0f u2t):=by walk_at "s"
theorem u2w:FnScope ["line","groups","token"] ["line"] (z0f u1p):=by walk_at "s"
theorem u7i:FnScope ["pattern","kinds","line"] ["pattern","kinds"] (z0f u5x):=by walk_at "s"
theorem u4u:FnScope ["pattern","kind"] ["pattern"] (z0f u1c):=by walk_at "s"
theorem u4v:FnScope ["line","pattern"] ["line"] (z0f u1y):=by walk_at "s"
theorem u4w:FnScope ["line","middle","reader","cut","told"] ["line","middle","reader"] (z0f u3s):=by walk_at "s"
theorem u2x:FnScope ["lines","middle","reader","first","rules","place","line","rule"] ["lines","middle","reader","first"] (z0f u3l):=by walk_at "s"
theorem u4x:FnScope ["rows","head","form"] ["rows"] (z0f u3t):=by walk_at "s"
theorem y3u:FnScope ["_law_script","_law_k"] ["_law_script","_law_k"] (z0f u3h):=by walk_at "s"
theorem u0x:FnScope ["_law_script","_law_turn","_law_many","_law_cells","_law_found","_law_left","_law_k","_law_at","_law_place","_law_number"] ["_law_script","_law_turn","_law_many"] (z0f u2p):=by walk_at "s"
theorem y9v:FnScope ["_law_draws_here"] ["_law_draws_here"] (z0f u3q):=by walk_at "s"
theorem u5l:FnScope ["_law_found","_law_due_here","_law_k"] ["_law_found","_law_due_here"] (z0f u4b):=by walk_at "s"
theorem u4c:FnScope ["_law_k","_law_draw","_law_letters","_law_base","_law_at"] ["_law_k","_law_draw"] (z0f u3c):=by walk_at "s"
theorem y1z:FnScope ["_law_pattern_here","_law_number"] ["_law_pattern_here","_law_number"] (z0f u1z):=by walk_at "s"
theorem u1e:FnScope ["_law_some","_law_draws_here","_law_row","_law_number","_law_many","_law_at","_law_made"] ["_law_some","_law_draws_here"] (z0f u2a):=by walk_at "s"
theorem u3p:FnScope ["_law_names","_law_number","_law_some","_law_at"] ["_law_names","_law_number"] (z0f u2q):=by walk_at "s"
theorem u2c:FnScope ["_law_script","_law_turn","_law_many","_law_draws_here","_law_first","_law_names","_law_rules","_law_name_here","_law_at"] ["_law_script","_law_turn","_law_many"] (z0f u3u):=by walk_at "s"
theorem u2k:FnScope ["_law_pattern_here","_law_found","_law_one"] ["_law_pattern_here"] (z0f u1q):=by walk_at "s"
theorem u2d:FnScope ["_law_form_here","_law_met","_law_name_here","_law_pattern_here","_law_found","_law_sign"] ["_law_form_here"] (z0f u4k):=by walk_at "s"
theorem y1k:FnScope ["_law_pattern_here","_law_kinds"] ["_law_pattern_here","_law_kinds"] (z0f u1l):=by walk_at "s"
theorem u3n:FnScope ["_law_pattern_here","_law_mark"] ["_law_pattern_here"] (z0f u0i):=by walk_at "s"
theorem u4s:FnScope ["_law_line","_law_at"] ["_law_line","_law_at"] (z0f u0z):=by walk_at "s"
theorem u0y:FnScope ["_law_line","_law_at","_law_end","_law_found","_law_kind_here"] ["_law_line","_law_at"] (z0f u1b):=by walk_at "s"
theorem u0j:FnScope ["_law_line","_law_at","_law_strokes","_law_found","_law_one"] ["_law_line","_law_at","_law_strokes"] (z0f u0o):=by walk_at "s"
theorem u4y:FnScope ["_law_line","_law_at","_law_found"] ["_law_line","_law_at"] (z0f u0w):=by walk_at "s"
theorem u5e:FnScope ["_law_line","_law_at","_law_found"] ["_law_line","_law_at"] (z0f u1g):=by walk_at "s"
theorem u4d:FnScope ["_law_text","_law_found"] ["_law_text"] (z0f u1r):=by walk_at "s"
theorem u1s:FnScope ["_law_error","_law_found"] ["_law_error"] (z0f u3v):=by walk_at "s"
theorem u1t:FnScope ["_law_rows","_law_root","_law_found","_law_k","_law_name_here","_law_sign","_law_text","_law_pattern_here"] ["_law_rows"] (z0f u4m):=by walk_at "s"
theorem u3w:FnScope ["_law_number","_law_some"] ["_law_number"] (z0f u4l):=by walk_at "s"
theorem u2h:FnScope ["_law_row","_law_number","_law_some","_law_sign","_law_at","_law_turned"] ["_law_row","_law_number"] (z0f u2u):=by walk_at "s"
theorem u3d:FnScope ["_law_rows","_law_draws_here","_law_turn","_law_at"] ["_law_rows","_law_draws_here"] (z0f u2j):=by walk_at "s"
theorem u5p:FnScope ["_law_script","_law_form_here","_law_rows","_law_due_here","_law_handed"] ["_law_script"] (z0f u6x):=by walk_at "s"
abbrev i_Twice:Stmt:=x0b (top 2) 0
abbrev i_NoName:Stmt:=x0b (top 3) 0
abbrev i_NoText:Stmt:=x0b (top 5) 0
theorem q0m:FnScope ["self","name"] ["self","name"] (z0f i_Twice):=by walk_at "s"
theorem x7i:FnScope ["self","name"] ["self","name"] (z0f i_NoName):=by walk_at "s"
theorem x8x:FnScope ["self","row"] ["self","row"] (z0f i_NoText):=by walk_at "s"
local macro_rules|`(tactic| walk_at "vd")=>do
 let u<-("reduceIte q7d q5o q4p q4s y1x x8k y1g q6z y2j x9u q5t q4d q5a q6n j7o q5c q6h q3r j5z q6t q6l z9t q4i y1i y2a z9p j3a q5f j3x x7t q6o v_if j4y v_c j3t v_mv v_op j6g j3p q5s j7l j5o v_or q5j q6q q6w j7h j4x q7e j7j j7d v_CB j5b v_mt v_gN y2f y1v y1f q6c j4e q7l x7x y2o q3z q5p v_aV v_aO z9j v_oN v_oS q5y j3w j3h q7a y1o j3n q4x v_I v_Ic y1y y1t x9y y2m y1r j3z q6g j3v j5i q4w q7o j2w q4m q6m q6p q7c j6o z9c q4b q6v q6f q7f x6l x5j z9d x9z z9q z9g j4w z4m z4l z3q z3w z3c z4k z4e z3o z3u z3e z4f z4h z3n z3l z3d z4j z4n z3v z3s z3g j2k q4t x5m j6w y1u y2d y2e z9w j2q".splitOn " ").mapM fun n=>`(Lean.Parser.Tactic.simpLemma| ↓ $(Lean.mkIdent n.toName):term);let v<-("z6p z7n j4u j7p outS z9s z6l z6n z7a List.map_cons List.map_nil List.length_cons List.length_nil Nat.reduceAdd List.replicate_succ List.replicate_zero List.cons_append List.nil_append List.append_nil List.drop_succ_cons List.drop_zero List.filter_cons List.filter_nil Option.isNone_none Option.isNone_some and_true true_and decide_eq_true_eq Bool.true_eq_false Bool.false_eq_true Bool.not_true Bool.not_false Bool.not_not Bool.not_eq_eq_eq_not decide_true decide_false if_true if_false eq_self Int.zero_add List.isEmpty_nil List.isEmpty_cons not_true_eq_false not_false_eq_true false_and and_false Option.isSome_some z6o fgt List.set_cons_zero List.set_cons_succ".splitOn " ").mapM fun n=>`(Lean.Parser.Tactic.simpLemma| $(Lean.mkIdent n.toName):term)
 `(tactic|((try dsimp only[$((u.drop 1++v).toArray),*]);(try simp only[$((u++v).toArray),*])))
structure Zs (K:W.Frag)(mg:Str->Option Value):Prop where
 z_list:mg "list" = none
 z_reversed:mg "reversed" = none
 z_isinstance:mg "isinstance" = none
 z_str:mg "str" = none
 z_len:mg "len" = none
 z_int:mg "int" = none
 z_bool:mg "bool" = none
 z_range:mg "range" = none
 z_all:mg "all" = none
 z_any:mg "any" = none
 z_zip:mg "zip" = none
 z_tuple:mg "tuple" = none
 z_dict:mg "dict" = none
 z_set:mg "set" = none
 z_enumerate:mg "enumerate" = none
 z_max:mg "max" = none
 g_TEXT_SIGN:∃t,mg "TEXT_SIGN" = some (.str "#" t)
 kit:q8b K
inductive Wk where
 |maybe|many|some
noncomputable def Wk.str:Wk->Str
 |.maybe=>"maybe"
 |.many=>"many"
 |.some=>"some"
inductive Pat where
 |none
 |one (s:Str)
 |row (ps:List Pat)
 |any (ps:List Pat)
 |wrap (k:Wk)(p:Pat)
mutual
noncomputable def patD:Pat->D
 |.none=>.tup [.str "none"]
 |.one s=>.tup [.str "one",.str s]
 |.row ps=>.tup [.str "row",.lst (z1w ps)]
 |.any ps=>.tup [.str "any",.lst (z1w ps)]
 |.wrap k p=>.tup [.str k.str,patD p]
noncomputable def z1w:List Pat->List D
 | []=>[]
 |p::ps=>patD p::z1w ps
end
theorem z2a:∀ps:List Pat,z1w ps=ps.map patD
 | []=>rfl
 |p::ps=>by rw[z1w,z2a ps];rfl
theorem y3r (ps:List Pat):(z1w ps).length=ps.length:=by rw[z2a];simp
noncomputable def kids:Pat->List Pat
 |.row ps=>ps
 |.any ps=>ps
 |.wrap _ p=>[p]
 |_=>[]
mutual
noncomputable def szP:Pat->Nat
 |.none=>1
 |.one _=>1
 |.row ps=>1+szPs ps
 |.any ps=>1+szPs ps
 |.wrap _ p=>1+szP p
noncomputable def szPs:List Pat->Nat
 | []=>0
 |p::ps=>szP p+szPs ps
end
mutual
noncomputable def dpP:Pat->Nat
 |.none=>0
 |.one _=>0
 |.row ps=>dpPs ps+1
 |.any ps=>dpPs ps+1
 |.wrap _ p=>dpP p+1
noncomputable def dpPs:List Pat->Nat
 | []=>0
 |p::ps=>max (dpP p) (dpPs ps)
end
theorem z4w {p:Pat}:∀{ps:List Pat},p∈ps->dpP p<=dpPs ps
 |q::ps,h=>by
  rcases mem_cons.mp h with rfl|h
  ·simp only[dpPs];omega
  ·have:=z4w h;simp only[dpPs];omega
theorem y6a {p:Pat}:∀{ps:List Pat},p∈ps->szP p<=szPs ps
 |q::ps,h=>by
  rcases mem_cons.mp h with rfl|h
  ·simp only[szPs];omega
  ·have:=y6a h;simp only[szPs];omega
theorem j1m:∀p:Pat,0<szP p
 |.none=>by simp[szP]
 |.one _=>by simp[szP]
 |.row ps=>by simp only[szP];omega
 |.any ps=>by simp only[szP];omega
 |.wrap _ p=>by simp only[szP];omega
theorem y0z:∀ps:List Pat,ps.length<=szPs ps
 | []=>le_refl _
 |p::ps=>by have:=y0z ps;have:=j1m p;simp only[szPs,length_cons];omega
theorem z5m:∀ps qs:List Pat,szPs (ps++qs)=szPs ps+szPs qs
 | [],qs=>by simp[szPs]
 |p::ps,qs=>by simp only[cons_append,szPs,z5m ps qs];omega
theorem q8c (p:Pat):szPs (kids p)<szP p:=by
 cases p<;>simp[kids,szP,szPs]
theorem j0a {p q:Pat}(h:q∈kids p):dpP q<dpP p:=by
 cases p with
 |row ps=>have:=z4w (show q∈ps from h);simp only[dpP];omega
 |any ps=>have:=z4w (show q∈ps from h);simp only[dpP];omega
 |wrap k p=>simp[kids]at h;subst h;simp[dpP]
 |none=>simp[kids]at h
 |one s=>simp[kids]at h
mutual
def z0x:Pat->List Str
 |.none=>[]
 |.one s=>[s]
 |.row ps=>z1f ps
 |.any ps=>z1f ps
 |.wrap _ p=>z0x p
def z1f:List Pat->List Str
 | []=>[]
 |p::ps=>z0x p++z1f ps
end
theorem z2s:∀ps qs:List Pat,z1f (ps++qs)=z1f ps++z1f qs
 | [],qs=>by simp[z1f]
 |p::ps,qs=>by simp only[cons_append,z1f,z2s ps qs,append_assoc]
theorem x0n {p:Pat}(h:∀s,p≠.one s):z0x p=z1f (kids p):=by
 cases p with
 |one s=>exact absurd rfl (h s)
 |_=>simp[z0x,z1f,kids]
mutual
theorem z4b:∀p:Pat,(z0x p).length<=szP p
 |.none=>by simp[z0x]
 |.one _=>by simp[z0x,szP]
 |.row ps=>by have:=z4d ps;simp only[z0x,szP];omega
 |.any ps=>by have:=z4d ps;simp only[z0x,szP];omega
 |.wrap _ p=>by have:=z4b p;simp only[z0x,szP];omega
theorem z4d:∀ps:List Pat,(z1f ps).length<=szPs ps
 | []=>by simp[z1f]
 |p::ps=>by have:=z4b p;have:=z4d ps;simp only[z1f,szPs,length_append];omega
end
theorem y6d {α:Type}(f g:α->D)(xs:List α){te:TEd}{Q:Bool->D->List VL.Slot->Prop}{δ:List VL.Slot}(hl:xs.length<=sizeLine)
  (h:∀x∈xs,∀P:D->List VL.Slot->Prop,P (g x) (.fz (f x)::δ)->te (.fz (f x)::δ) fun _ y δ'=>P y δ')(q:Q true (.lst (xs.map g)) δ):x6o 1 (xs.map f) (dgN 0) dYes te Q δ:=by
 refine⟨fun r acc δ1=>δ1=δ/\∃pre suf,xs=pre++suf/\r=suf.map f/\acc=pre.map g,⟨rfl,[],xs,rfl,rfl,rfl⟩,?_,?_⟩
 ·rintro d r acc δ1 ⟨rfl,pre,suf,e,er,rfl⟩;cases suf with
  |nil=>cases er
  |cons x suf =>
   cases er;refine⟨trivial,?_⟩;unfold dYes;dsimp only;rw[if_pos rfl];have hlen:pre.length<sizeLine:=by rw[e]at hl;simp at hl;omega
   exact h x (by rw[e];simp) (fun y δ4=>(pre.map g).length<sizeLine/\drop 1 δ4=δ1/\∃pre' suf',xs=pre'++suf'/\suf.map f=suf'.map f/\pre.map g++[y]=pre'.map g) ⟨by simpa using hlen,rfl,pre++[x],suf,by rw[e];simp,rfl,by simp⟩
 ·rintro acc δ1 ⟨rfl,pre,suf,e,er,rfl⟩;have es:suf=[]:=by simpa using er.symm
  subst es;simp at e;subst e;exact q
section
variable {P:Program}{w:World}{K:W.Frag}{mg:Str->Option Value}{base:Heap}{f:Addr}{fd:FuncData}
def x3b:RD:=fun δ Q=>∃p:Pat,δ=[.fz (patD p)]/\Q true (.lst (z1w (kids p))) [.no]
theorem x6i (E:Ent K mg "patterns_within" u0n ["pattern"] f fd)(T:Zs K mg):FnOk P w K mg base CX0 1 f fd ["pattern"] (spD x3b):=by
 refine VL.Fun.dok E.F z8u (fun δ Qd h=>?_) (by decide) (fun cdv A outer s H E δ Qd hr h=>?_)
 ·obtain⟨p,rfl,_⟩:=h;rfl
 ·obtain⟨p,rfl,q⟩:=h;have hu:=z4s hr;refine⟨_,(z0b (z1k (z0r x0t y0w (z0m z0w z1d (pv 0) z0c (fun _ _=>rfl)) (z1j (z0a z0h (z0a z0h z0d))) rfl) (z0e (z0n (z7m x9x z9b rfl T.z_list boot_list (z0a (z0m z0w z1d (pv 0) z0c (fun _ _=>rfl)) z0d)))) z0q)
   (z0b (z1k (z0r x0t y0w (z0m z0w z1d (pv 0) z0c (fun _ _=>rfl)) (z1j (z0a z0h (z0a z0h (z0a z0h z0d)))) rfl) (z0e (z0n (z1a (z0a (z0m z0w z1d (pv 0) z0c (fun _ _=>rfl)) z0d)))) z0q)
   (z0e (z0n (z1a z0d))))),?_⟩
  have sz:=z0y;cases p with
  |none =>
   simp only[patD];walk_at "vd";refine⟨by omega,?_⟩;rw[if_neg (by decide)];refine⟨by omega,?_⟩;rw[if_neg (by decide)];exact⟨by omega,q⟩
  |one s =>
   simp only[patD];walk_at "vd";refine⟨by omega,?_⟩;rw[if_neg (by decide)];refine⟨by omega,?_⟩;rw[if_neg (by decide)];exact⟨by omega,q⟩
  |row ps =>
   simp only[patD];walk_at "vd";refine⟨by omega,?_⟩;rw[if_pos (.inl trivial)];exact q
  |any ps =>
   simp only[patD];walk_at "vd";refine⟨by omega,?_⟩;rw[if_pos (.inr trivial)];exact q
  |wrap k p =>
   cases k<;>simp only[patD,Wk.str]<;>walk_at "vd"<;>refine⟨by omega,?_⟩<;>rw[if_neg (by decide)]<;>refine⟨by omega,?_⟩
   ·rw[if_pos (.inl trivial)];exact⟨by omega,q⟩
   ·rw[if_pos (.inr (.inl trivial))];exact⟨by omega,q⟩
   ·rw[if_pos (.inr (.inr trivial))];exact⟨by omega,q⟩
theorem z7c {k:Nat}{ps:List Str}{R:RD}(h:∀δ Q,¬R δ Q):FnOk P w K mg base CX0 k f fd ps (spD R) :=
 ⟨fun vs H Q E q=>by obtain⟨_,_,_,_,_,_,_,z,_⟩:=q;exact(h _ _ z).elim,fun A outer s H args us vs Q E _ _ _ _ q=>by obtain⟨_,_,_,_,_,_,_,z,_⟩:=q;exact(h _ _ z).elim⟩
theorem q2y (p:Pat):(∃s,p=.one s)\/((∀s,p≠.one s)/\∃(z:Str)(r:List D),patD p=.tup (.str z::r)/\z ≠ "one"/\(z = "row"↔∃ps,p=.row ps)):=by
 cases p with
 |one s=>exact .inl ⟨s,rfl⟩
 |none=>exact .inr ⟨(fun s e=>by cases e),"none",_,rfl,by decide,⟨fun h=>absurd h (by decide),(fun⟨_,e⟩=>by cases e)⟩⟩
 |row ps=>exact .inr ⟨(fun s e=>by cases e),"row",_,rfl,by decide,⟨fun _=>⟨ps,rfl⟩,fun _=>rfl⟩⟩
 |any ps=>exact .inr ⟨(fun s e=>by cases e),"any",_,rfl,by decide,⟨fun h=>absurd h (by decide),(fun⟨_,e⟩=>by cases e)⟩⟩
 |wrap k p=>exact .inr ⟨(fun s e=>by cases e),k.str,_,rfl,by cases k<;>decide,⟨fun h=>absurd h (by cases k<;>decide),(fun⟨_,e⟩=>by cases e)⟩⟩
def y9o (n:Nat):RD:=fun δ Q=>∃p:Pat,δ=[.fz (patD p)]/\dpP p<n/\szP p<=1000000/\Q true (.lst ((z0x p).map .str)) [.no]
theorem x1l {f1:Addr}{fd1:FuncData}(u2y:Ent K mg "signs" u5i ["pattern"] f fd)(T:Zs K mg)(u0f:Ent K mg "patterns_within" u0n ["pattern"] f1 fd1):∀n,FnOk P w K mg base CX0 (n+2) f fd ["pattern"] (spD (y9o n)):=by
 have u5n:=x6i (P:=P) (w:=w) (base:=base) u0f T;intro n;induction n with
 |zero=>exact z7c fun δ Q h=>by obtain⟨_,_,h,_⟩:=h;exact not_lt_zero _ h
 |succ n u5r =>
 refine VL.Fun.dok u2y.F u5z (fun δ Qd h=>?_) (by decide) (fun cdv A outer s H E δ Qd hr h=>?_)
 ·obtain⟨_,rfl,_⟩:=h;rfl
 ·obtain⟨p,rfl,hdp,hsz,q⟩:=h;refine⟨_,(z0b (z1k (z0r z2j z1v (z0m z0w z1d (pv 0) z0c (fun _ _=>rfl)) z0h (z0k _)) (z0e (z0n (z1a (z0a (z0m z0w z1d (pv 0) z0c (fun _ _=>rfl)) z0d)))) z0q)
   (z0b (dq 1 u5z.nd (z1a z0d))
   (z0b (z8e PassesOwn.never rfl (z3i (z1x u5n u0f (z0a (dv 0) z0d))) (dn 2 u5z.nd) (z0e (z5e (y3p x5b PySem.F.slot_list_extend PySem.F.type_list_extend x7y (pv 1) (z0a (z1x u5r u2y (z0a (dv 2) z0d)) z0d)))))
   (z0e (z0n (dm 1)))))),?_⟩
  have sz:=z0y;rcases q2y p with ⟨s,rfl⟩|⟨h1,z,r,ep,hz,_⟩
  ·simp only[patD];walk_at "vd";exact⟨by omega,q⟩
  ·rw[ep];walk_at "vd";rw[if_neg (by simpa using hz),<-ep];refine⟨by omega,p,rfl,?_⟩;walk_at "vd";refine x0j [2] (fun r δ=>∃pre suf,kids p=pre++suf/\r=z1w suf/\δ=[.fz (patD p),.ob false (.lst ((z1f pre).map .str)),.no]) ⟨[],kids p,rfl,rfl,rfl⟩ ?_ ?_
   ·rintro d r δ ⟨pre,suf,e1,e2,rfl⟩;cases suf with
    |nil=>cases e2
    |cons c suf =>
     cases e2;walk_at "vd";have hc:c∈kids p:=by rw[e1];simp
     have e5:=q8c p;rw[e1,z5m,szPs]at e5;have e6:=j0a hc;have e7:=z4b c;have e8:=z4d pre;refine⟨c,rfl,by omega,by omega,?_⟩;walk_at "vd";refine⟨by simp;omega,pre++[c],suf,by simp[e1],rfl,?_⟩;simp[z2s,z1f]
   ·rintro δ ⟨pre,suf,e1,e2,rfl⟩;cases suf with
    |cons c suf=>cases e2
    |nil =>
     walk_at "vd";rw[append_nil]at e1;rw[x0n h1,e1]at q;exact q
open Pap
def q2f:RD:=fun δ Q=>∃ns:List Int,δ=[.ob true (.lst (ns.map .int))]/\∀(x:Int)(ms:List Int),Q false (.int x) [.ob true (.lst (ms.map .int))]
theorem j8w {ns:List Int}{Q:Bool->D->List VL.Slot->Prop}{w:Beh Q}:hold q2f Q w [.ob true (.lst (ns.map .int))] = ∀(x:Int)(ms:List Int),Q false (.int x) [.ob true (.lst (ms.map .int))] :=
 propext ⟨fun⟨_,_,h⟩=>h,fun h=>⟨ns,rfl,h⟩⟩
end
open Pap
local macro_rules|`(tactic| walk_at "vd")=>do
 let u<-("reduceIte q7d q5o q4p q4s y1x x8k y1g q6z y2j x9u q5t q4d q5a q6n j7o q5c q6h q3r j5z q6t q6l z9t q4i y1i y2a z9p j3a q5f j3x x7t q6o v_if j4y v_c j3t v_mv v_op j6g j3p q5s j7l j5o v_or q5j q6q q6w j7h j4x q7e j7j j7d v_CB j5b v_mt v_gN y2f y1v y1f q6c j4e q7l x7x y2o q3z q5p v_aV v_aO z9j v_oN v_oS q5y j3w j3h q7a y1o j3n q4x v_I v_Ic y1y y1t x9y y2m y1r j3z q6g j3v j5i q4w q7o j2w q4m q6m q6p q7c j6o z9c q4b q6v q6f q7f x6l x5j z9d x9z z9q z9g j4w z4m z4l z3q z3w z3c z4k z4e z3o z3u z3e z4f z4h z3n z3l z3d z4j z4n z3v z3s z3g j2k q4t x5m j6w y1u y2d y2e z9w j2q".splitOn " ").mapM fun n=>`(Lean.Parser.Tactic.simpLemma| ↓ $(Lean.mkIdent n.toName):term);let v<-("z6p z7n j4u j7p outS z9s z6l z6n z7a List.map_cons List.map_nil List.length_cons List.length_nil Nat.reduceAdd List.replicate_succ List.replicate_zero List.cons_append List.nil_append List.append_nil List.drop_succ_cons List.drop_zero List.filter_cons List.filter_nil Option.isNone_none Option.isNone_some and_true true_and decide_eq_true_eq Bool.true_eq_false Bool.false_eq_true Bool.not_true Bool.not_false Bool.not_not Bool.not_eq_eq_eq_not decide_true decide_false if_true if_false eq_self Int.zero_add List.isEmpty_nil List.isEmpty_cons not_true_eq_false not_false_eq_true false_and and_false Option.isSome_some z6o fgt List.set_cons_zero List.set_cons_succ j8w j9o j6j inAt3 j6l q1g q9w j5g j2o j6d j7e j7 j5w".splitOn " ").mapM fun n=>`(Lean.Parser.Tactic.simpLemma| $(Lean.mkIdent n.toName):term)
 `(tactic|((try dsimp only[$((u.drop 1++v).toArray),*]);(try simp only[$((u++v).toArray),*])))
mutual
noncomputable def pD:Part->D
 |.txt s=>.str s
 |.tup n ps=>.tup [.str n,.lst (pDs ps)]
noncomputable def pDs:List Part->List D
 | []=>[]
 |p::ps=>pD p::pDs ps
end
mutual
noncomputable def okA:D->Bool
 |.str _=>true
 |.int _=>true
 |.lst xs=>decide (xs.length<=1000000)&&okAL xs
 |.tup xs=>decide (xs.length<=1000000)&&okAL xs
 |_=>false
noncomputable def okAL:List D->Bool
 | []=>true
 |d::r=>okA d&&okAL r
end
theorem x9p {xs:List D}(h:okAL xs=true){d:D}(hd:d∈xs):okA d=true:=by
 induction xs with
 |nil=>cases hd
 |cons a r ih =>
  simp only[okAL,and_eq_true]at h;rcases mem_cons.mp hd with rfl|hd
  ·exact h.1
  ·exact ih h.2 hd
theorem x8r {xs:List D}{d:D}(hd:d∈xs):dep d<=depL xs:=by
 induction xs with
 |nil=>cases hd
 |cons a r ih =>
  simp only[depL];rcases mem_cons.mp hd with rfl|hd
  ·omega
  ·have:=ih hd;omega
section
variable {P:Program}{w:World}{K:W.Frag}{mg:Str->Option Value}{base:Heap}{f:Addr}{fd:FuncData}
theorem q6r (E:Ent K mg "_law_pop" u3q ["_law_draws_here"] f fd)(T:Zs K mg):FnOk P w K mg base CX0 1 f fd ["_law_draws_here"] (spD q2f):=by
 refine VL.Fun.dok E.F y9v (fun δ Qd h=>?_) (by decide) (fun cdv A outer s H E δ Qd hr h=>?_)
 ·obtain⟨ns,rfl,_⟩:=h;rfl
 ·obtain⟨ns,rfl,q⟩:=h;have hu:=z4s hr;refine⟨_,(z0b (z1k (z5p (y1h hu) z4p (pv 0) (z1a z0d) (z0k _)) (z0e (z0n z0c)) z0q)
   (z0e (z0n (j5j j7q slot_list_pop type_list_pop x4z (pv 0))))),?_⟩
  walk_at "vd";refine⟨by decide,?_⟩;cases ns with
  |nil=>exact iteT (q 0 [])
  |cons a r =>
   have hlt:(a::r).length - 1<(a::r).length:=by simp
   refine iteF ⟨.int (a::r)[(a::r).length - 1],?_,?_⟩
   ·rw[getElem?_map,length_map,getElem?_eq_getElem hlt];rfl
   ·have:=q (a::r)[(a::r).length - 1] (a::r).dropLast;rwa [List.map_dropLast]at this
def x8w (n:Nat):RD:=fun δ Q=>∃d:D,δ=[.fz d,.fz d]/\dep d<n/\okA d=true/\Q false (.bl true) [.no,.no]
theorem q1z (u2r:Ent K mg "_law_alike" u4b ["_law_found","_law_due_here"] f fd)(T:Zs K mg):∀n,FnOk P w K mg base CX0 (n+1) f fd ["_law_found","_law_due_here"] (spD (x8w n)):=by
 intro n;induction n with
 |zero=>exact z7c fun δ Q h=>by obtain⟨_,_,h,_⟩:=h;exact not_lt_zero _ h
 |succ n u4z =>
 refine VL.Fun.dok u2r.F u5l (fun δ Qd h=>?_) (by decide) (fun cdv A outer s H E δ Qd hr h=>?_)
 ·obtain⟨_,rfl,_⟩:=h;rfl
 ·obtain⟨d,rfl,hdp,hok,q⟩:=h;refine⟨_,(z0b (z1k (z6i (z3m (y0k T.kit) (z2x (K:=K) rfl) rfl T.z_isinstance boot_isinstance (z0a (dv 1) (z0a (y8 rfl T.z_str boot_str) z0d)))) (z0e (z0n (x1r (z3m (y0k T.kit) (z2x (K:=K) rfl) rfl T.z_isinstance boot_isinstance (z0a (dv 0) (z0a (y8 rfl T.z_str boot_str) z0d))) (y8n (y5a z2j z1v (dv 0) (dv 1) (z0k _)))))) z0q)
   (z0b (z1k (z6i (z3m (y0k T.kit) (z2x (K:=K) rfl) rfl T.z_isinstance boot_isinstance (z0a (dv 1) (z0a (y8 rfl T.z_int boot_int) z0d)))) (z0e (z0n (x1r (z3m (y0k T.kit) (z2x (K:=K) rfl) rfl T.z_isinstance boot_isinstance (z0a (dv 0) (z0a (y8 rfl T.z_int boot_int) z0d))) (x1r (j6z (z3m (y0k T.kit) (z2x (K:=K) rfl) rfl T.z_isinstance boot_isinstance (z0a (dv 0) (z0a (y8 rfl T.z_bool boot_bool) z0d)))) (y8n (y5a z2j z1v (dv 0) (dv 1) (z0k _))))))) z0q)
   (z0b (z1k (z6i (z3m (y0k T.kit) (z2x (K:=K) rfl) rfl T.z_isinstance boot_isinstance (z0a (dv 1) (z0a (y8 rfl T.z_list boot_list) z0d)))) (z0e (z1k (y6x (z6i (z3m (y0k T.kit) (z2x (K:=K) rfl) rfl T.z_isinstance boot_isinstance (z0a (dv 0) (z0a (y8 rfl T.z_list boot_list) z0d))))) (z0e (z0n x0r)) z0q)) (z0e (z1k (y6x (z6i (z3m (y0k T.kit) (z2x (K:=K) rfl) rfl T.z_isinstance boot_isinstance (z0a (dv 0) (z0a (y8 rfl T.z_tuple boot_tuple) z0d))))) (z0e (z0n x0r)) z0q)))
   (z0b (z1k (z0r z8j z7h (z1i x0a z4g rfl T.z_len PySem.boot_len (pv 0)) (z1i x0a z4g rfl T.z_len PySem.boot_len (pv 1)) (z0k _)) (z0e (z0n x0r)) z0q)
   (z0b (z8e PassesOwn.never rfl (z6x rfl T.z_range (z0a (z1i x0a z4g rfl T.z_len PySem.boot_len (pv 1)) z0d)) (dn 2 u5l.nd) (z0e (z1k (y6x (z6i (z1x u4z u2r (z0a (z0m q7m q7h (pv 0) (dv 2) (fun _ _=>rfl)) (z0a (z0m q7m q7h (pv 1) (dv 2) (fun _ _=>rfl)) z0d))))) (z0e (z0n x0r)) z0q)))
   (z0e (z0n x0r))))))),?_⟩
  cases d with
  |str z =>
   walk_at "vd";exact q
  |int z =>
   walk_at "vd";exact q
  |lst xs =>
   simp only[okA,and_eq_true,decide_eq_true_eq]at hok;simp only[dep]at hdp;walk_at "vd";refine⟨by omega,by omega,x4w [2] (fun i δ=>δ=[.fz (.lst xs),.fz (.lst xs),.no]) rfl ?_ ?_⟩
   ·rintro i δ hi rfl;have hi':i<xs.length:=by omega
    have e:atI xs (i:Int)=some xs[i]:=z2w (getElem?_eq_getElem hi');have hm:xs[i]∈xs:=getElem_mem hi';have hd:=x8r hm;walk_at "vd";refine⟨_,e,_,e,_,rfl,by omega,x9p hok.2 hm,?_⟩;walk_at "vd"
   ·rintro δ rfl;walk_at "vd";exact q
  |tup xs =>
   simp only[okA,and_eq_true,decide_eq_true_eq]at hok;simp only[dep]at hdp;walk_at "vd";refine⟨by omega,by omega,x4w [2] (fun i δ=>δ=[.fz (.tup xs),.fz (.tup xs),.no]) rfl ?_ ?_⟩
   ·rintro i δ hi rfl;have hi':i<xs.length:=by omega
    have e:atI xs (i:Int)=some xs[i]:=z2w (getElem?_eq_getElem hi');have hm:xs[i]∈xs:=getElem_mem hi';have hd:=x8r hm;walk_at "vd";refine⟨_,e,_,e,_,rfl,by omega,x9p hok.2 hm,?_⟩;walk_at "vd"
   ·rintro δ rfl;walk_at "vd";exact q
  |_=>cases hok
def y9q (K:W.Frag):RD:=fun δ Q=>∃(ns:List Int)(t m:Nat),δ=[.sc K ns,.fz (.int t),.fz (.int m)]/\t<=1000/\m<=1000/\∀ms:List Int,ms.length=m->Q true (.lst (ms.map .int)) [.no,.no,.no]
theorem y6o {ns:List Int}{i:Int}(h0:0<=i)(h1:i<ns.length):∃x,atI (ns.map D.int) i=some (.int x):=by
 obtain⟨d,hd,e⟩:=x1b (xs:=ns.map D.int) h0 (by simpa using h1);obtain⟨x,_,rfl⟩:=mem_map.mp hd;exact⟨x,e⟩
theorem j3q {n:Nat}{i:Int}(h0:0<=i)(h1:i<n):∃j,ixN n i=some j/\j<n:=by
 unfold ixN;rw[if_pos h0,if_pos h1];exact⟨_,rfl,by omega⟩
theorem x1i (u1h:Ent K mg "_law_draws" u2p ["_law_script","_law_turn","_law_many"] f fd)(T:Zs K mg):FnOk P w K mg base CX0 1 f fd ["_law_script","_law_turn","_law_many"] (spD (y9q K)):=by
 refine VL.Fun.dok u1h.F u0x (fun δ Qd h=>?_) (by decide) (fun cdv A outer s H E δ Qd hr h=>?_)
 ·obtain⟨_,_,_,rfl,_⟩:=h;rfl
 ·obtain⟨ns,t,m,rfl,ht,hm,q⟩:=h;refine⟨_,(z0b (dq 3 u0x.nd (z0l z3r z2m (x9j (K:=K) rfl (pv 0) z1n (z0o z0c)) (z1a (z0a (dv 1) z0d))))
   (z0b (dq 4 u0x.nd (z1a z0d))
   (z0b (z1k (z0r z2j z1v (z0l z1p z1o (z0l z3k z2g (z0m z2f z1t (pv 3) z0c (fun _ _=>rfl)) z0c) z0c) z0c (z0k _)) (z0b (y6m (j:=5) ["_law_cell"] ["_law_script","_law_turn","_law_many","_law_cells","_law_found","_law_left","_law_k","_law_at","_law_place","_law_number"] u0x.nd rfl rfl rfl (show CScopeG (z0f u2p) ["_law_script","_law_turn","_law_many","_law_cells","_law_found","_law_left","_law_k","_law_at","_law_place","_law_number"] ["_law_cell"] _ _ from⟨rfl,by decide +kernel,by decide +kernel,by decide +kernel,by decide +kernel⟩) (z3i (dv 3)) (fun _ _ _ _ _=>(z2h (i:=0) (by decide) (show List.Nodup (["_law_cell","_law_script","_law_turn","_law_many","_law_cells","_law_found","_law_left","_law_k","_law_at","_law_place","_law_number"]:List Str) from by decide +kernel) rfl (Or.inl rfl))) (fun _ _ _ _ _=>z6u) (fun _ _ _ _ _=>(z0l z3k z2g (dv 0) z0c)))
   (z0b (z8e PassesOwn.never rfl (z6x rfl T.z_range (z0a (z0l z1c z1b (dv 1) (dv 2)) z0d)) (dn 6 u0x.nd) (z0b (dq 7 u0x.nd (z0l z1p z1o (dv 6) (z1i z4c z1e rfl T.z_len PySem.boot_len (pv 5))))
   (z0b (z1k (z0r j9n k0q (dv 6) (dv 1) (z0k _)) (z0e (z5e (y3p z3f PySem.F.slot_list_append PySem.F.type_list_append z1m (pv 4) (z0a (z0l z1p z1o (z0m z2f z1t (pv 5) (dv 7) (fun _ _=>rfl)) z0c) z0d)))) z0q)
   (z0e (j1o (pv 5) (dv 7) (z0l z3k z2g (z0m z2f z1t (pv 5) (dv 7) (fun _ _=>rfl)) z0c))))))
   (z0e (z0n (dm 4))))) z0q)
   (z0b (z8e PassesOwn.never rfl (z6x rfl T.z_range (z0a (dv 2) z0d)) (dn 6 u0x.nd) (z0b (dq 8 u0x.nd (z0l z1c z1b (z0l z6q z6m (z0l z6q z6m (z0l z1c z1b (dv 6) (dv 1)) (z0l z1c z1b (dv 6) (dv 1))) z0c) z0c))
   (z0b (dq 9 u0x.nd (z0l z1p z1o (z0l z6q z6m (z0l z1c z1b (z0l z1p z1o (z0m z2f z1t (pv 3) (z0l z1p z1o (dv 6) (z1i z4c z1e rfl T.z_len PySem.boot_len (pv 3))) (fun _ _=>rfl)) z0c) (dv 8)) z0c) z0c))
   (z0b (dq 9 u0x.nd (z0l z1p z1o (z0l z1c z1b (z0l z6q z6m (dv 9) (dv 9)) (z0l z6q z6m z0c (dv 6))) z0c))
   (z0e (z5e (y3p z3f PySem.F.slot_list_append PySem.F.type_list_append z1m (pv 4) (z0a (z0l z1p z1o (z0l z6q z6m (dv 9) (dv 9)) z0c) z0d))))))))
   (z0e (z0n (dm 4))))))),?_⟩
  have sz:=z0y;have ec:∃cs:List Int,cutD (ns.map .int) none (some 63)=cs.map .int/\cs.length<=63:=by
   refine⟨ns.take 63,?_,by rw[length_take];omega⟩;rw[show(63:Int)=((63:Nat):Int) from rfl,z3t,map_take]
  obtain⟨cs0,ec,hcl⟩:=ec;walk_at "vd";rw[ec];have e2:List.map D.int cs0++[D.int t]=(cs0++[(t:Int)]).map .int:=by simp
  rw[e2];generalize hcs:cs0++[(t:Int)]=cs;have hcs1:0<cs.length:=by rw[<-hcs];simp
  have hcs2:cs.length<=64:=by rw[<-hcs];simp;omega
  obtain⟨c0,e0⟩:=y6o (ns:=cs) (i:=0) (by decide) (by omega);refine⟨by omega,by simp;omega,by omega,_,e0,?_⟩;walk_at "vd";refine⟨⟨by decide,by decide⟩,by decide,ite2 (fun _=>?_) fun _=>?_⟩
  ·refine comp1 (fun _ y=>∃x:Int,y=.int x) (by simp;omega) (fun d hd P hP=>?_) fun ys hys=>?_
   ·obtain⟨x,_,rfl⟩:=mem_map.mp hd;walk_at "vd";exact⟨⟨by decide,by decide⟩,hP _ ⟨_,rfl⟩⟩
   ·obtain⟨ls,rfl,hls⟩:∃ls:List Int,ys=ls.map .int/\ls.length=cs.length:=by
     have:∀{ds ys:List D},All2 (fun _ y=>∃x:Int,y=.int x) ds ys->∃ls:List Int,ys=ls.map .int/\ls.length=ds.length:=by
      intro ds ys h;induction h with
      |nil=>exact⟨[],rfl,rfl⟩
      |cons g _ ih =>
       obtain⟨x,rfl⟩:=g;obtain⟨ls,rfl,hl⟩:=ih;exact⟨x::ls,rfl,by simp[hl]⟩
     obtain⟨ls,h1,h2⟩:=this hys;exact⟨ls,h1,by simpa using h2⟩
    walk_at "vd";refine⟨by omega,by omega,x4w [6,7] (fun i δ=>∃(fs ls:List Int),fs.length=i - t/\ls.length=cs.length/\δ=[.sc K ns,.fz (.int t),.fz (.int m),.fz (.lst (cs.map .int)),.ob false (.lst (fs.map .int)),.ob false (.lst (ls.map .int)),.no,.no,.no,.no]) ⟨[],ls,by simp,hls,rfl⟩ ?_ ?_⟩
    ·rintro i δ hi ⟨fs,ls,hf,hl,rfl⟩;walk_at "vd";have hL:((List.map D.int ls).length:Int)=cs.length:=by simp[hl]
     rw[hL];have h0:0<(cs.length:Int):=by omega
     have a1:=z3y (a:=(i:Int)) h0;have a2:=z3z (a:=(i:Int)) h0;generalize (i:Int) % (cs.length:Int)=k at a1 a2 ⊢;obtain⟨x,ex⟩:=y6o (ns:=ls) a1 (by omega);obtain⟨j,ej,hj⟩:=j3q (n:=(List.map D.int ls).length) a1 (by omega);have es:∀v:Int,(List.map D.int ls).set j (.int v)=(ls.set j v).map .int:=fun v=>by simp
     refine⟨h0,ite2 (fun hge=>⟨_,ex,?_⟩) fun hlt=>⟨_,ex,?_⟩⟩
     ·walk_at "vd";refine⟨by decide,by simp;omega,_,ex,?_⟩;walk_at "vd";refine⟨⟨by decide,by decide⟩,j,ej,fs++[x % 2147483587],ls.set j (x / 2147483587),by simp;omega,by simp[hl],?_⟩;rw[es];simp
     ·walk_at "vd";refine⟨⟨by decide,by decide⟩,j,ej,fs,ls.set j (x / 2147483587),by omega,by simp[hl],?_⟩;rw[es]
    ·rintro δ ⟨fs,ls,hf,hl,rfl⟩;walk_at "vd";exact q fs (by omega)
  ·refine⟨by omega,by omega,x4w [6,8,9] (fun i δ=>∃fs:List Int,fs.length=i/\δ=[.sc K ns,.fz (.int t),.fz (.int m),.ob false (.lst (cs.map .int)),.ob false (.lst (fs.map .int)),.no,.no,.no,.no,.no]) ⟨[],rfl,rfl⟩ ?_ ?_⟩
   ·rintro i δ hi ⟨fs,hf,rfl⟩;walk_at "vd";have hL:((List.map D.int cs).length:Int)=cs.length:=by simp
    rw[hL];have h0:0<(cs.length:Int):=by omega
    obtain⟨x,ex⟩:=y6o (ns:=cs) (z3y (a:=(i:Int)) h0) (z3z h0);refine⟨.inl ⟨by omega,by omega⟩,.inr ⟨by decide,by decide⟩,h0,_,ex,?_⟩;walk_at "vd";have b1:=z3y (a:=(x % 2147483647+(((i:Int)+t) * (i+t) * 7919+104729)) * 48271) (b:=2147483647) (by decide);have b2:=z3z (a:=(x % 2147483647+(((i:Int)+t) * (i+t) * 7919+104729)) * 48271) (b:=2147483647) (by decide);generalize (x % 2147483647+(((i:Int)+t) * (i+t) * 7919+104729)) * 48271 % 2147483647=y at b1 b2 ⊢;have b3:=z3y (a:=y * y+69621 * (i:Int)) (b:=2147483629) (by decide);have b4:=z3z (a:=y * y+69621 * (i:Int)) (b:=2147483629) (by decide);generalize (y * y+69621 * (i:Int)) % 2147483629=z at b3 b4 ⊢;refine⟨by decide,.inr ⟨by decide,by decide⟩,by decide,.inl ⟨by omega,by omega⟩,.inl ⟨by decide,by decide⟩,by decide,.inl ⟨by omega,by omega⟩,by decide,by simp;omega,fs++[z * z % 2147483587],by simp;omega,by simp⟩
   ·rintro δ ⟨fs,hf,rfl⟩;walk_at "vd";exact q fs (by omega)
def q5v (K:W.Frag):RD:=fun δ Q=>∃(ns:List Int)(k:Nat),δ=[.sc K ns,.fz (.int k)]/\Q false (.int (ns.getD k 0)) [.no,.no]
theorem j0w (u2b:Ent K mg "_law_cell_at" u3h ["_law_script","_law_k"] f fd)(T:Zs K mg):FnOk P w K mg base CX0 1 f fd ["_law_script","_law_k"] (spD (q5v K)):=by
 refine VL.Fun.dok u2b.F y3u (fun δ Qd h=>?_) (by decide) (fun cdv A outer s H E δ Qd hr h=>?_)
 ·obtain⟨_,_,rfl,_⟩:=h;rfl
 ·obtain⟨ns,k,rfl,q⟩:=h;refine⟨_,(z0b (z1k (z0r y7o y5x (dv 1) (q8e (K:=K) rfl rfl T.z_len (pv 0)) (z0k _)) (z0e (z0n (j6y (K:=K) rfl (pv 0) (dv 1)))) z0q)
   (z0e (z0n z0c))),?_⟩
  walk_at "vd";by_cases hk:(k:Int)<ns.length
  ·rw[if_pos hk];have hk':k<ns.length:=by omega
   refine⟨ns[k],z2w (by rw[getElem?_eq_getElem hk']),?_⟩;rw[getD_eq_getElem?_getD,getElem?_eq_getElem hk']at q;exact q
  ·rw[if_neg hk];rw[getD_eq_getElem?_getD,List.getElem?_eq_none (by omega)]at q;exact q
noncomputable def abc:List Nat:=("abcdefghijklmnopqrstuvwxyz":Str).cps.toList
theorem j9s:∀c∈abc,97<=c/\c<=122:=by decide +kernel
theorem y3w:abc.length=26:=by decide +kernel
theorem j0q:∀i,i<26->∀j,j<26->abc[i]? = abc[j]?->i=j:=by decide +kernel
noncomputable def letF (i:Int):Nat:=abc.getD (i % 26).toNat 0
theorem x8v (i:Int):atI abc (i % 26)=some (letF i):=by
 have h1:=z3y (a:=i) (b:=26) (by decide);have h2:=z3z (a:=i) (b:=26) (by decide);have e:(i % 26)=(((i % 26).toNat:Nat):Int):=by omega
 have hl:(i % 26).toNat<abc.length:=by rw[y3w];omega
 rw[e,z2w (getElem?_eq_getElem hl)];unfold letF;rw[getD_eq_getElem?_getD,getElem?_eq_getElem hl];rfl
theorem y9n (i:Int):97<=letF i/\letF i<=122:=by
 have h1:=z3y (a:=i) (b:=26) (by decide);have h2:=z3z (a:=i) (b:=26) (by decide);have hl:(i % 26).toNat<abc.length:=by rw[y3w];omega
 unfold letF;rw[getD_eq_getElem?_getD,getElem?_eq_getElem hl];exact j9s _ (getElem_mem hl)
theorem q2w {i j:Int}(h:letF i=letF j):i % 26=j % 26:=by
 have a1:=z3y (a:=i) (b:=26) (by decide);have a2:=z3z (a:=i) (b:=26) (by decide);have b1:=z3y (a:=j) (b:=26) (by decide);have b2:=z3z (a:=j) (b:=26) (by decide);have hl:(i % 26).toNat<abc.length:=by rw[y3w];omega
 have hm:(j % 26).toNat<abc.length:=by rw[y3w];omega
 have:=j0q (i % 26).toNat (by omega) (j % 26).toNat (by omega) (by
  unfold letF at h;rw[getD_eq_getElem?_getD,getD_eq_getElem?_getD,getElem?_eq_getElem hl,getElem?_eq_getElem hm]at h;rw[getElem?_eq_getElem hl,getElem?_eq_getElem hm];exact congrArg some h)
 omega
noncomputable def z5i (n:Int):Str:=join "" ((range (n % 5).toNat).map fun(k:Nat)=>(⟨#[letF (n / 150+(k:Int) * k)]⟩:Str))
noncomputable def atF (n:Int):Int:=n / 5 % ((z5i n).length+1)
noncomputable def z8f (k n:Int):Str:=Txt.slice (z5i n) none (some (atF n))++⟨#[letF (k+n)]⟩++Txt.slice (z5i n) (some (atF n)) none
theorem z9u (k n:Int):(z8f k n).cps.toList=(Txt.slice (z5i n) none (some (atF n))).cps.toList++letF (k+n)::(Txt.slice (z5i n) (some (atF n)) none).cps.toList:=by
 show(((Txt.slice (z5i n) none (some (atF n))).cps++#[letF (k+n)])++(Txt.slice (z5i n) (some (atF n)) none).cps).toList=_;simp
theorem x8d {i j n:Int}(h:z8f i n=z8f j n):(i+n) % 26=(j+n) % 26:=by
 have e:=congrArg (fun z:Str=>z.cps.toList) h;simp only[z9u]at e;have e2:=List.append_cancel_left e;exact q2w (List.cons.inj e2).1
theorem q2q (k n:Int):z8f k n ≠ "#":=fun h=>by
 have e:=congrArg (fun z:Str=>z.cps.toList) h;simp only[z9u]at e;have m:letF (k+n)∈("#":Str).cps.toList:=by rw[<-e];simp
 have:=y9n (k+n);have e3:("#":Str).cps.toList=[35]:=by decide +kernel
 rw[e3]at m;simp at m;omega
theorem x2v (n:Nat):rngD 0 n=(range n).map fun(k:Nat)=>D.int (k:Int):=by simp[rngD]
theorem q2b (g:Nat->Nat)(l:List Nat):((l.map fun(k:Nat)=>(⟨#[g k]⟩:Str)).map (·.length)).sum=l.length:=by
 induction l with
 |nil=>rfl
 |cons a r ih=>simp only[map_cons,sum_cons,ih,length_cons];show 1+_=_;omega
def x9c:RD:=fun δ Q=>∃k n:Int,δ=[.fz (.int k),.fz (.int n)]/\Q false (.str (z8f k n)) [.no,.no]
theorem Str.len_app (a b:Str):(a++b).length=a.length+b.length:=by
 show(a.cps++b.cps).size=_;rw[Array.size_append];rfl
theorem q8g (E:Ent K mg "_law_name" u3c ["_law_k","_law_draw"] f fd)(T:Zs K mg):FnOk P w K mg base CX0 1 f fd ["_law_k","_law_draw"] (spD x9c):=by
 refine VL.Fun.dok E.F u4c (fun δ Qd h=>?_) (by decide) (fun cdv A outer s H E δ Qd hr h=>?_)
 ·obtain⟨_,_,rfl,_⟩:=h;rfl
 ·obtain⟨kk,n,rfl,q⟩:=h;refine⟨_,(z0b (x7c (i:=2) u4c.nd rfl (Or.inr rfl) z0h)
   (z0b (dq 3 u4c.nd (y2h z0h (z6d ["_law_j"] ["_law_k","_law_draw","_law_letters","_law_base","_law_at"] rfl (show CScopeG (z0f u3c) ["_law_k","_law_draw","_law_letters","_law_base","_law_at"] ["_law_j"] _ _ from⟨rfl,by decide +kernel,by decide +kernel,by decide +kernel,by decide +kernel⟩) (z6x rfl T.z_range (z0a (z0l z1p z1o (dv 1) z0c) z0d)) (fun _ _ _ _ _=>(z2h (i:=0) (by decide) (show List.Nodup (["_law_j","_law_k","_law_draw","_law_letters","_law_base","_law_at"]:List Str) from by decide +kernel) rfl (Or.inl rfl))) (fun _ _ _ _ _=>z6u) (fun _ _ _ _ _=>(z0m z9r z8c (pv 3) (z0l z1p z1o (z0l z1c z1b (z0l z3k z2g (dv 2) z0c) (z0l z6q z6m (dv 0) (dv 0))) z0c) (fun _ _=>rfl))))))
   (z0b (dq 4 u4c.nd (z0l z1p z1o (z0l z3k z2g (dv 1) z0c) (z0l z1c z1b (z1i z6r z2e rfl T.z_len PySem.boot_len (pv 3)) z0c)))
   (z0e (z0n (z0l z2l z1h (z0l z2l z1h (z0z (dv 3) z1n (z0o (dv 4))) (z0m z9r z8c (pv 2) (z0l z1p z1o (z0l z1c z1b (dv 0) (dv 1)) z0c) (fun _ _=>rfl))) (z0z (dv 3) (z0o (dv 4)) z1n))))))),?_⟩
  have hLL:("abcdefghijklmnopqrstuvwxyz":Str).cps.toList=abc:=rfl;have hll:("abcdefghijklmnopqrstuvwxyz":Str).length=26:=y3w;generalize ("abcdefghijklmnopqrstuvwxyz":Str)=letters at hLL hll ⊢;have sz:=z0y;have m1:=z3y (a:=n) (b:=5) (by decide);have m2:=z3z (a:=n) (b:=5) (by decide);walk_at "vd";rw[x2v];refine⟨by decide,by omega,by omega,y6d (fun k:Nat=>D.int (k:Int)) (fun k:Nat=>.str (⟨#[letF (n / 150+(k:Int) * k)]⟩:Str)) (range (n % 5).toNat) (by simp;omega) (fun k hk P hP=>?_) ?_⟩
  ·have hk':=mem_range.mp hk;walk_at "vd";refine⟨⟨by decide,by decide⟩,.inl ⟨by omega,by omega⟩,by decide,by omega,_,by rw[hLL];exact x8v _,hP⟩
  ·refine⟨(range (n % 5).toNat).map fun(k:Nat)=>(⟨#[letF (n / 150+(k:Int) * k)]⟩:Str),by simp,joinOk_of_weight ?_ (by decide),?_⟩
   ·have:=q2b (fun k=>letF (n / 150+(k:Int) * k)) (range (n % 5).toNat);rw[this];simp;omega
   ·have hb:(z5i n).length<=10:=by
     have:=W.KT.join_ones ((range (n % 5).toNat).map fun(k:Nat)=>(⟨#[letF (n / 150+(k:Int) * k)]⟩:Str)) (fun t ht=>by obtain⟨k,_,rfl⟩:=mem_map.mp ht;rfl);have e:(z5i n).length=_:=this;simp at e;omega
    show _;rw[show join (Str.ofString "") ((range (n % 5).toNat).map fun(k:Nat)=>(⟨#[letF (n / 150+(k:Int) * k)]⟩:Str))=z5i n from rfl];walk_at "vd";have g1:=slice_le (z5i n) none (some (atF n));have g2:=slice_le (z5i n) (some (atF n)) none;have l1:(⟨#[letF (kk+n)]⟩:Str).length=1:=rfl;have l2:=Str.len_app (Txt.slice (z5i n) none (some (atF n))) ⟨#[letF (kk+n)]⟩;have l3:=Str.len_app (Txt.slice (z5i n) none (some (atF n))++⟨#[letF (kk+n)]⟩) (Txt.slice (z5i n) (some (atF n)) none);rw[show n / 5 % (((z5i n).length:Int)+1)=atF n from rfl];exact⟨⟨by decide,by decide⟩,by omega,by omega,by omega,by decide,by omega,_,by rw[hLL];exact x8v _,by omega,by omega,by omega,q⟩
mutual
noncomputable def lenB:Pat->Nat
 |.none=>0
 |.one _=>1
 |.row ps=>z4o ps
 |.any ps=>z4o ps
 |.wrap _ p=>3 * lenB p
noncomputable def z4o:List Pat->Nat
 | []=>0
 |p::ps=>lenB p+z4o ps
end
theorem y7m (ps qs:List Pat):z1w (ps++qs)=z1w ps++z1w qs:=by simp[z2a]
theorem z6t:∀ps qs:List Pat,z4o (ps++qs)=z4o ps+z4o qs
 | [],qs=>by simp[z4o]
 |p::ps,qs=>by simp only[cons_append,z4o,z6t ps qs];omega
theorem z9z:∀ps qs:List Pat,dpPs (ps++qs)=max (dpPs ps) (dpPs qs)
 | [],qs=>by simp[dpPs]
 |p::ps,qs=>by simp only[cons_append,dpPs,z9z ps qs];exact(Nat.max_assoc _ _ _).symm
theorem j0s (xs:List D){a b:Nat}(h:a+b<=xs.length):cutD xs (some (a:Int)) (some ((a:Int)+b))=(xs.drop a).take b:=by
 have e:(a:Int)+(b:Int)=((a+b:Nat):Int):=by omega
 rw[e];unfold cutD;rw[HT.sIx_nat,HT.sIx_nat,min_eq_left h,min_eq_left (by omega)];congr 1;omega
mutual
noncomputable def okP:Pat->Bool
 |.none=>true
 |.one _=>true
 |.row ps=>decide (2<=ps.length)&&y9 ps
 |.any ps=>decide (2<=ps.length)&&y9 ps
 |.wrap _ p=>okP p
noncomputable def y9:List Pat->Bool
 | []=>true
 |p::ps=>okP p&&y9 ps
end
theorem y0a:∀ps qs:List Pat,y9 (ps++qs)=(y9 ps&&y9 qs)
 | [],qs=>by simp[y9]
 |p::ps,qs=>by simp only[cons_append,y9,y0a ps qs,Bool.and_assoc]
structure WrapOk (p q:Pat):Prop where
 sg:z0x q=z0x p
 sz:szP q<=szP p+2
 dp:dpP q<=dpP p+1
 ln:lenB q<=3 * lenB p
 ok:okP p=true->okP q=true
def y1n:RD:=fun δ Q=>∃(p:Pat)(n:Int),δ=[.fz (patD p),.fz (.int n)]/\∀q:Pat,WrapOk p q->Q false (patD q) [.no,.no]
theorem x3n (u0p:Ent K mg "_law_wrapped" u1z ["_law_pattern_here","_law_number"] f fd)(T:Zs K mg):FnOk P w K mg base CX0 1 f fd ["_law_pattern_here","_law_number"] (spD y1n):=by
 refine VL.Fun.dok u0p.F y1z (fun δ Qd h=>?_) (by decide) (fun cdv A outer s H E δ Qd hr h=>?_)
 ·obtain⟨_,_,rfl,_⟩:=h;rfl
 ·obtain⟨p,n,rfl,q⟩:=h;refine⟨_,(z0b (z1k (z0r z2j z1v (z0l z1p z1o (dv 1) z0c) z0c (z0k _)) (z0e (z0n (z1j (z0a z0h (z0a (z1a (z0a (dv 0) (z0a (z1j (z0a z0h z0d)) z0d))) z0d))))) z0q)
   (z0b (z1k (z0r z2j z1v (z0l z1p z1o (dv 1) z0c) z0c (z0k _)) (z0e (z0n (z1j (z0a z0h (z0a (z1a (z0a (z1j (z0a z0h z0d)) (z0a (dv 0) z0d))) z0d))))) z0q)
   (z0b (z1k (z0r y7o y5x (z0l z1p z1o (dv 1) z0c) z0c (z0k _)) (z0e (z0n (z1j (z0a (x0s z2f z1t (z1a (z0a z0h (z0a z0h (z0a z0h z0d)))) (z0l q4c q6s (z0l z1p z1o (dv 1) z0c) z0c) (fun _ _=>rfl)) (z0a (dv 0) z0d))))) z0q)
   (z0e (z0n (dm 0)))))),?_⟩
  have sz:=z0y;have m1:=z3y (a:=n) (b:=9) (by decide);have m2:=z3z (a:=n) (b:=9) (by decide);walk_at "vd";refine⟨by decide,ite2 (fun h0=>?_) fun h0=>?_⟩
  ·exact⟨by omega,by omega,by omega,q (.any [p,.none]) ⟨by simp[z0x,z1f],by simp[szP,szPs];omega,by simp[dpP,dpPs],by simp[lenB,z4o];omega,fun h=>by simp[okP,y9,h]⟩⟩
  ·refine⟨by decide,ite2 (fun h1=>?_) fun h1=>?_⟩
   ·exact⟨by omega,by omega,by omega,q (.row [.none,p]) ⟨by simp[z0x,z1f],by simp[szP,szPs];omega,by simp[dpP,dpPs],by simp[lenB,z4o];omega,fun h=>by simp[okP,y9,h]⟩⟩
   ·refine⟨by decide,ite2 (fun h2=>?_) fun h2=>?_⟩
    ·have e:n % 9=2\/n % 9=3\/n % 9=4:=by omega
     have ok:∀k,WrapOk p (.wrap k p):=fun k=>⟨rfl,by simp only[szP];omega,by simp only[dpP];omega,by simp only[lenB];omega,fun h=>h⟩;rcases e with e|e|e<;>rw[e]
     ·exact⟨by omega,by decide,_,atI0,by omega,q _ (ok .maybe)⟩
     ·exact⟨by omega,by decide,_,atI1,by omega,q _ (ok .many)⟩
     ·exact⟨by omega,by decide,_,atI2,by omega,q _ (ok .some)⟩
    ·exact q p ⟨rfl,by omega,by omega,by omega,fun h=>h⟩
def y7t:RD:=fun δ Q=>∃(sg:List Str)(ns:List Int),δ=[.fz (.lst (sg.map .str)),.ob true (.lst (ns.map .int))]/\sg.length<=9 /\
 ∀(p:Pat)(ms:List Int),z0x p=sg->szP p<=50->dpP p<=20->lenB p<=200000->okP p=true->Q false (patD p) [.no,.ob true (.lst (ms.map .int))]
structure RowOk (sg:List Str)(row:List Pat):Prop where
 si:z1f row=sg
 sz:szPs row+3 * row.length<=4 * sg.length
 dp:dpPs row+2 * row.length<=2 * sg.length
 ln:z4o row * 3 ^ row.length<=sg.length * 3 ^ sg.length
 ok:y9 row=true
theorem x1q:∀sg:List Str,y9 (sg.map .one)=true
 | []=>rfl
 |s::r=>by simp[y9,okP,x1q r]
theorem x9o:∀sg:List Str,z1f (sg.map .one)=sg/\szPs (sg.map .one)=sg.length/\dpPs (sg.map .one)=0/\z4o (sg.map .one)=sg.length
 | []=>⟨rfl,rfl,rfl,rfl⟩
 |s::r=>by
  obtain⟨h1,h2,h3,h4⟩:=x9o r;simp only[map_cons,z1f,z0x,szPs,szP,dpPs,dpP,z4o,lenB,h1,h2,h3,h4,length_cons];exact⟨rfl,by omega,by omega,by omega⟩
theorem RowOk.start (sg:List Str):RowOk sg (sg.map .one):=by
 obtain⟨h1,h2,h3,h4⟩:=x9o sg;refine⟨h1,?_,?_,?_,x1q sg⟩
 ·rw[h2,length_map];omega
 ·rw[h3,length_map];omega
 ·rw[h4,length_map];exact le_refl _
theorem RowOk.step {sg:List Str}{row:List Pat}(h:RowOk sg row){a m:Nat}(hm:2<=m)(hl:a+m<=row.length){k:List Pat->Pat}(hk:k=.row\/k=.any){q:Pat}(hq:WrapOk (k ((row.drop a).take m)) q) :
  RowOk sg (row.take a++[q]++row.drop (a+m)):=by
 have e:row=row.take a++((row.drop a).take m++row.drop (a+m)):=by
  rw[<-drop_drop,take_append_drop,take_append_drop]
 have e1:z1f row=z1f (row.take a)++(z1f ((row.drop a).take m)++z1f (row.drop (a+m))):=by rw[<-z2s,<-z2s,<-e]
 have e2:szPs row=szPs (row.take a)+(szPs ((row.drop a).take m)+szPs (row.drop (a+m))):=by rw[<-z5m,<-z5m,<-e]
 have e3:dpPs row=max (dpPs (row.take a)) (max (dpPs ((row.drop a).take m)) (dpPs (row.drop (a+m)))):=by rw[<-z9z,<-z9z,<-e]
 have e4:z4o row=z4o (row.take a)+(z4o ((row.drop a).take m)+z4o (row.drop (a+m))):=by rw[<-z6t,<-z6t,<-e]
 have k1:z0x (k ((row.drop a).take m))=z1f ((row.drop a).take m):=by rcases hk with rfl|rfl<;>rfl
 have k2:szP (k ((row.drop a).take m))=1+szPs ((row.drop a).take m):=by rcases hk with rfl|rfl<;>rfl
 have k3:dpP (k ((row.drop a).take m))=dpPs ((row.drop a).take m)+1:=by rcases hk with rfl|rfl<;>rfl
 have k4:lenB (k ((row.drop a).take m))=z4o ((row.drop a).take m):=by rcases hk with rfl|rfl<;>rfl
 have len:(row.take a++[q]++row.drop (a+m)).length=row.length - m+1:=by simp;omega
 obtain⟨s1,s2,s3,s4,s5⟩:=hq;refine⟨?_,?_,?_,?_,?_⟩
 ·rw[z2s,z2s];simp only[z1f,append_nil];rw[s1,k1,<-h.si,e1,append_assoc]
 ·rw[len,z5m,z5m];simp only[szPs];have:=h.sz;clear e3 e4 k3 k4 s3 s4;omega
 ·rw[len,z9z,z9z];simp only[dpPs];have:=h.dp;clear e2 e4 k2 k4 s2 s4;omega
 ·rw[len,z6t,z6t];simp only[z4o];have h1:z4o (row.take a)+(lenB q+0)+z4o (row.drop (a+m))<=3 * z4o row:=by clear e2 e3 k2 k3 s2 s3 len;omega
  have h2:3 ^ (row.length - m+1)<=3 ^ (row.length - 1):=Nat.pow_le_pow_right (by decide) (by omega);have h3:3 * 3 ^ (row.length - 1)=3 ^ row.length:=by
   rw[Nat.mul_comm,<-Nat.pow_succ];congr 1;omega
  calc _<=(3 * z4o row) * 3 ^ (row.length - 1):=Nat.mul_le_mul h1 h2
   _=z4o row * (3 * 3 ^ (row.length - 1)):=by rw[Nat.mul_comm 3,Nat.mul_assoc]
   _=z4o row * 3 ^ row.length:=by rw[h3]
   _<=_:=h.ln
 ·have h0:=h.ok;rw[e,y0a,y0a,and_eq_true,and_eq_true]at h0;have h1:okP (k ((row.drop a).take m))=true:=by
   have l2:2<=((row.drop a).take m).length:=by rw[length_take,length_drop];omega
   have l3:(decide (2<=((row.drop a).take m).length)&&y9 ((row.drop a).take m))=true:=by rw[decide_eq_true l2,h0.2.1];rfl
   rcases hk with rfl|rfl
   ·exact l3
   ·exact l3
  rw[y0a,y0a];simp[y9,h0.1,h0.2.2,s5 h1]
theorem pw9:∀n:Nat,n<=9->n * 3 ^ n<=177147:=by decide
theorem x3f {f1 f2:Addr}{fd1 fd2:FuncData}(u1m:Ent K mg "_law_pattern" u2a ["_law_some","_law_draws_here"] f fd)(T:Zs K mg)(u1f:Ent K mg "_law_pop" u3q ["_law_draws_here"] f1 fd1)(u0p:Ent K mg "_law_wrapped" u1z ["_law_pattern_here","_law_number"] f2 fd2):FnOk P w K mg base CX0 2 f fd ["_law_some","_law_draws_here"] (spD y7t):=by
 have u3r:=q6r (P:=P) (w:=w) (base:=base) u1f T;have u5f:=x3n (P:=P) (w:=w) (base:=base) u0p T;refine VL.Fun.dok u1m.F u1e (fun δ Qd h=>?_) (by decide) (fun cdv A outer s H E δ Qd hr h=>?_)
 ·obtain⟨_,_,rfl,_⟩:=h;rfl
 ·obtain⟨sg,ns,rfl,hl,q⟩:=h;have hu:=z4s hr;refine⟨_,(z0b (y6m (j:=2) ["_law_sign"] ["_law_some","_law_draws_here","_law_row","_law_number","_law_many","_law_at","_law_made"] u1e.nd rfl rfl rfl (show CScopeG (z0f u2a) ["_law_some","_law_draws_here","_law_row","_law_number","_law_many","_law_at","_law_made"] ["_law_sign"] _ _ from⟨rfl,by decide +kernel,by decide +kernel,by decide +kernel,by decide +kernel⟩) (z3i (dv 0)) (fun _ _ _ _ _=>(z2h (i:=0) (by decide) (show List.Nodup (["_law_sign","_law_some","_law_draws_here","_law_row","_law_number","_law_many","_law_at","_law_made"]:List Str) from by decide +kernel) rfl (Or.inl rfl))) (fun _ _ _ _ _=>z6u) (fun _ _ _ _ _=>(z1j (z0a z0h (z0a (dv 0) z0d)))))
   (z0b (z6b PassesOwn.never (z0r q1t q0u (z1i z4c z1e rfl T.z_len PySem.boot_len (pv 2)) z0c (z0k _)) (z0b (dq 3 u1e.nd (x3l (i:=1) u3r u1f (da_o (pv 1) y5k)))
   (z0b (dq 4 u1e.nd (z0l z1c z1b z0c (z0l z6q z6m (z0l z1p z1o (dv 3) z0c) (z7m x9i y2c rfl T.z_int boot_int (z0a (y5a q1t q0u (z1i z4c z1e rfl T.z_len PySem.boot_len (pv 2)) z0c (z0k _)) z0d)))))
   (z0b (dq 5 u1e.nd (z0l z1p z1o (z0l z3k z2g (dv 3) z0c) (z0l z1c z1b (z0l q4c q6s (z1i z4c z1e rfl T.z_len PySem.boot_len (pv 2)) (dv 4)) z0c)))
   (z0b (dq 6 u1e.nd (z1j (z0a (x0s z2f z1t (z1a (z0a z0h (z0a z0h z0d))) (z0l z1p z1o (z0l z3k z2g (dv 3) z0c) z0c) (fun _ _=>rfl)) (z0a (z1l (pv 2) (z0o (dv 5)) (z0o (z0l z1c z1b (dv 5) (dv 4)))) z0d))))
   (z0e (dq 2 u1e.nd (z0l z3r z2m (z0l z3r z2m (z1l (pv 2) z1n (z0o (dv 5))) (z1a (z0a (z1x u5f u0p (z0a (dv 6) (z0a (z0l z3k z2g (dv 3) z0c) z0d))) z0d))) (z1l (pv 2) (z0o (z0l z1c z1b (dv 5) (dv 4))) z1n)))))))))
   (z0b (z1k (z5p (y1h hu) z4p (pv 2) (z1a z0d) (z0k _)) (z0e (z5e (y3p z3f PySem.F.slot_list_append PySem.F.type_list_append z1m (pv 2) (z0a (z1j (z0a z0h z0d)) z0d)))) z0q)
   (z0e (z0n (z1x u5f u0p (z0a (z0m z2f z1t (pv 2) z0c (fun _ _=>rfl)) (z0a (x3l (i:=1) u3r u1f (da_o (pv 1) y5k)) z0d)))))))),?_⟩
  have sz:=z0y;walk_at "vd";refine y6d D.str (fun s=>patD (.one s)) sg (by omega) (fun s hs P hP=>?_) ?_
  ·walk_at "vd";exact⟨by omega,hP⟩
  ·walk_at "vd";refine⟨[3,4,5,6],fun δ=>∃(row:List Pat)(ms:List Int),RowOk sg row/\δ=[.fz (.lst (sg.map .str)),.ob true (.lst (ms.map .int)),.ob false (.lst (z1w row)),.no,.no,.no,.no],fun δ=>match δ with | [_,_,.ob _ (.lst xs),_,_,_,_]=>xs.length|_=>0,⟨sg.map .one,ns,.start sg,by rw[z2a,map_map];rfl⟩,?_⟩;rintro δ ⟨row,ms,ok,rfl⟩;have hrl:=y3r row;have hrs:=y0z row;have ksz:=ok.sz;have kdp:=ok.dp;have kln:=ok.ln;walk_at "vd";refine ite2 (fun h1 x ms=>?_) fun h1=>?_
   ·have x1:=z3y (a:=x) (b:=2) (by decide);have x2:=z3z (a:=x) (b:=2) (by decide);obtain⟨m,em,hm2,hml⟩:∃m:Nat,(2+x % 2 * if 2<((z1w row).length:Int) then 1 else 0)=(m:Int)/\2<=m/\m<=row.length:=by
     split
     ·exact⟨(2+x % 2 * 1).toNat,by omega,by omega,by omega⟩
     ·exact⟨2,by omega,by omega,by omega⟩
    have cm:CMul (x % 2) (if 2<((z1w row).length:Int) then 1 else 0):=.inl ⟨by omega,by omega⟩;rw[em];have hp:(0:Int)<((z1w row).length:Int) - m+1:=by omega
    have y1:=z3y (a:=x / 2) hp;have y2:=z3z (a:=x / 2) hp;obtain⟨a,ea,hal⟩:∃a:Nat,x / 2 % (((z1w row).length:Int) - m+1)=(a:Int)/\a+m<=row.length:=⟨(x / 2 % (((z1w row).length:Int) - m+1)).toNat,by omega,by omega⟩;rw[ea,j0s _ (by omega),z3t];have z1:=z3y (a:=x / 32) (b:=2) (by decide);have z2:=z3z (a:=x / 32) (b:=2) (by decide);have fin:∀(nm:Str)(k:List Pat->Pat),(k=.row\/k=.any)->patD (k ((row.drop a).take m))=.tup [.str nm,.lst (z1w ((row.drop a).take m))]->hold y1n
      (fun b d_1 x_1=>1<=sizeLine/\fCat (D.lst ((z1w row).take a)) (D.lst [d_1]) fun b d_2=>q1y 2 (doS (dOp (fI fun i j=>D.int (i+j)) (dVar 5) (dVar 4))) doN
       [Slot.fz (D.lst (List.map D.str sg)),Slot.ob true (D.lst (List.map D.int ms)),Slot.ob false (D.lst (z1w row)),Slot.fz (D.int x),Slot.fz (D.int m),Slot.fz (D.int a),Slot.fz (D.tup [.str nm,D.lst (((z1w row).drop a).take m)])]
       fun x y δ2=>fCat d_2 y fun b d=>setW 2 (rsl b d) δ2 fun δ2 =>
        (∃row ms,RowOk sg row/\(((δ2.set 3 Slot.no).set 4 Slot.no).set 5 Slot.no).set 6 Slot.no=[Slot.fz (D.lst (List.map D.str sg)),Slot.ob true (D.lst (List.map D.int ms)),Slot.ob false (D.lst (z1w row)),Slot.no,Slot.no,Slot.no,Slot.no]) /\
         (match (((δ2.set 3 Slot.no).set 4 Slot.no).set 5 Slot.no).set 6 Slot.no with
          | [_,_,Slot.ob _ (D.lst xs),_,_,_,_]=>xs.length
          |_=>0)<(z1w row).length) Beh.mk [Slot.fz (D.tup [.str nm,D.lst (((z1w row).drop a).take m)]),Slot.fz (D.int (x / 64))]:=by
     intro nm k hk ek;have ed:((z1w row).drop a).take m=z1w ((row.drop a).take m):=by rw[z2a,z2a,map_take,map_drop]
     rw[ed,<-ek];refine⟨_,x / 64,rfl,fun q hq=>?_⟩;walk_at "vd";rw[show((a:Int)+m)=((a+m:Nat):Int) by omega,z4i];have tl:(take a (z1w row)).length=a:=by rw[length_take];omega
     have tl2:(take a (z1w row)++[patD q]++drop (a+m) (z1w row)).length=a+1+(row.length - (a+m)):=by rw[length_append,length_append,tl,length_drop,hrl];rfl
     refine⟨by omega,by omega,by rw[<-length_append,tl2];omega,⟨row.take a++[q]++row.drop (a+m),ms,ok.step hm2 hal hk hq,?_⟩,by rw[tl2];omega⟩;rw[y7m,y7m];simp[z2a,map_take,map_drop]
    rcases(show x / 32 % 2=0\/x / 32 % 2=1 by omega) with e|e<;>rw[e]
    ·exact⟨by decide,cm,⟨by decide,by decide⟩,hp,by omega,⟨by decide,by decide⟩,by decide,_,atI0,by omega,⟨by decide,by decide⟩,fin _ .row (.inl rfl) rfl⟩
    ·exact⟨by decide,cm,⟨by decide,by decide⟩,hp,by omega,⟨by decide,by decide⟩,by decide,_,atI1,by omega,⟨by decide,by decide⟩,fin _ .any (.inr rfl) rfl⟩
   ·refine⟨by omega,?_⟩;cases row with
    |nil =>
     refine iteT ⟨by omega,by simp[z1w];omega,_,atI0,fun x ms=>⟨.none,x,rfl,fun q' hq=>?_⟩⟩;obtain⟨s1,s2,s3,s4,s5⟩:=hq;exact q q' ms (by rw[s1];exact ok.si) (by simp only[szP]at s2;omega) (by simp only[dpP]at s3;omega) (by simp only[lenB]at s4;omega) (s5 rfl)
    |cons p r =>
     have er:r=[]:=by
      have:(p::r).length<=1:=by omega
      simpa using this
     subst er;refine iteF ⟨_,atI0,fun x ms=>⟨p,x,rfl,fun q' hq=>?_⟩⟩;obtain⟨s1,s2,s3,s4,s5⟩:=hq;have e1:=ok.si;have b9:=pw9 sg.length hl;simp only[z1f,append_nil]at e1;simp only[szPs,length_cons,length_nil]at ksz;simp only[dpPs,length_cons,length_nil]at kdp;simp only[z4o,length_cons,length_nil]at kln;exact q q' ms (by rw[s1];exact e1) (by omega) (by omega) (by omega) (s5 (by simpa[y9] using ok.ok))
def x2d:RD:=fun δ Q=>∃(zs:List Str)(n:Int),δ=[.fz (.lst (zs.map .str)),.fz (.int n)]/\zs.length<=8/\zs.Nodup/\("#":Str)∉zs /\
 ∀us:List Str,us.Nodup->us.length<=9->(∀u∈us,u = "#" \/ u∈zs)->∀b,Q b (.lst (us.map .str)) [.no,.no]
theorem x7g (u2e:Ent K mg "_law_signs" u2q ["_law_names","_law_number"] f fd)(T:Zs K mg):FnOk P w K mg base CX0 1 f fd ["_law_names","_law_number"] (spD x2d):=by
 refine VL.Fun.dok u2e.F u3p (fun δ Qd h=>?_) (by decide) (fun cdv A outer s H E δ Qd hr h=>?_)
 ·obtain⟨_,_,rfl,_⟩:=h;rfl
 ·obtain⟨zs,n,rfl,hl,nd,nh,q⟩:=h;refine⟨_,(z0b (y6m (j:=2) ["_law_j","_law_name_here"] ["_law_names","_law_number","_law_some","_law_at"] u3p.nd rfl rfl rfl (show CScopeG (z0f u2q) ["_law_names","_law_number","_law_some","_law_at"] ["_law_j","_law_name_here"] _ _ from⟨rfl,by decide +kernel,by decide +kernel,by decide +kernel,by decide +kernel⟩) (q9f rfl T.z_enumerate (z0a (dv 0) z0d)) (fun _ _ _ _ _=>(x8y (m:=2) rfl (y0 (z2h (i:=0) (by decide) (show List.Nodup (["_law_j","_law_name_here","_law_names","_law_number","_law_some","_law_at"]:List Str) from by decide +kernel) rfl (Or.inl rfl)) (y0 (z2h (i:=1) (by decide) (show List.Nodup (["_law_j","_law_name_here","_law_names","_law_number","_law_some","_law_at"]:List Str) from by decide +kernel) rfl (Or.inl rfl)) x1v)))) (fun _ _ _ _ _=>(q7k (z0r y7o y5x (z0l z1p z1o (z0l z3k z2g (dv 3) (z0l z1c z1b (dv 0) z0c)) z0c) z0c (z0k _)))) (fun _ _ _ _ _=>(dv 1)))
   (z0b (z1k (z0r z2j z1v (z0l z1p z1o (z0l z3k z2g (dv 1) z0c) z0c) z0c (z0k _)) (z0e (z5e (y3p z3f PySem.F.slot_list_append PySem.F.type_list_append z1m (pv 2) (z0a z0h z0d)))) z0q)
   (z0b (dq 3 u3p.nd (z0l z1p z1o (z0l z3k z2g (dv 1) z0c) (z0l z1c z1b (z1i z4c z1e rfl T.z_len PySem.boot_len (pv 2)) z0c)))
   (z0b (dq 2 u3p.nd (z0l z3r z2m (z1l (pv 2) (z0o (dv 3)) z1n) (z1l (pv 2) z1n (z0o (dv 3)))))
   (z0b (z1k (z0r z2j z1v (z0l z1p z1o (z0l z3k z2g (dv 1) z0c) z0c) z0c (z0k _)) (z0e (z0n (x4r (dv 2)))) z0q)
   (z0e (z0n (dm 2)))))))),?_⟩
  have sz:=z0y;walk_at "vd";refine⟨fun r acc δ1=>δ1=[.fz (.lst (zs.map .str)),.fz (.int n),.no,.no]/\∃pre suf us,zs=pre++suf/\r=y1m pre.length (suf.map .str)/\acc=us.map D.str/\us.Sublist pre,⟨rfl,[],zs,[],rfl,rfl,rfl,.refl _⟩,?_,?_⟩
  ·rintro d r acc δ1 ⟨rfl,pre,suf,us,e1,e2,rfl,e3⟩;cases suf with
   |nil=>cases e2
   |cons z suf =>
    cases e2;walk_at "vd";have hpl:pre.length<8:=by rw[e1]at hl;simp at hl;omega
    have hus:us.length<=pre.length:=e3.length_le;refine⟨⟨by omega,lt_of_le_of_lt (Nat.log2_le_self _) (by omega)⟩,by decide,ite2 (fun _=>⟨by simp;omega,pre++[z],suf,us++[z],by simp[e1],by simp,by simp,e3.append (.refl _)⟩) fun _=>⟨pre++[z],suf,us,by simp[e1],by simp,rfl,e3.trans (List.sublist_append_left _ _)⟩⟩
  ·rintro acc δ1 ⟨rfl,pre,suf,us,e1,e2,rfl,e3⟩;cases suf with
   |cons z suf=>cases e2
   |nil =>
    rw[append_nil]at e1;subst e1;have fin:∀vs:List Str,vs.Nodup->vs.length<=9->(∀u∈vs,u = "#" \/ u∈zs)->((0:Int)<14/\(natAbs 14).log2<9000) /\
     0<((vs.map D.str).length:Int)+1 /\
      (cutD (vs.map D.str) (some (n / 14 % (((vs.map D.str).length:Int)+1))) none).length+(cutD (vs.map D.str) none (some (n / 14 % (((vs.map D.str).length:Int)+1)))).length<=sizeLine /\
       ((0:Int)<1009/\(natAbs 1009).log2<9000)/\(0:Int)<2 /\
         if n / 1009 % 2=0 then Qd true (D.lst (cutD (vs.map D.str) (some (n / 14 % (((vs.map D.str).length:Int)+1))) none++cutD (vs.map D.str) none (some (n / 14 % (((vs.map D.str).length:Int)+1)))).reverse) [Slot.no,Slot.no]
         else Qd true (D.lst (cutD (vs.map D.str) (some (n / 14 % (((vs.map D.str).length:Int)+1))) none++cutD (vs.map D.str) none (some (n / 14 % (((vs.map D.str).length:Int)+1))))) [Slot.no,Slot.no]:=by
     intro vs h1 h2 h3;have hp:(0:Int)<((vs.map D.str).length:Int)+1:=by omega
     have y1:=z3y (a:=n / 14) hp;have y2:=z3z (a:=n / 14) hp;obtain⟨a,ea⟩:∃a:Nat,n / 14 % (((vs.map D.str).length:Int)+1)=(a:Int):=⟨_,(Int.toNat_of_nonneg y1).symm⟩;rw[ea,z4i,z3t,<-map_drop,<-map_take,<-map_append,<-List.map_reverse];have hn:(vs.drop a++vs.take a).Nodup:=by rw[List.perm_append_comm.nodup_iff,take_append_drop];exact h1
     have hlen:(vs.drop a++vs.take a).length<=9:=by simp;omega
     have hm:∀u∈vs.drop a++vs.take a,u = "#" \/ u∈zs:=fun u hu=>h3 u (by
      rcases mem_append.mp hu with z|z
      ·exact mem_of_mem_drop z
      ·exact mem_of_mem_take z)
     refine⟨⟨by decide,by decide⟩,hp,by simp;omega,⟨by decide,by decide⟩,by decide,ite2 (fun _=>?_) fun _=>?_⟩
     ·exact q _ ((List.reverse_perm _).nodup_iff.mpr hn) (by rw[List.length_reverse];exact hlen) (fun u hu=>hm u (List.mem_reverse.mp hu)) _
     ·exact q _ hn hlen hm _
    walk_at "vd";have hus:=e3.length_le;have und:=e3.nodup nd;have usub:=e3.subset;refine⟨⟨by decide,by decide⟩,by decide,ite2 (fun _=>⟨by simp;omega,?_⟩) fun _=>?_⟩
    ·have:=fin (us++[("#":Str)]) (by
      rw[nodup_append];exact⟨und,by simp,fun a ha b hb=>by simp at hb;subst hb;intro z;subst z;exact nh (usub ha)⟩) (by simp;omega) (fun u hu=>by
      rcases mem_append.mp hu with z|z
      ·exact .inr (usub z)
      ·exact .inl (by simpa using z))
     rw[map_append]at this;exact this
    ·exact fin us und (by omega) fun u hu=>.inr (usub hu)
def y0q (root:Str)(rules:List (Str×Pat)):D:=.tup [.str root,.lst (rules.map fun r=>.tup [.str r.1,patD r.2])]
structure PatOk (zs:List Str)(p:Pat):Prop where
 nd:(z0x p).Nodup
 sg:∀s∈z0x p,s = "#" \/ s∈zs
 sz:szP p<=50
 dp:dpP p<=20
 ln:lenB p<=200000
 ok:okP p=true
theorem y7l {x:Str}{l u:Option Int}{c:Nat}(h:c∈(Txt.slice x l u).cps.toList):c∈x.cps.toList:=by
 unfold Txt.slice at h;split at h
 ·exact h
 ·simp only[mem_filterMap]at h;obtain⟨i,_,hi⟩:=h;exact Array.mem_toList_iff.mpr (Array.mem_of_getElem? hi)
def AbcS (s:Str):Prop:=s.length<=20/\s.cps.toList≠[]/\∀c∈s.cps.toList,97<=c/\c<=122
theorem x5w (k n:Int):AbcS (z8f k n):=by
 have m1:=z3y (a:=n) (b:=5) (by decide);have m2:=z3z (a:=n) (b:=5) (by decide);have hb:(z5i n).length<=5:=by
  have:=W.KT.join_ones ((range (n % 5).toNat).map fun(k:Nat)=>(⟨#[letF (n / 150+(k:Int) * k)]⟩:Str)) (fun t ht=>by obtain⟨k,_,rfl⟩:=mem_map.mp ht;rfl);have e:(z5i n).length=_:=this;simp at e;omega
 have hm:∀c∈(z5i n).cps.toList,97<=c/\c<=122:=fun c hc=>by
  have eb:z5i n=⟨((range (n % 5).toNat).map fun(k:Nat)=>letF (n / 150+(k:Int) * k)).toArray⟩:=by
   rw[<-join_ones,<-glued_eq_join,map_map];rfl
  rw[eb]at hc;obtain⟨k,_,rfl⟩:=mem_map.mp (show c∈(range (n % 5).toNat).map fun(k:Nat)=>letF (n / 150+(k:Int) * k) by simpa using hc);exact y9n _
 have g1:=slice_le (z5i n) none (some (atF n));have g2:=slice_le (z5i n) (some (atF n)) none;have l1:(⟨#[letF (k+n)]⟩:Str).length=1:=rfl;refine⟨?_,?_,fun c hc=>?_⟩
 ·unfold z8f;rw[Str.len_app,Str.len_app];omega
 ·rw[z9u];simp
 ·rw[z9u]at hc;rcases mem_append.mp hc with hc|hc
  ·exact hm c (y7l hc)
  ·rcases mem_cons.mp hc with rfl|hc
   ·exact y9n _
   ·exact hm c (y7l hc)
structure FormOk (root:Str)(rules:List (Str×Pat)):Prop where
 len:rules.length<=8
 nl:∀s∈rules.map (·.1),AbcS s
 nd:(rules.map (·.1)).Nodup
 root:root∈rules.map (·.1)
 pat:∀r∈rules,PatOk (rules.map (·.1)) r.2
def q7i (K:W.Frag):RD:=fun δ Q=>∃(ns:List Int)(t m:Nat),δ=[.sc K ns,.fz (.int t),.fz (.int m)]/\t<=500/\1<=m/\m<=8/\∀root rules,FormOk root rules->Q false (y0q root rules) [.no,.no,.no]
theorem j1f {f1 f2 f3 f4 f5 f6:Addr}{fd1 fd2 fd3 fd4 fd5 fd6:FuncData}(u3x:Ent K mg "_law_form" u3u ["_law_script","_law_turn","_law_many"] f fd)(T:Zs K mg)(u1f:Ent K mg "_law_pop" u3q ["_law_draws_here"] f1 fd1)(u0p:Ent K mg "_law_wrapped" u1z ["_law_pattern_here","_law_number"] f2 fd2)(u1m:Ent K mg "_law_pattern" u2a ["_law_some","_law_draws_here"] f3 fd3)(u1h:Ent K mg "_law_draws" u2p ["_law_script","_law_turn","_law_many"] f4 fd4)(u3y:Ent K mg "_law_name" u3c ["_law_k","_law_draw"] f5 fd5)(u2e:Ent K mg "_law_signs" u2q ["_law_names","_law_number"] f6 fd6) :
  FnOk P w K mg base CX0 3 f fd ["_law_script","_law_turn","_law_many"] (spD (q7i K)):=by
 have u3r:=q6r (P:=P) (w:=w) (base:=base) u1f T;have u5u:=x3f (P:=P) (w:=w) (base:=base) u1m T u1f u0p;have u5a:=x1i (P:=P) (w:=w) (base:=base) u1h T;have u6k:=q8g (P:=P) (w:=w) (base:=base) u3y T;have u6h:=x7g (P:=P) (w:=w) (base:=base) u2e T;refine VL.Fun.dok u3x.F u2c (fun δ Qd h=>?_) (by decide) (fun cdv A outer s H E δ Qd hr h=>?_)
 ·obtain⟨_,_,_,rfl,_⟩:=h;rfl
 ·obtain⟨ns,t,m,rfl,ht,hm1,hm2,q⟩:=h;refine⟨_,(z0b (dq 3 u2c.nd (x5y u5a u1h (pv 0) (z0a (dv 1) (z0a (z0l z1c z1b (z0l z6q z6m z0c (dv 2)) z0c) z0d))))
   (z0b (x7c (i:=4) u2c.nd rfl (Or.inr rfl) (x3l (i:=3) u3r u1f (da_o (pv 3) y5k)))
   (z0b (y6m (j:=5) ["_law_k"] ["_law_script","_law_turn","_law_many","_law_draws_here","_law_first","_law_names","_law_rules","_law_name_here","_law_at"] u2c.nd rfl rfl rfl (show CScopeG (z0f u3u) ["_law_script","_law_turn","_law_many","_law_draws_here","_law_first","_law_names","_law_rules","_law_name_here","_law_at"] ["_law_k"] _ _ from⟨rfl,by decide +kernel,by decide +kernel,by decide +kernel,by decide +kernel⟩) (z6x rfl T.z_range (z0a (dv 2) z0d)) (fun _ _ _ _ _=>(z2h (i:=0) (by decide) (show List.Nodup (["_law_k","_law_script","_law_turn","_law_many","_law_draws_here","_law_first","_law_names","_law_rules","_law_name_here","_law_at"]:List Str) from by decide +kernel) rfl (Or.inl rfl))) (fun _ _ _ _ _=>z6u) (fun _ _ _ _ _=>(z1x u6k u3y (z0a (dv 0) (z0a (dv 5) z0d)))))
   (z0b (dq 6 u2c.nd (z1a z0d))
   (z0b (z8e PassesOwn.never rfl (z3i (dv 5)) (dn 7 u2c.nd) (z0e (z5e (y3p z3f PySem.F.slot_list_append PySem.F.type_list_append z1m (pv 6) (z0a (z1j (z0a (dv 7) (z0a (x3l (i:=3) u5u u1m (da_v (z1x u6h u2e (z0a (dv 5) (z0a (x3l (i:=3) u3r u1f (da_o (pv 3) y5k)) z0d))) (da_o (pv 3) y5k))) z0d))) z0d)))))
   (z0b (dq 8 u2c.nd (z0l z1p z1o (z0l z3k z2g (dv 4) z0c) (dv 2)))
   (z0e (z0n (z1j (z0a (z0m z2f z1t (pv 5) (z0l z1p z1o (x3l (i:=3) u3r u1f (da_o (pv 3) y5k)) (dv 2)) (fun _ _=>rfl)) (z0a (z0l z3r z2m (z1l (pv 6) (z0o (dv 8)) z1n) (z1l (pv 6) z1n (z0o (dv 8)))) z0d))))))))))),?_⟩
  have sz:=z0y;walk_at "vd";refine⟨.inl ⟨by decide,by decide⟩,ns,t,14 * m+2,by congr 3,by omega,by omega,fun ms hms=>?_⟩;walk_at "vd";intro x ms1;refine⟨by omega,by omega,?_⟩;rw[Int.toNat_natCast,x2v];refine y6d (fun k:Nat=>D.int (k:Int)) (fun k:Nat=>.str (z8f k x)) (range m) (by simp;omega) (fun k hk P hP=>?_) ?_
  ·walk_at "vd";exact⟨_,_,rfl,hP⟩
  ·have ez:(range m).map (fun k:Nat=>D.str (z8f k x))=((range m).map fun k:Nat=>z8f k x).map D.str:=by rw[map_map];rfl
   rw[ez];have hz1:((range m).map fun k:Nat=>z8f k x).length=m:=by simp
   have hz2:((range m).map fun k:Nat=>z8f k x).Nodup:=by
    unfold List.Nodup;rw[List.pairwise_map];refine List.Pairwise.imp_of_mem (fun {a b} ha hb hne e=>hne ?_) List.nodup_range;have h1:=x8d e;have h2:=mem_range.mp ha;have h3:=mem_range.mp hb;omega
   have hz3:("#":Str)∉(range m).map fun k:Nat=>z8f k x:=fun h=>by
    obtain⟨k,_,e⟩:=mem_map.mp h;exact q2q _ _ e
   have hz4:∀s∈(range m).map fun k:Nat=>z8f k x,AbcS s:=fun s h=>by
    obtain⟨k,_,rfl⟩:=mem_map.mp h;exact x5w _ _
   generalize (range m).map (fun k:Nat=>z8f k x)=zs at hz1 hz2 hz3 hz4 ⊢;walk_at "vd";refine⟨by omega,x0j [7] (fun r δ=>∃(pre suf:List Str)(rules:List (Str×Pat))(ms:List Int),zs=pre++suf/\r=suf.map .str/\rules.map (·.1)=pre/\(∀r∈rules,PatOk zs r.2) /\
    δ=[.sc K ns,.fz (.int t),.fz (.int m),.ob false (.lst (ms.map .int)),.fz (.int x),.fz (.lst (zs.map .str)),.ob false (.lst (rules.map fun r=>.tup [.str r.1,patD r.2])),.no,.no]) ⟨[],zs,[],ms1,rfl,rfl,rfl,(fun r hr=>by cases hr),rfl⟩ ?_ ?_⟩
   ·rintro d r δ ⟨pre,suf,rules,ms2,e1,e2,e3,ok,rfl⟩;cases suf with
    |nil=>cases e2
    |cons z suf =>
     cases e2;walk_at "vd";intro x1 ms3;refine⟨zs,x1,rfl,by omega,hz2,hz3,fun us u1 u2 u3 b=>?_⟩;walk_at "vd";refine⟨us,ms3,rfl,u2,fun p ms4 p1 p2 p3 p4 p5=>?_⟩;walk_at "vd";have hlr:rules.length<=8:=by
      have:=congrArg List.length e3;rw[length_map]at this;rw[e1,length_append]at hz1;omega
     refine⟨by omega,by simp;omega,pre++[z],suf,rules++[(z,p)],ms4,by simp[e1],rfl,by simp[e3],fun r hr=>?_,by simp⟩;rcases mem_append.mp hr with h|h
     ·exact ok r h
     ·simp at h;subst h;exact⟨by rw[p1];exact u1,fun s hs=>u3 s (by rw[<-p1];exact hs),p2,p3,p4,p5⟩
   ·rintro δ ⟨pre,suf,rules,ms2,e1,e2,e3,ok,rfl⟩;cases suf with
    |cons z suf=>cases e2
    |nil =>
     rw[append_nil]at e1;subst e1;walk_at "vd";have hm0:(0:Int)<(m:Int):=by omega
     refine⟨⟨by decide,by decide⟩,hm0,fun x1 ms3=>⟨hm0,?_⟩⟩;have y1:=z3y (a:=x / 7) hm0;have y2:=z3z (a:=x / 7) hm0;obtain⟨a,ea⟩:∃a:Nat,x / 7 % (m:Int)=(a:Int):=⟨_,(Int.toNat_of_nonneg y1).symm⟩;rw[ea,z4i,z3t,<-map_drop,<-map_take,<-map_append];have hlr:rules.length=zs.length:=by rw[<-e3,length_map]
     obtain⟨d,hd,ed⟩:=x1b (xs:=zs.map D.str) (z3y (a:=x1) hm0) (by rw[length_map,hz1];exact z3z hm0);obtain⟨root,hr,rfl⟩:=mem_map.mp hd;have pm:(rules.drop a++rules.take a).Perm rules:=by
      have:=List.perm_append_comm (l₁:=rules.drop a) (l₂:=rules.take a);rwa [take_append_drop]at this
     refine⟨_,ed,by simp;omega,by omega,q root _ ⟨by rw[pm.length_eq];omega,(fun s hs=>hz4 s (by rw[(pm.map _).mem_iff,e3]at hs;exact hs)),?_,?_,fun r hr=>?_⟩⟩
     ·rw[(pm.map _).nodup_iff,e3];exact hz2
     ·rw[(pm.map _).mem_iff,e3];exact hr
     ·have o:=ok r (pm.mem_iff.mp hr);refine⟨o.nd,fun s hs=>?_,o.sz,o.dp,o.ln,o.ok⟩;rw[(pm.map _).mem_iff,e3];exact o.sg s hs
abbrev Cs:=List Nat
noncomputable def csS (x:Str):Cs:=x.cps.toList
noncomputable def isL (c:Nat):Bool:=decide (97<=c)&&decide (c<=122)
noncomputable def isNm (s:Cs):Bool:=decide (s≠[])&&s.all isL
noncomputable def mkC:Wk->Nat
 |.maybe=>63
 |.many=>42
 |.some=>43
inductive Kn2 where|row|any|other
def z1z:Pat->Bool
 |.row _=>true
 |.any _=>true
 |_=>false
noncomputable def z6j:Pat->Bool
 |.any _=>true
 |_=>false
noncomputable def z1s (sep:Cs):List Cs->Cs
 | []=>[]
 | [x]=>x
 |x::y::r=>x++sep++z1s sep (y::r)
noncomputable def brk (b:Bool)(s:Cs):Cs:=if b=true then 40::(s++[41]) else s
mutual
noncomputable def txt:Pat->Cs
 |.none=>[45]
 |.one s=>csS s
 |.row ps=>z1s [32] (txtA ps)
 |.any ps=>z1s [32,124,32] (txtB ps)
 |.wrap k p=>brk (z1z p) (txt p)++[mkC k]
noncomputable def txtA:List Pat->List Cs
 | []=>[]
 |p::ps=>brk (z1z p) (txt p)::txtA ps
noncomputable def txtB:List Pat->List Cs
 | []=>[]
 |p::ps=>brk (z6j p) (txt p)::txtB ps
end
noncomputable def brkT (b:Bool)(s:List Cs):List Cs:=if b=true then[40]::(s++[[41]]) else s
mutual
noncomputable def tks:Pat->List Cs
 |.none=>[[45]]
 |.one s=>[csS s]
 |.row ps=>tksA ps
 |.any ps=>tksB ps
 |.wrap k p=>brkT (z1z p) (tks p)++[[mkC k]]
noncomputable def tksA:List Pat->List Cs
 | []=>[]
 |p::ps=>brkT (z1z p) (tks p)++tksA ps
noncomputable def tksB:List Pat->List Cs
 | []=>[]
 | [p]=>brkT (z6j p) (tks p)
 |p::q::ps=>brkT (z6j p) (tks p)++[124]::tksB (q::ps)
end
mutual
noncomputable def okT:Pat->Bool
 |.none=>true
 |.one s=>decide (csS s=[35])||isNm (csS s)
 |.row ps=>decide (2<=ps.length)&&okTs ps
 |.any ps=>decide (2<=ps.length)&&okTs ps
 |.wrap _ p=>okT p
noncomputable def okTs:List Pat->Bool
 | []=>true
 |p::ps=>okT p&&okTs ps
end
def z2z:Nat->Cs->List Cs
 |0,_=>[]
 |_+1,[]=>[]
 |n+1,c::r=>if isL c=true then(c::r.takeWhile isL)::z2z n (r.dropWhile isL) else[c]::z2z n r
noncomputable def tok (s:Cs):List Cs:=(z2z s.length s).filter fun t=>decide (t≠[32])
theorem z3j {n:Nat}{c:Nat}{r:Cs}:z2z (n+1) (c::r)=if isL c=true then(c::r.takeWhile isL)::z2z n (r.dropWhile isL) else[c]::z2z n r:=rfl
theorem z6f:∀(n m:Nat)(s:Cs),s.length<=n->s.length<=m->z2z n s=z2z m s
 |0,0,_,_,_=>rfl
 |0,m+1,[],_,_=>rfl
 |n+1,0,[],_,_=>rfl
 |0,m+1,c::r,h,_=>by simp at h
 |n+1,0,c::r,_,h=>by simp at h
 |n+1,m+1,[],_,_=>rfl
 |n+1,m+1,c::r,h1,h2=>by
  simp only[length_cons]at h1 h2;have hd:(r.dropWhile isL).length<=r.length:=(dropWhile_sublist _).length_le;unfold z2z;rw[z6f n m (r.dropWhile isL) (by omega) (by omega),z6f n m r (by omega) (by omega)]
theorem z7r {c:Nat}{r:Cs}(h:isL c=false)(hs:c≠32):tok (c::r)=[c]::tok r:=by
 unfold tok;rw[length_cons,z3j,if_neg (by simp[h]),List.filter_cons_of_pos (by simp[hs])]
theorem x9r {r:Cs}:tok (32::r)=tok r:=by
 unfold tok;rw[length_cons,z3j,if_neg (by decide),List.filter_cons_of_neg (by simp)]
def Nl (r:Cs):Prop:=∀c,r.head? = some c->isL c=false
theorem Nl.cons {c:Nat}{r:Cs}(h:isL c=false):Nl (c::r):=fun d e=>by simp at e;subst e;exact h
theorem Nl.nil:Nl []:=fun d e=>by simp at e
theorem j2x {s r:Cs}(h:isNm s=true)(hr:Nl r):tok (s++r)=s::tok r:=by
 unfold isNm at h;simp only[and_eq_true,decide_eq_true_eq,all_eq_true]at h;obtain⟨h1,h2⟩:=h;cases s with
 |nil=>exact absurd rfl h1
 |cons c s =>
  have hc:=h2 c mem_cons_self;have hs:∀x∈s,isL x=true:=fun x hx=>h2 x (mem_cons_of_mem _ hx);have t1:(s++r).takeWhile isL=s:=by
   rw[List.takeWhile_append_of_pos hs];have:r.takeWhile isL=[]:=by
    cases r with
    |nil=>rfl
    |cons d r=>rw[takeWhile_cons,if_neg (by rw[hr d rfl];simp)]
   rw[this,append_nil]
  have t2:(s++r).dropWhile isL=r:=by
   rw[List.dropWhile_append_of_pos hs];cases r with
   |nil=>rfl
   |cons d r=>rw[List.dropWhile_cons,if_neg (by rw[hr d rfl];simp)]
  unfold tok;have c32:c≠32:=fun z=>by subst z;exact absurd hc (by decide)
  rw[cons_append,length_cons,z3j,if_pos hc,t1,t2,List.filter_cons_of_pos (by simp[c32]),z6f (s++r).length r.length r (by simp) (le_refl _)]
theorem y3z {b:Bool}{s:Cs}{ts:List Cs}{r:Cs}(h:∀r,Nl r->tok (s++r)=ts++tok r)(hr:Nl r):tok (brk b s++r)=brkT b ts++tok r:=by
 unfold brk brkT;cases b with
 |false=>rw[if_neg (by simp),if_neg (by simp)];exact h r hr
 |true =>
  rw[if_pos rfl,if_pos rfl,cons_append,z7r (by decide) (by decide),append_assoc,h ([41]++r) (Nl.cons (by decide)),singleton_append,z7r (by decide) (by decide)];simp
mutual
theorem y0f:∀(p:Pat),okT p=true->∀r,Nl r->tok (txt p++r)=tks p++tok r
 |.none,_,r,hr=>by rw[txt,tks,singleton_append,z7r (by decide) (by decide)];rfl
 |.one s,h,r,hr=>by
  rw[txt,tks];simp only[okT,or_eq_true,decide_eq_true_eq]at h;rcases h with h|h
  ·rw[h,singleton_append,z7r (by decide) (by decide)];rfl
  ·exact j2x h hr
 |.row ps,h,r,hr=>by
  simp only[okT,and_eq_true]at h;rw[txt,tks];exact x2t ps h.2 r hr
 |.any ps,h,r,hr=>by
  simp only[okT,and_eq_true]at h;rw[txt,tks];exact x1j ps h.2 r hr
 |.wrap k p,h,r,hr=>by
  simp only[okT]at h;have hm:isL (mkC k)=false/\mkC k≠32:=by cases k<;>decide
  rw[txt,tks,append_assoc,y3z (r:=[mkC k]++r) (y0f p h) (Nl.cons hm.1),singleton_append,z7r hm.1 hm.2];simp
theorem x2t:∀(ps:List Pat),okTs ps=true->∀r,Nl r->tok (z1s [32] (txtA ps)++r)=tksA ps++tok r
 | [],_,r,hr=>rfl
 | [p],h,r,hr=>by
  simp only[okTs,and_eq_true]at h;simp only[txtA,tksA,z1s,append_nil];exact y3z (y0f p h.1) hr
 |p::q::ps,h,r,hr=>by
  rw[okTs,and_eq_true]at h;have ih:=x2t (q::ps) h.2 r hr;rw[tksA,append_assoc,<-ih,txtA];show tok (z1s [32] (brk (z1z p) (txt p)::brk (z1z q) (txt q)::txtA ps)++r)=_;rw[z1s,append_assoc,append_assoc,y3z (r:=[32]++(z1s [32] (brk (z1z q) (txt q)::txtA ps)++r)) (y0f p h.1) (Nl.cons (by decide)),singleton_append,x9r];rfl
theorem x1j:∀(ps:List Pat),okTs ps=true->∀r,Nl r->tok (z1s [32,124,32] (txtB ps)++r)=tksB ps++tok r
 | [],_,r,hr=>rfl
 | [p],h,r,hr=>by
  simp only[okTs,and_eq_true]at h;simp only[txtB,tksB,z1s];exact y3z (y0f p h.1) hr
 |p::q::ps,h,r,hr=>by
  rw[okTs,and_eq_true]at h;have ih:=x1j (q::ps) h.2 r hr;rw[tksB,append_assoc,cons_append,<-ih,txtB];show tok (z1s [32,124,32] (brk (z6j p) (txt p)::brk (z6j q) (txt q)::txtB ps)++r)=_;rw[z1s,append_assoc,append_assoc,y3z (r:=[32,124,32]++(z1s [32,124,32] (brk (z6j q) (txt q)::txtB ps)++r)) (y0f p h.1) (Nl.cons (by decide))];rw[show([32,124,32]:Cs)++(z1s [32,124,32] (brk (z6j q) (txt q)::txtB ps)++r)=32::124::32::(z1s [32,124,32] (brk (z6j q) (txt q)::txtB ps)++r) from rfl,x9r,z7r (by decide) (by decide),x9r];rfl
end
abbrev Rws:=List (List Pat)
noncomputable def gath (mk:List Pat->Pat):List Pat->Option Pat
 | []=>none
 | [p]=>some p
 |p::q::r=>some (mk (p::q::r))
def z7b:Rws->Option (List Pat)
 | []=>some []
 |r::rs=>(gath .row r).bind fun p=>(z7b rs).map fun ps=>p::ps
noncomputable def z5o (rows:Rws):Option Pat:=(z7b rows).bind (gath .any)
noncomputable def y4s (rows:Rws):List Pat:=rows.getLastD []
noncomputable def addL (rows:Rws)(p:Pat):Rws:=rows.dropLast++[y4s rows++[p]]
noncomputable def wkOf (t:Cs):Option Wk:=if t=[63] then some .maybe else if t=[42] then some .many else if t=[43] then some .some else none
noncomputable def layR (st:List Rws×Rws)(t:Cs):Option (List Rws×Rws) :=
 if t=[40] then some (st.2::st.1,[[]])
 else if t=[41] then(z5o st.2).bind fun p=>match st.1 with
  | []=>none
  |r0::k=>some (k,addL r0 p)
 else if t=[124] then some (st.1,st.2++[[]])
 else match wkOf t,(y4s st.2).getLast? with
  |some w,some p=>some (st.1,st.2.dropLast++[(y4s st.2).dropLast++[.wrap w p]])
  |_,_=>if t=[45] then some (st.1,addL st.2 .none)
   else if t=[35]\/isNm t=true then some (st.1,addL st.2 (.one ⟨t.toArray⟩))
   else none
noncomputable def runR:List Cs->List Rws×Rws->Option (List Rws×Rws)
 | [],st=>some st
 |t::ts,st=>(layR st t).bind (runR ts)
theorem z6a:∀(a b:List Cs)(st:List Rws×Rws),runR (a++b) st=(runR a st).bind (runR b)
 | [],b,st=>rfl
 |t::a,b,st=>by
  rw[cons_append,runR,runR];cases layR st t with
  |none=>rfl
  |some s=>exact z6a a b s
theorem z9i (rs:Rws)(r:List Pat):y4s (rs++[r])=r:=by simp[y4s]
theorem z5l (rs:Rws)(r:List Pat)(p:Pat):addL (rs++[r]) p=rs++[r++[p]]:=by simp[addL,y4s]
noncomputable def els:Pat->List Pat
 |.row ps=>ps
 |p=>[p]
def z5k:Pat->Rws
 |.any ps=>ps.map els
 |.row ps=>[ps]
 |p=>[[p]]
noncomputable def glue (r:List Pat):Rws->Rws
 | []=>[]
 |x::xs=>(r++x)::xs
theorem x1e {p:Pat}(h:okT p=true):gath .row (els p)=some p:=by
 cases p with
 |row ps =>
  simp only[okT,and_eq_true,decide_eq_true_eq]at h
  match ps,h.1 with
  |p::q::r,_=>rfl
 |_=>rfl
theorem y8q:∀{ps:List Pat},okTs ps=true->z7b (ps.map els)=some ps
 | [],_=>rfl
 |p::ps,h=>by
  rw[okTs,and_eq_true]at h;rw[map_cons,z7b,x1e h.1,bind_some,y8q h.2];rfl
theorem y8p {p:Pat}(h:okT p=true):z5o (z5k p)=some p:=by
 cases p with
 |any ps =>
  simp only[okT,and_eq_true,decide_eq_true_eq]at h;rw[z5o,z5k,y8q h.2]
  match ps,h.1 with
  |p::q::r,_=>rfl
 |row ps =>
  have:=x1e h;simp only[els]at this;rw[z5o,z5k,z7b,this];rfl
 |_=>rfl
theorem x9t {p:Pat}{k:List Rws}{rs:Rws}{r:List Pat}(ok:okT p=true)(h:∀(k:List Rws)(rs:Rws)(r:List Pat),runR (tks p) (k,rs++[r])=some (k,rs++glue r (z5k p))):runR (brkT true (tks p)) (k,rs++[r])=some (k,rs++[r++[p]]):=by
 have h0:=h ((rs++[r])::k) [] [];have e:([]:Rws)++glue [] (z5k p)=z5k p:=by
  rw[nil_append];cases z5k p with
  |nil=>rfl
  |cons x xs=>rfl
 rw[e]at h0;unfold brkT;rw[if_pos rfl,runR];have l1:layR (k,rs++[r]) [40]=some ((rs++[r])::k,[[]]):=rfl;rw[l1,bind_some,z6a];rw[show(([]:Rws)++[[]])=[[]] from rfl]at h0;rw[h0,bind_some,runR];have l2:layR ((rs++[r])::k,z5k p) [41]=some (k,rs++[r++[p]]):=by
  unfold layR;rw[if_neg (by decide),if_pos rfl];dsimp only;rw[y8p ok,bind_some,z5l]
 rw[l2];rfl
theorem q1l {p:Pat}{r:List Pat}(h:z1z p=false):glue r (z5k p)=[r++[p]]:=by
 cases p with
 |row ps=>cases h
 |any ps=>cases h
 |_=>rfl
theorem x1f {p:Pat}{k:List Rws}{rs:Rws}{r:List Pat}(ok:okT p=true)(h:∀(k:List Rws)(rs:Rws)(r:List Pat),runR (tks p) (k,rs++[r])=some (k,rs++glue r (z5k p))):runR (brkT (z1z p) (tks p)) (k,rs++[r])=some (k,rs++[r++[p]]):=by
 cases e:z1z p with
 |true=>exact x9t ok h
 |false =>
  show runR (tks p) _=_;rw[h,q1l e]
theorem x1u {p:Pat}{k:List Rws}{rs:Rws}{r:List Pat}(ok:okT p=true)(h:∀(k:List Rws)(rs:Rws)(r:List Pat),runR (tks p) (k,rs++[r])=some (k,rs++glue r (z5k p))):runR (brkT (z6j p) (tks p)) (k,rs++[r])=some (k,rs++[r++els p]):=by
 cases p with
 |any ps=>exact x9t ok h
 |row ps =>
  show runR (tks (.row ps)) _=_;rw[h];rfl
 |none=>show runR (tks .none) _=_;rw[h];rfl
 |one s=>show runR (tks (.one s)) _=_;rw[h];rfl
 |wrap w p=>show runR (tks (.wrap w p)) _=_;rw[h];rfl
mutual
theorem y4a:∀(p:Pat),okT p=true->∀(k:List Rws)(rs:Rws)(r:List Pat),runR (tks p) (k,rs++[r])=some (k,rs++glue r (z5k p))
 |.none,_,k,rs,r=>by
  rw[tks,runR];have l:layR (k,rs++[r]) [45]=some (k,rs++[r++[.none]]):=by
   unfold layR;rw[if_neg (by decide),if_neg (by decide),if_neg (by decide)];have:wkOf [45]=none:=by decide
   rw[this];dsimp only;rw[if_pos rfl,z5l]
  rw[l];rfl
 |.one s,h,k,rs,r=>by
  rw[tks,runR];simp only[okT,or_eq_true,decide_eq_true_eq]at h;have ne:∀c:Nat,c≠35->isL c=false->csS s≠[c]:=fun c h1 h2 z=>by
   rw[z]at h;rcases h with h|h
   ·exact h1 (List.cons.inj h).1
   ·simp[isNm,h2]at h
  have l:layR (k,rs++[r]) (csS s)=some (k,rs++[r++[.one s]]):=by
   unfold layR;rw[if_neg (ne 40 (by decide) (by decide)),if_neg (ne 41 (by decide) (by decide)),if_neg (ne 124 (by decide) (by decide))];have:wkOf (csS s)=none:=by
    unfold wkOf;rw[if_neg (ne 63 (by decide) (by decide)),if_neg (ne 42 (by decide) (by decide)),if_neg (ne 43 (by decide) (by decide))]
   rw[this];dsimp only;rw[if_neg (ne 45 (by decide) (by decide)),if_pos h,z5l];have e:(⟨(csS s).toArray⟩:Str)=s:=by simp[csS]
   rw[e]
  rw[l];rfl
 |.row ps,h,k,rs,r=>by
  simp only[okT,and_eq_true]at h;rw[tks,x2l ps h.2];rfl
 |.any ps,h,k,rs,r=>by
  simp only[okT,and_eq_true,decide_eq_true_eq]at h;rw[tks,x1d ps (by intro z;rw[z]at h;exact absurd h.1 (by decide)) h.2];rfl
 |.wrap w p,h,k,rs,r=>by
  simp only[okT]at h;rw[tks,z6a,x1f h (y4a p h),bind_some,runR];have l:layR (k,rs++[r++[p]]) [mkC w]=some (k,rs++[r++[.wrap w p]]):=by
   unfold layR;have e1:wkOf [mkC w]=some w:=by cases w<;>rfl
   rw[if_neg (by cases w<;>decide),if_neg (by cases w<;>decide),if_neg (by cases w<;>decide),e1];simp[y4s]
  rw[l];rfl
theorem x2l:∀(ps:List Pat),okTs ps=true->∀(k:List Rws)(rs:Rws)(r:List Pat),runR (tksA ps) (k,rs++[r])=some (k,rs++[r++ps])
 | [],_,k,rs,r=>by rw[tksA,runR,append_nil]
 |p::ps,h,k,rs,r=>by
  rw[okTs,and_eq_true]at h;rw[tksA,z6a,x1f h.1 (y4a p h.1),bind_some,x2l ps h.2];simp
theorem x1d:∀(ps:List Pat),ps≠[]->okTs ps=true->∀(k:List Rws)(rs:Rws)(r:List Pat),runR (tksB ps) (k,rs++[r])=some (k,rs++glue r (ps.map els))
 | [],h,_,k,rs,r=>absurd rfl h
 | [p],_,h,k,rs,r=>by
  simp only[okTs,and_eq_true]at h;rw[tksB,x1u h.1 (y4a p h.1)];rfl
 |p::q::ps,_,h,k,rs,r=>by
  rw[okTs,and_eq_true]at h;rw[tksB,z6a,x1u h.1 (y4a p h.1),bind_some,runR];have l:layR (k,rs++[r++els p]) [124]=some (k,(rs++[r++els p])++[[]]):=rfl;rw[l,bind_some,x1d (q::ps) (by simp) h.2];simp[glue]
end
theorem q1p {p:Pat}(h:okT p=true):∃rows,runR (tok (txt p)) ([],[[]])=some ([],rows)/\z5o rows=some p:=by
 have h1:=y0f p h [] Nl.nil;rw[append_nil,show tok []=[] from rfl,append_nil]at h1;refine⟨z5k p,?_,y8p h⟩;rw[h1];have h2:=y4a p h [] [] [];rw[show([]:Rws)++[[]]=[[]] from rfl]at h2;rw[h2,nil_append];congr 2;cases z5k p with
 |nil=>rfl
 |cons x xs=>rfl
noncomputable def strC (l:Cs):Str:=⟨l.toArray⟩
theorem z4x (a b:Cs):strC a++strC b=strC (a++b):=by
 show(⟨a.toArray++b.toArray⟩:Str)=_;rw[List.append_toArray];rfl
theorem z0t (a:Cs):(strC a).length=a.length:=by simp[strC,Str.length]
theorem z2v (s:Str):strC (csS s)=s:=by simp[strC,csS]
theorem z5u (a:Cs):csS (strC a)=a:=by simp[strC,csS]
theorem z1u (s:Str):(csS s).length=s.length:=by simp[csS,Str.length]
theorem x1k (sep:Cs)(l:List Cs):join (strC sep) (l.map strC)=strC (z1s sep l):=by
 show Builtin.Str.glued _ _=_;rw[glued_eq_join];induction l with
 |nil=>rfl
 |cons x l ih =>
  cases l with
  |nil=>rfl
  |cons y l =>
   rw[map_cons,map_cons,z1s];rw[map_cons]at ih;show strC x++strC sep++Str.join (strC sep) (strC y::l.map strC)=_;rw[ih,z4x,z4x]
theorem y2q (b:Bool)(s:Cs):(brk b s).length<=s.length+2:=by
 unfold brk;split<;>simp
theorem y3q (sep:Cs):∀l:List Cs,(z1s sep l).length<=(l.map fun x=>x.length+sep.length).sum
 | []=>by simp[z1s]
 | [x]=>by simp[z1s]
 |x::y::l=>by
  have:=y3q sep (y::l);rw[z1s,map_cons,sum_cons,length_append,length_append];omega
mutual
noncomputable def wtP:Pat->Nat
 |.none=>6
 |.one s=>s.length+6
 |.row ps=>6+wtPs ps
 |.any ps=>6+wtPs ps
 |.wrap _ p=>6+wtP p
noncomputable def wtPs:List Pat->Nat
 | []=>0
 |p::ps=>wtP p+wtPs ps
end
theorem j0b (p:Pat):6<=wtP p:=by cases p<;>simp[wtP]
theorem y1a:∀ps qs:List Pat,wtPs (ps++qs)=wtPs ps+wtPs qs
 | [],qs=>by simp[wtPs]
 |p::ps,qs=>by rw[cons_append,wtPs,wtPs,y1a ps qs];omega
theorem z8r:∀ps:List Pat,6 * ps.length<=wtPs ps
 | []=>by simp[wtPs]
 |p::ps=>by
  have h1:=j0b p;have h2:=z8r ps;rw[wtPs,length_cons];omega
theorem z8t {p:Pat}:∀{ps:List Pat},p∈ps->wtP p<=wtPs ps
 |q::ps,h=>by
  rw[wtPs];rcases mem_cons.mp h with rfl|h
  ·omega
  ·have:=z8t h;omega
mutual
theorem z7d:∀p:Pat,(txt p).length+5<=wtP p
 |.none=>by simp[txt,wtP]
 |.one s=>by rw[txt,z1u,wtP];omega
 |.row ps=>by
  have h1:=y6n ps;have h2:(z1s [32] (txtA ps)).length<=((txtA ps).map fun x=>x.length+1).sum:=y3q [32] (txtA ps);rw[txt,wtP];omega
 |.any ps=>by
  have h1:=y6k ps;have h2:(z1s [32,124,32] (txtB ps)).length<=((txtB ps).map fun x=>x.length+3).sum:=y3q [32,124,32] (txtB ps);rw[txt,wtP];omega
 |.wrap k p=>by
  have h1:=z7d p;have h2:=y2q (z1z p) (txt p);rw[txt,wtP,length_append,length_singleton];omega
theorem y6n:∀ps:List Pat,((txtA ps).map fun x=>x.length+1).sum<=wtPs ps
 | []=>by simp[txtA]
 |p::ps=>by
  have h1:=z7d p;have h2:=y6n ps;have h3:=y2q (z1z p) (txt p);rw[txtA,wtPs,map_cons,sum_cons];omega
theorem y6k:∀ps:List Pat,((txtB ps).map fun x=>x.length+3).sum<=wtPs ps
 | []=>by simp[txtB]
 |p::ps=>by
  have h1:=z7d p;have h2:=y6k ps;have h3:=y2q (z6j p) (txt p);rw[txtB,wtPs,map_cons,sum_cons];omega
end
theorem z9h:∀ps:List Pat,txtA ps=ps.map fun p=>brk (z1z p) (txt p)
 | []=>rfl
 |p::ps=>by rw[txtA,z9h ps];rfl
theorem z8v:∀ps:List Pat,txtB ps=ps.map fun p=>brk (z6j p) (txt p)
 | []=>rfl
 |p::ps=>by rw[txtB,z8v ps];rfl
theorem y0x {sep:Cs}{l:List Cs}(hs:sep.length<=16)(h:(l.map fun x=>x.length+1).sum<=1048576):JoinOk (strC sep) (l.map strC)=true:=by
 refine joinOk_of_weight ?_ (by rw[z0t];exact hs);have:((l.map strC).map (·.length)).sum+(l.map strC).length=(l.map fun x=>x.length+1).sum:=by
  clear h;induction l with
  |nil=>rfl
  |cons x l ih=>simp only[map_cons,sum_cons,length_cons,z0t]at ih ⊢;omega
 omega
noncomputable def kdS:Pat->Str
 |.none=>"none"
 |.one _=>"one"
 |.row _=>"row"
 |.any _=>"any"
 |.wrap k _=>k.str
def y7x (n:Nat):RD:=fun δ Q=>∃(p:Pat)(ks:List Str),δ=[.fz (patD p),.fz (.lst (ks.map .str))]/\dpP p<n/\wtP p<=1000000/\ks.length<=2/\Q false (.str (strC (brk (decide (kdS p∈ks)) (txt p)))) [.no,.no]
def z8o (n:Nat):RD:=fun δ Q=>∃p:Pat,δ=[.fz (patD p)]/\dpP p<n/\wtP p<=1000000/\Q false (.str (strC (txt p))) [.no]
theorem j4z:("(":Str)=strC [40]:=by decide
theorem j3k:(")":Str)=strC [41]:=by decide
theorem x4d {n:Nat}{f1:Addr}{fd1:FuncData}(u0h:Ent K mg "_law_between" u1l ["_law_pattern_here","_law_kinds"] f fd)(T:Zs K mg)(u0a:Ent K mg "_law_pattern_text" u0i ["_law_pattern_here"] f1 fd1)(u0s:FnOk P w K mg base CX0 (2 * n) f1 fd1 ["_law_pattern_here"] (spD (z8o n))):FnOk P w K mg base CX0 (2 * n+1) f fd ["_law_pattern_here","_law_kinds"] (spD (y7x n)):=by
 refine VL.Fun.dok u0h.F y1k (fun δ Qd h=>?_) (by decide) (fun cdv A outer s H E δ Qd hr h=>?_)
 ·obtain⟨_,_,rfl,_⟩:=h;rfl
 ·obtain⟨p,ks,rfl,hdp,hsz,hk,q⟩:=h;refine⟨_,(z0b (z1k (y2k q6y y8b (z0m z0w z1d (pv 0) z0c (fun _ _=>rfl)) (pv 1) rfl) (z0e (z0n (z0l z2l z1h (z0l z2l z1h z0h (z1x u0s u0a (z0a (dv 0) z0d))) z0h))) z0q)
   (z0e (z0n (z1x u0s u0a (z0a (dv 0) z0d))))),?_⟩
  have sz:=z0y;have tl:=z7d p;have e:∃r,patD p=.tup (.str (kdS p)::r):=by
   cases p with
   |wrap k p=>exact⟨_,rfl⟩
   |_=>exact⟨_,rfl⟩
  obtain⟨r,e⟩:=e;rw[e];walk_at "vd";have hd:([.fz (D.tup (D.str (kdS p)::r))]:List VL.Slot)=[.fz (patD p)]:=by rw[e]
  by_cases hm:kdS p∈ks
  ·rw[if_pos hm];rw[decide_eq_true hm]at q;refine⟨p,hd,hdp,hsz,?_⟩;walk_at "vd";have l1:("(":Str).length=1:=by decide
   have l2:(")":Str).length=1:=by decide
   have l3:=z0t (txt p);refine⟨by omega,?_⟩;rw[j4z,j3k] at *
   rw[z4x,z0t];refine⟨by rw[z0t];simp;omega,?_⟩;rw[z4x];exact q
  ·rw[if_neg hm];rw[decide_eq_false hm]at q;exact⟨p,hd,hdp,hsz,q⟩
theorem x1s (p:Pat):decide (kdS p∈(["row","any"]:List Str))=z1z p:=by
 cases p with
 |wrap k p=>show decide (k.str∈(["row","any"]:List Str))=false;cases k<;>decide
 |none=>decide
 |one s=>show decide ((("one":Str))∈(["row","any"]:List Str))=false;decide
 |row ps=>show decide ((("row":Str))∈(["row","any"]:List Str))=true;decide
 |any ps=>show decide ((("any":Str))∈(["row","any"]:List Str))=true;decide
theorem q5n (p:Pat):decide (kdS p∈(["any"]:List Str))=z6j p:=by
 cases p with
 |wrap k p=>show decide (k.str∈(["any"]:List Str))=false;cases k<;>decide
 |none=>decide
 |one s=>show decide ((("one":Str))∈(["any"]:List Str))=false;decide
 |row ps=>show decide ((("row":Str))∈(["any"]:List Str))=false;decide
 |any ps=>show decide ((("any":Str))∈(["any"]:List Str))=true;decide
noncomputable def mkS:Wk->Str
 |.maybe=>"?"
 |.many=>"*"
 |.some=>"+"
theorem j6m (k:Wk):mkS k=strC [mkC k]:=by cases k<;>decide
theorem x1w {f1:Addr}{fd1:FuncData}(u0a:Ent K mg "_law_pattern_text" u0i ["_law_pattern_here"] f fd)(T:Zs K mg)(u0h:Ent K mg "_law_between" u1l ["_law_pattern_here","_law_kinds"] f1 fd1):∀n,FnOk P w K mg base CX0 (2 * n) f fd ["_law_pattern_here"] (spD (z8o n)):=by
 intro n;induction n with
 |zero=>exact z7c fun δ Q h=>by obtain⟨_,_,h,_⟩:=h;exact not_lt_zero _ h
 |succ n ih =>
 have u4f:=x4d (P:=P) (w:=w) (base:=base) u0h T u0a ih;rw[show 2 * (n+1)=(2 * n+1)+1 by omega];refine VL.Fun.dok u0a.F u3n (fun δ Qd h=>?_) (by decide) (fun cdv A outer s H E δ Qd hr h=>?_)
 ·obtain⟨_,rfl,_⟩:=h;rfl
 ·obtain⟨p,rfl,hdp,hsz,q⟩:=h;refine⟨_,(z0b (z1k (z0r z2j z1v (z0m z0w z1d (pv 0) z0c (fun _ _=>rfl)) z0h (z0k _)) (z0e (z0n z0h)) z0q)
   (z0b (z1k (z0r z2j z1v (z0m z0w z1d (pv 0) z0c (fun _ _=>rfl)) z0h (z0k _)) (z0e (z0n (z0m z0w z1d (pv 0) z0c (fun _ _=>rfl)))) z0q)
   (z0b (z1k (z0r z2j z1v (z0m z0w z1d (pv 0) z0c (fun _ _=>rfl)) z0h (z0k _)) (z0e (z0n (y2h z0h (z6d ["_law_one"] ["_law_pattern_here","_law_mark"] rfl (show CScopeG (z0f u0i) ["_law_pattern_here","_law_mark"] ["_law_one"] _ _ from⟨rfl,by decide +kernel,by decide +kernel,by decide +kernel,by decide +kernel⟩) (z3i (z0m z0w z1d (pv 0) z0c (fun _ _=>rfl))) (fun _ _ _ _ _=>(z2h (i:=0) (by decide) (show List.Nodup (["_law_one","_law_pattern_here","_law_mark"]:List Str) from by decide +kernel) rfl (Or.inl rfl))) (fun _ _ _ _ _=>z6u) (fun _ _ _ _ _=>(z1x u4f u0h (z0a (dv 0) (z0a (z1a (z0a z0h (z0a z0h z0d))) z0d)))))))) z0q)
   (z0b (z1k (z0r z2j z1v (z0m z0w z1d (pv 0) z0c (fun _ _=>rfl)) z0h (z0k _)) (z0e (z0n (y2h z0h (z6d ["_law_one"] ["_law_pattern_here","_law_mark"] rfl (show CScopeG (z0f u0i) ["_law_pattern_here","_law_mark"] ["_law_one"] _ _ from⟨rfl,by decide +kernel,by decide +kernel,by decide +kernel,by decide +kernel⟩) (z3i (z0m z0w z1d (pv 0) z0c (fun _ _=>rfl))) (fun _ _ _ _ _=>(z2h (i:=0) (by decide) (show List.Nodup (["_law_one","_law_pattern_here","_law_mark"]:List Str) from by decide +kernel) rfl (Or.inl rfl))) (fun _ _ _ _ _=>z6u) (fun _ _ _ _ _=>(z1x u4f u0h (z0a (dv 0) (z0a (z1a (z0a z0h z0d)) z0d)))))))) z0q)
   (z0b (dq 1 u3n.nd (x0s z2f z1t (z1a (z0a z0h (z0a z0h (z0a z0h z0d)))) (q3n (z1a (z0a z0h (z0a z0h (z0a z0h z0d)))) (z0m z0w z1d (pv 0) z0c (fun _ _=>rfl))) (fun _ _=>rfl)))
   (z0e (z0n (z0l z2l z1h (z1x u4f u0h (z0a (z0m z0w z1d (pv 0) z0c (fun _ _=>rfl)) (z0a (z1a (z0a z0h (z0a z0h z0d))) z0d))) (dv 1))))))))),?_⟩
  have sz:=z0y;have tl:=z7d p;cases p with
  |none =>
   simp only[patD];walk_at "vd";exact q
  |one s =>
   simp only[patD];walk_at "vd";rw[txt,z2v]at q;exact q
  |row ps =>
   simp only[patD];simp only[dpP,wtP]at hdp hsz;have hl:=z8r ps;have h1:=y6n ps;walk_at "vd";rw[z2a,if_neg (by decide),if_neg (by decide)];refine y6d patD (fun p=>.str (strC (brk (z1z p) (txt p)))) ps (by omega) (fun c hc P hP=>?_) ?_
   ·have d1:=z4w hc;have z1:=z8t hc;walk_at "vd";refine⟨by omega,c,["row","any"],rfl,by omega,by omega,by decide,?_⟩;rw[x1s];exact hP
   refine⟨(txtA ps).map strC,by rw[z9h];simp,y0x (sep:=[32]) (by decide) (by omega),?_⟩;rw[show((Str.ofString " ":Str))=strC [32] by decide,x1k];exact q
  |any ps =>
   simp only[patD];simp only[dpP,wtP]at hdp hsz;have hl:=z8r ps;have h1:=y6k ps;have h2:((txtB ps).map fun x=>x.length+1).sum<=((txtB ps).map fun x=>x.length+3).sum:=by
    clear h1;induction txtB ps with
    |nil=>simp
    |cons x l ih=>simp only[map_cons,sum_cons];omega
   walk_at "vd";rw[z2a,if_neg (by decide),if_neg (by decide),if_neg (by decide)];refine y6d patD (fun p=>.str (strC (brk (z6j p) (txt p)))) ps (by omega) (fun c hc P hP=>?_) ?_
   ·have d1:=z4w hc;have z1:=z8t hc;walk_at "vd";refine⟨by omega,c,["any"],rfl,by omega,by omega,by decide,?_⟩;rw[q5n];exact hP
   refine⟨(txtB ps).map strC,by rw[z8v];simp,y0x (sep:=[32,124,32]) (by decide) (by omega),?_⟩;rw[show((Str.ofString " | ":Str))=strC [32,124,32] by decide,x1k];exact q
  |wrap k p =>
   simp only[dpP,wtP]at hdp hsz;have tl':=z7d p;have bl:=y2q (z1z p) (txt p);have ks:∀s:Str,s = "none" \/ s = "one" \/ s = "row" \/ s = "any"->k.str≠s:=fun s hs=>by rcases hs with rfl|rfl|rfl|rfl<;>cases k<;>decide
   have ix:∃j:Nat,([Str.ofString "maybe",Str.ofString "many",Str.ofString "some"]:List Str)[j]? = some k.str/\(∀m,m<j->([Str.ofString "maybe",Str.ofString "many",Str.ofString "some"]:List Str)[m]? ≠ some k.str)/\atI [D.str (Str.ofString "?"),D.str (Str.ofString "*"),D.str (Str.ofString "+")] (j:Int)=some (.str (mkS k)):=by
    cases k with
    |maybe=>exact⟨0,rfl,fun m h=>absurd h (not_lt_zero _),rfl⟩
    |many=>exact⟨1,rfl,fun m h=>by obtain rfl:m=0:=(by omega);decide,rfl⟩
    |some=>exact⟨2,rfl,fun m h=>by rcases(by omega:m=0\/m=1) with rfl|rfl<;>decide,rfl⟩
   obtain⟨j,j1,j2,j3⟩:=ix;simp only[patD];walk_at "vd";rw[if_neg (ks _ (.inl rfl)),if_neg (ks _ (.inr (.inl rfl))),if_neg (ks _ (.inr (.inr (.inl rfl)))),if_neg (ks _ (.inr (.inr (.inr rfl))))];refine⟨by omega,by omega,_,rfl,_,j,rfl,j1,j2,_,j3,by omega,p,["row","any"],rfl,by omega,by omega,by decide,?_⟩;rw[x1s];walk_at "vd";rw[j6m,z0t,z0t,z4x];exact⟨by simp;omega,q⟩
noncomputable def q7n (x:Str):Option Str:=if x = "maybe" then some "?" else if x = "many" then some "*" else if x = "some" then some "+" else none
noncomputable def x1p (x:Str):Option Str:=if x = "?" then some "maybe" else if x = "*" then some "many" else if x = "+" then some "some" else none
theorem q0l (k:Wk):q7n k.str=some (mkS k):=by cases k<;>decide
structure Gds (K:W.Frag)(mg:Str->Option Value)(w:World)(aM aK:Addr):Prop where
 g_NOTHING:∃t,mg "NOTHING" = some (.str "-" t)
 g_QUOTE:∃t,mg "QUOTE" = some (.str (⟨#[34]⟩:Str) t)
 g_MARKS:mg "MARKS" = some (.ref aM)
 g_KINDS:mg "KINDS" = some (.ref aK)
 d_MARKS:x3g K w aM q7n
 d_KINDS:x3g K w aK x1p
variable {aM aK:Addr}
def q3w (n:Nat):RD:=fun δ Q=>∃(p:Pat)(ks:List Str),δ=[.fz (patD p),.fz (.tup (ks.map .str))]/\dpP p<n/\wtP p<=1000000/\ks.length<=2/\Q false (.str (strC (brk (decide (kdS p∈ks)) (txt p)))) [.no,.no]
theorem q9k {n:Nat}{f1:Addr}{fd1:FuncData}(u5b:Ent K mg "held" u5x ["pattern","kinds"] f fd)(T:Zs K mg)(Gd:Gds K mg w aM aK)(u0q:Ent K mg "show_pattern" u1c ["pattern"] f1 fd1)(u4g:FnOk P w K mg base CX0 (2 * n) f1 fd1 ["pattern"] (spD (z8o n))):FnOk P w K mg base CX0 (2 * n+1) f fd ["pattern","kinds"] (spD (q3w n)):=by
 refine VL.Fun.dok u5b.F u7i (fun δ Qd h=>?_) (by decide) (fun cdv A outer s H E δ Qd hr h=>?_)
 ·obtain⟨_,_,rfl,_⟩:=h;rfl
 ·obtain⟨p,ks,rfl,hdp,hsz,hk,q⟩:=h;refine⟨_,(z0b (dq 2 u7i.nd (z1x u4g u0q (z0a (dv 0) z0d)))
   (z0e (z0n (q7r (z0r x0t y0w (z0m z0w z1d (pv 0) z0c (fun _ _=>rfl)) (dv 1) rfl) (z0l z2l z1h (z0l z2l z1h z0h (dv 2)) z0h) (dv 2))))),?_⟩
  have sz:=z0y;have tl:=z7d p;have e:∃r,patD p=.tup (.str (kdS p)::r):=by
   cases p with
   |wrap k p=>exact⟨_,rfl⟩
   |_=>exact⟨_,rfl⟩
  obtain⟨r,e⟩:=e;rw[e];walk_at "vd";have hd:([.fz (D.tup (D.str (kdS p)::r))]:List VL.Slot)=[.fz (patD p)]:=by rw[e]
  refine⟨p,hd,hdp,hsz,?_⟩;walk_at "vd";refine⟨_,ks,rfl,rfl,?_⟩;walk_at "vd";have l1:("(":Str).length=1:=by decide
  have l2:(")":Str).length=1:=by decide
  have l3:=z0t (txt p);by_cases hm:kdS p∈ks
  ·rw[if_pos hm];rw[decide_eq_true hm]at q;rw[j4z,j3k] at *
   rw[z4x,z0t,z0t,z4x,z0t,z0t];refine⟨by simp;omega,by simp;omega,q⟩
  ·rw[if_neg hm];rw[decide_eq_false hm]at q;exact q
theorem j2z {f1:Addr}{fd1:FuncData}(u0q:Ent K mg "show_pattern" u1c ["pattern"] f fd)(T:Zs K mg)(Gd:Gds K mg w aM aK)(u5b:Ent K mg "held" u5x ["pattern","kinds"] f1 fd1):∀n,FnOk P w K mg base CX0 (2 * n) f fd ["pattern"] (spD (z8o n)):=by
 intro n;induction n with
 |zero=>exact z7c fun δ Q h=>by obtain⟨_,_,h,_⟩:=h;exact not_lt_zero _ h
 |succ n ih =>
 have u7j:=q9k (P:=P) (w:=w) (base:=base) u5b T Gd u0q ih;rw[show 2 * (n+1)=(2 * n+1)+1 by omega];refine VL.Fun.dok u0q.F u4u (fun δ Qd h=>?_) (by decide) (fun cdv A outer s H E δ Qd hr h=>?_)
 ·obtain⟨_,rfl,_⟩:=h;rfl
 ·obtain⟨p,rfl,hdp,hsz,q⟩:=h;refine⟨_,(z0b (dq 1 u4u.nd (z0m z0w z1d (pv 0) z0c (fun _ _=>rfl)))
   (z0b (z1k (z0r z2j z1v (dv 1) z0h (z0k _)) (z0e (z0n (j5l rfl Gd.g_NOTHING))) z0q)
   (z0b (z1k (z0r z2j z1v (dv 1) z0h (z0k _)) (z0e (z0n (z0m z0w z1d (pv 0) z0c (fun _ _=>rfl)))) z0q)
   (z0b (z1k (z0r z2j z1v (dv 1) z0h (z0k _)) (z0e (z0n (y2h z0h (z6d ["inner"] ["pattern","kind"] rfl (show CScopeG (z0f u1c) ["pattern","kind"] ["inner"] _ _ from⟨rfl,by decide +kernel,by decide +kernel,by decide +kernel,by decide +kernel⟩) (z3i (z0m z0w z1d (pv 0) z0c (fun _ _=>rfl))) (fun _ _ _ _ _=>(z2h (i:=0) (by decide) (show List.Nodup (["inner","pattern","kind"]:List Str) from by decide +kernel) rfl (Or.inl rfl))) (fun _ _ _ _ _=>z6u) (fun _ _ _ _ _=>(z1x u7j u5b (z0a (dv 0) (z0a (z1j (z0a z0h (z0a z0h z0d))) z0d)))))))) z0q)
   (z0b (z1k (z0r z2j z1v (dv 1) z0h (z0k _)) (z0e (z0n (y2h z0h (z6d ["inner"] ["pattern","kind"] rfl (show CScopeG (z0f u1c) ["pattern","kind"] ["inner"] _ _ from⟨rfl,by decide +kernel,by decide +kernel,by decide +kernel,by decide +kernel⟩) (z3i (z0m z0w z1d (pv 0) z0c (fun _ _=>rfl))) (fun _ _ _ _ _=>(z2h (i:=0) (by decide) (show List.Nodup (["inner","pattern","kind"]:List Str) from by decide +kernel) rfl (Or.inl rfl))) (fun _ _ _ _ _=>z6u) (fun _ _ _ _ _=>(z1x u7j u5b (z0a (dv 0) (z0a (z1j (z0a z0h z0d)) z0d)))))))) z0q)
   (z0e (z0n (z0l z2l z1h (z1x u7j u5b (z0a (z0m z0w z1d (pv 0) z0c (fun _ _=>rfl)) (z0a (z1j (z0a z0h (z0a z0h z0d))) z0d))) (j0c Gd.d_MARKS rfl Gd.g_MARKS (dv 1) (fun _ _=>rfl)))))))))),?_⟩
  have sz:=z0y;have tl:=z7d p;cases p with
  |none =>
   simp only[patD];walk_at "vd";exact q
  |one s =>
   simp only[patD];walk_at "vd";rw[txt,z2v]at q;exact q
  |row ps =>
   simp only[patD];simp only[dpP,wtP]at hdp hsz;have hl:=z8r ps;have h1:=y6n ps;walk_at "vd";rw[z2a,if_neg (by decide),if_neg (by decide)];refine y6d patD (fun p=>.str (strC (brk (z1z p) (txt p)))) ps (by omega) (fun c hc P hP=>?_) ?_
   ·have d1:=z4w hc;have z1:=z8t hc;walk_at "vd";refine⟨by omega,c,["row","any"],rfl,by omega,by omega,by decide,?_⟩;rw[x1s];exact hP
   refine⟨(txtA ps).map strC,by rw[z9h];simp,y0x (sep:=[32]) (by decide) (by omega),?_⟩;rw[show((Str.ofString " ":Str))=strC [32] by decide,x1k];exact q
  |any ps =>
   simp only[patD];simp only[dpP,wtP]at hdp hsz;have hl:=z8r ps;have h1:=y6k ps;have h2:((txtB ps).map fun x=>x.length+1).sum<=((txtB ps).map fun x=>x.length+3).sum:=by
    clear h1;induction txtB ps with
    |nil=>simp
    |cons x l ih=>simp only[map_cons,sum_cons];omega
   walk_at "vd";rw[z2a,if_neg (by decide),if_neg (by decide),if_neg (by decide)];refine y6d patD (fun p=>.str (strC (brk (z6j p) (txt p)))) ps (by omega) (fun c hc P hP=>?_) ?_
   ·have d1:=z4w hc;have z1:=z8t hc;walk_at "vd";refine⟨by omega,c,["any"],rfl,by omega,by omega,by decide,?_⟩;rw[q5n];exact hP
   refine⟨(txtB ps).map strC,by rw[z8v];simp,y0x (sep:=[32,124,32]) (by decide) (by omega),?_⟩;rw[show((Str.ofString " | ":Str))=strC [32,124,32] by decide,x1k];exact q
  |wrap k p =>
   simp only[dpP,wtP]at hdp hsz;have tl':=z7d p;have bl:=y2q (z1z p) (txt p);have ks:∀s:Str,s = "none" \/ s = "one" \/ s = "row" \/ s = "any"->k.str≠s:=fun s hs=>by rcases hs with rfl|rfl|rfl|rfl<;>cases k<;>decide
   simp only[patD];walk_at "vd";rw[if_neg (ks _ (.inl rfl)),if_neg (ks _ (.inr (.inl rfl))),if_neg (ks _ (.inr (.inr (.inl rfl)))),if_neg (ks _ (.inr (.inr (.inr rfl))))];refine⟨by omega,p,["row","any"],rfl,by omega,by omega,by decide,?_⟩;rw[x1s];walk_at "vd";refine⟨_,_,rfl,q0l k,?_⟩;rw[j6m,z0t,z0t,z4x];exact⟨by simp;omega,q⟩
theorem q5r (a b:Nat):(([a]:List Nat)<[b])↔a<b:=by
 rw[List.cons_lt_cons_iff];constructor
 ·rintro(h|⟨_,h⟩)
  ·exact h
  ·exact absurd h (by simp)
 ·exact .inl
theorem x8c (a b:Nat):leC ⟨#[a]⟩ ⟨#[b]⟩=decide (a<=b):=by
 show(!decide (([b]:List Nat)<[a]))=_;by_cases h:a<=b
 ·rw[decide_eq_true h,decide_eq_false (fun z=>by have:=(q5r b a).mp z;omega)];rfl
 ·rw[decide_eq_false h,decide_eq_true ((q5r b a).mpr (by omega))];rfl
theorem le_a (c:Nat):leC ("a":Str) ⟨#[c]⟩=decide (97<=c):=by
 have e:("a":Str)=⟨#[97]⟩:=by decide
 rw[e,x8c]
theorem le_z (c:Nat):leC ⟨#[c]⟩ ("z":Str)=decide (c<=122):=by
 have e:("z":Str)=⟨#[122]⟩:=by decide
 rw[e,x8c]
def q8a:RD:=fun δ Q=>∃c:Nat,δ=[.fz (.str ⟨#[c]⟩)]/\Q false (.bl (isL c)) [.no]
theorem q5h (u0d:Ent K mg "is_letter" u1d ["sign"] f fd)(T:Zs K mg):FnOk P w K mg base CX0 1 f fd ["sign"] (spD q8a):=by
 refine VL.Fun.dok u0d.F y7s (fun δ Qd h=>?_) (by decide) (fun cdv A outer s H E δ Qd hr h=>?_)
 ·obtain⟨_,rfl,_⟩:=h;rfl
 ·obtain⟨c,rfl,q⟩:=h;refine⟨_,(z0e (z0n (x7d z0h (dv 0) z0h))),?_⟩;walk_at "vd";refine⟨_,_,rfl,rfl,?_⟩;rw[le_a];unfold isL at q;by_cases h:97<=c
  ·rw[decide_eq_true h]at q ⊢;rw[if_pos rfl];refine⟨_,rfl,?_⟩;rw[le_z];simpa using q
  ·rw[decide_eq_false h]at q ⊢;rw[if_neg (by simp)];simpa using q
def q1d:RD:=fun δ Q=>∃s:Str,δ=[.fz (.str s)]/\s.length<=100000/\Q false (.bl (isNm (csS s))) [.no]
theorem x5f {f1:Addr}{fd1:FuncData}(u1a:Ent K mg "is_name" u2s ["text"] f fd)(T:Zs K mg)(u0d:Ent K mg "is_letter" u1d ["sign"] f1 fd1):FnOk P w K mg base CX0 2 f fd ["text"] (spD q1d):=by
 have u4n:=q5h (P:=P) (w:=w) (base:=base) u0d T;refine VL.Fun.dok u1a.F x4c (fun δ Qd h=>?_) (by decide) (fun cdv A outer s H E δ Qd hr h=>?_)
 ·obtain⟨_,rfl,_⟩:=h;rfl
 ·obtain⟨s,rfl,hl,q⟩:=h;refine⟨_,(z0e (z0n (x1r (y5a z8j z7h (dv 0) z0h (z0k _)) (y8n (z3m j2y (y6v rfl) rfl T.z_all boot_all (z0a (z6d ["sign"] ["text"] rfl (show CScopeG (z0f u2s) ["text"] ["sign"] _ _ from⟨rfl,by decide +kernel,by decide +kernel,by decide +kernel,by decide +kernel⟩) (j4s (dv 0)) (fun _ _ _ _ _=>(z2h (i:=0) (by decide) (show List.Nodup (["sign","text"]:List Str) from by decide +kernel) rfl (Or.inl rfl))) (fun _ _ _ _ _=>z6u) (fun _ _ _ _ _=>(z1x u4n u0d (z0a (dv 0) z0d)))) z0d)))))),?_⟩;have sz:=z0y;walk_at "vd";have el:∀c∈csS s,c∈csS s:=fun _ h=>h;by_cases h0:s = ""
  ·rw[decide_eq_true h0,if_neg (by simp)];have:isNm (csS s)=false:=by rw[h0];decide
   rw[this]at q;exact q
  ·rw[decide_eq_false h0,if_pos rfl];have hn:csS s≠[]:=fun z=>h0 (by rw[<-z2v s,z];decide);refine⟨s,rfl,?_⟩;have hs:sgD s=(csS s).map fun c=>D.str ⟨#[c]⟩:=rfl;rw[hs];refine y6d (fun c=>D.str ⟨#[c]⟩) (fun c=>.bl (isL c)) (csS s) (by rw[z1u];omega) (fun c hc P hP=>?_) ?_
   ·walk_at "vd";exact⟨c,rfl,hP⟩
   ·refine⟨(csS s).map isL,by simp,?_⟩;have e:isNm (csS s)=((csS s).map isL).all id:=by
     unfold isNm;rw[decide_eq_true hn,all_map];rfl
    rw[e]at q;exact q
theorem tw_step {p:Nat->Bool}:∀{d:Cs}{k c:Nat},k<=(d.takeWhile p).length->d[k]? = some c->(p c=true->k+1<=(d.takeWhile p).length)/\(p c=false->k=(d.takeWhile p).length)
 | [],k,c,_,e=>by simp at e
 |a::d,0,c,h,e=>by
  simp at e;subst e;rw[takeWhile_cons];refine⟨fun h=>?_,fun h=>?_⟩
  ·rw[if_pos h];simp
  ·rw[if_neg (by simp[h])];rfl
 |a::d,k+1,c,h,e=>by
  rw[takeWhile_cons]at h ⊢;by_cases ha:p a=true
  ·rw[if_pos ha]at h ⊢;have ih:=tw_step (d:=d) (k:=k) (c:=c) (by simpa using h) (by simpa using e);simp only[length_cons];exact⟨fun z=>by have:=ih.1 z;omega,fun z=>by have:=ih.2 z;omega⟩
  ·rw[if_neg ha]at h;simp at h
theorem z2w {α:Type}{xs:List α}{b:Nat}{c:α}(h:xs[b]? = some c):atI xs (b:Int)=some c:=by
 have hb:b<xs.length:=(List.getElem?_eq_some_iff.mp h).1;unfold atI ixN;rw[if_pos (by omega)];have e:xs[b]=c:=Option.some.inj ((getElem?_eq_getElem hb).symm.trans h);simp[hb,e]
noncomputable def y0p (l:Cs)(b:Nat):Nat:=if (l[b]?.map isL).getD false=true then b+1+((l.drop (b+1)).takeWhile isL).length else b+1
def q5b:RD:=fun δ Q=>∃(l:Cs)(b:Nat),δ=[.fz (.str (strC l)),.fz (.int b)]/\b<l.length/\l.length<=100000/\(∀c∈l,c≠34)/\Q false (.int (y0p l b)) [.no,.no]
theorem j1h {f1:Addr}{fd1:FuncData}(u1u:Ent K mg "token_end" u3a ["line","begin"] f fd)(T:Zs K mg)(Gd:Gds K mg w aM aK)(u0d:Ent K mg "is_letter" u1d ["sign"] f1 fd1):FnOk P w K mg base CX0 2 f fd ["line","begin"] (spD q5b):=by
 have u4n:=q5h (P:=P) (w:=w) (base:=base) u0d T;refine VL.Fun.dok u1u.F u4t (fun δ Qd h=>?_) (by decide) (fun cdv A outer s H E δ Qd hr h=>?_)
 ·obtain⟨_,_,rfl,_⟩:=h;rfl
 ·obtain⟨l,b,rfl,hb,hl,h34,q⟩:=h;refine⟨_,(z0b (dq 2 u4t.nd (z0l z1c z1b (dv 1) z0c))
   (z0b (z1k (z0r z2j z1v (z0m z9r z8c (pv 0) (dv 1) (fun _ _=>rfl)) (j5l rfl Gd.g_QUOTE) (z0k _)) (z0b x2c
   (z0e x2c)) z0q)
   (z0b (z6b PassesOwn.never (dt_w (y0c (z6i (z1x u4n u0d (z0a (z0m z9r z8c (pv 0) (dv 1) (fun _ _=>rfl)) z0d))) (y0c (z0r y7o y5x (dv 2) (z1i z6r z2e rfl T.z_len PySem.boot_len (pv 0)) (z0k _)) (z7g (z6i (z1x u4n u0d (z0a (z0m z9r z8c (pv 0) (dv 2) (fun _ _=>rfl)) z0d))))))) (z0e (j3u (i:=2) u4t.nd rfl (Or.inl rfl))))
   (z0e (z0n (dm 2)))))),?_⟩
  have sz:=z0y;walk_at "vd";obtain⟨c,hc⟩:∃c,l[b]? = some c:=⟨_,getElem?_eq_getElem hb⟩;have hcl:(strC l).cps.toList=l:=z5u l;have c34:(⟨#[c]⟩:Str)≠⟨#[34]⟩:=fun z=>h34 c (mem_of_getElem? hc) (by cases z;rfl);refine⟨by rw[z0t];omega,c,by rw[hcl];exact z2w hc,?_⟩;rw[if_neg c34];have et:y0p l b=if isL c=true then b+1+((l.drop (b+1)).takeWhile isL).length else b+1:=by unfold y0p;rw[hc];rfl
  refine⟨[],fun δ=>∃k:Nat,k<=((l.drop (b+1)).takeWhile isL).length/\(isL c=false->k=0)/\δ=[.fz (.str (strC l)),.fz (.int b),.fz (.int ((b+1+k:Nat):Int)),.no],fun δ=>l.length - inAt 2 δ,⟨0,zero_le _,fun _=>rfl,?_⟩,?_⟩
  ·simp[fgt]
  rintro δ ⟨k,hk,hz,rfl⟩;have tl:((l.drop (b+1)).takeWhile isL).length<=(l.drop (b+1)).length:=(takeWhile_sublist _).length_le;rw[length_drop]at tl;walk_at "vd";refine⟨by rw[z0t];omega,c,by rw[hcl];exact z2w hc,c,rfl,?_⟩;walk_at "vd";have fin:y0p l b=b+1+k->Qd false (.int ((b+1+k:Nat):Int)) [.no,.no]:=fun e=>by rw[e]at q;exact q
  cases hL:isL c with
  |false =>
   rw[if_neg (by simp)];have:=hz hL;rw[hL,if_neg (by simp)]at et;exact fin (by omega)
  |true =>
   rw[hL,if_pos rfl]at et;rw[if_pos rfl];refine⟨by rw[z0t];omega,ite2 (fun hlt=>?_) fun hge=>?_⟩
   ·rw[z0t]at hlt;have hlt':b+1+k<l.length:=by exact_mod_cast hlt
    obtain⟨d,hd⟩:∃d,l[b+1+k]? = some d:=⟨_,getElem?_eq_getElem hlt'⟩;have hd2:(l.drop (b+1))[k]? = some d:=by rw[List.getElem?_drop];exact hd
    have st:=tw_step hk hd2;refine⟨by rw[z0t];omega,d,by rw[hcl];exact z2w hd,d,rfl,?_⟩;walk_at "vd";cases hD:isL d with
    |false =>
     rw[if_neg (by simp)];exact fin (by have:=st.2 hD;omega)
    |true =>
     rw[if_pos rfl];refine⟨_,rfl,⟨k+1,st.1 hD,(fun z=>z.elim),?_⟩,?_⟩
     ·simp[fgt];omega
     ·simp[fgt,j6j];omega
   ·rw[z0t]at hge;have hge':l.length<=b+1+k:=by
     have:¬(((b+1+k:Nat):Int)<(l.length:Int)):=hge;omega
    exact fin (by omega)
noncomputable def rawT (s:Cs):List Cs:=z2z s.length s
theorem q1u (c:Nat)(r:Cs):rawT (c::r)=if isL c=true then(c::r.takeWhile isL)::rawT (r.dropWhile isL) else[c]::rawT r:=by
 unfold rawT;rw[length_cons,z3j];have hd:(r.dropWhile isL).length<=r.length:=(dropWhile_sublist _).length_le;rw[z6f r.length (r.dropWhile isL).length (r.dropWhile isL) hd (le_refl _)]
theorem j5h {l:Cs}{b:Nat}(hb:b<l.length):b<y0p l b/\y0p l b<=l.length/\rawT (l.drop b)=((l.drop b).take (y0p l b - b))::rawT (l.drop (y0p l b)):=by
 have e1:l.drop b=l[b]::l.drop (b+1):=drop_eq_getElem_cons hb;have e2:l[b]? = some l[b]:=getElem?_eq_getElem hb;have et:y0p l b=if isL l[b]=true then b+1+((l.drop (b+1)).takeWhile isL).length else b+1:=by unfold y0p;rw[e2];rfl
 have tl:((l.drop (b+1)).takeWhile isL).length<=(l.drop (b+1)).length:=(takeWhile_sublist _).length_le;rw[length_drop]at tl;rw[e1,q1u,et];have ha:(l.drop (b+1)).takeWhile isL++(l.drop (b+1)).dropWhile isL=l.drop (b+1):=List.takeWhile_append_dropWhile;split
 ·refine⟨by omega,by omega,?_⟩;have k1:b+1+((l.drop (b+1)).takeWhile isL).length - b=((l.drop (b+1)).takeWhile isL).length+1:=by omega
  have k2:(l.drop (b+1)).take ((l.drop (b+1)).takeWhile isL).length=(l.drop (b+1)).takeWhile isL:=by
   have:=List.take_left' (l₁:=(l.drop (b+1)).takeWhile isL) (l₂:=(l.drop (b+1)).dropWhile isL) rfl;rwa [ha]at this
  have k3:l.drop (b+1+((l.drop (b+1)).takeWhile isL).length)=(l.drop (b+1)).dropWhile isL:=by
   rw[<-drop_drop];have:=List.drop_left' (l₁:=(l.drop (b+1)).takeWhile isL) (l₂:=(l.drop (b+1)).dropWhile isL) rfl;rwa [ha]at this
  rw[k1,List.take_succ_cons,k2,k3]
 ·refine⟨by omega,by omega,?_⟩;rw[show b+1 - b=1 by omega,List.take_succ_cons,take_zero]
theorem x8g {l:Cs}{b e:Nat}(h:b<=e)(he:e<=l.length):Txt.slice (strC l) (some (b:Int)) (some (e:Int))=strC ((l.drop b).take (e - b)):=by
 have hl:=z0t l;have s1:=StrLaws.sliced_plain (strC l) h (by rw[hl];exact he);have s2:=StrLaws.strSliceIndices_plain (len:=(strC l).length) h (by rw[hl];exact he);unfold Txt.slice;split
 ·rename_i hc;rw[s2]at hc;simp only[length_map,List.length_range,beq_self_eq_true,Bool.true_and,beq_iff_eq,hl]at hc;have b0:b=0:=by omega
  subst b0;rw[drop_zero,take_of_length_le (by omega)]
 ·rw[s1];show strC (((csS (strC l)).drop b).take (e - b))=_;rw[z5u]
noncomputable def isSp:D->Bool
 |.str s=>decide (s = " ")
 |_=>false
theorem q9d (t:Cs):decide (strC t=(" ":Str))=decide (t=[32]):=by
 have e:(" ":Str)=strC [32]:=by decide
 rw[e];by_cases h:t=[32]
 ·rw[decide_eq_true h,decide_eq_true (by rw[h])]
 ·rw[decide_eq_false h,decide_eq_false (fun z=>h (by have:=congrArg csS z;rwa [z5u,z5u]at this))]
def q5d:RD:=fun δ Q=>∃l:Cs,δ=[.fz (.str (strC l))]/\l.length<=100000/\(∀c∈l,c≠34)/\Q true (.lst ((tok l).map fun t=>.str (strC t))) [.no]
theorem q7q {f1 f2:Addr}{fd1 fd2:FuncData}(u2l:Ent K mg "tokens_of" u3b ["line"] f fd)(T:Zs K mg)(Gd:Gds K mg w aM aK)(u1u:Ent K mg "token_end" u3a ["line","begin"] f1 fd1)(u0d:Ent K mg "is_letter" u1d ["sign"] f2 fd2):FnOk P w K mg base CX0 3 f fd ["line"] (spD q5d):=by
 have u6l:=j1h (P:=P) (w:=w) (base:=base) u1u T Gd u0d;refine VL.Fun.dok u2l.F u3m (fun δ Qd h=>?_) (by decide) (fun cdv A outer s H E δ Qd hr h=>?_)
 ·obtain⟨_,rfl,_⟩:=h;rfl
 ·obtain⟨l,rfl,hl,h34,q⟩:=h;refine⟨_,(z0b (dq 1 u3m.nd (z1a z0d))
   (z0b (dq 2 u3m.nd z0c)
   (z0b (z6b PassesOwn.never (z0r y7o y5x (dv 2) (z1i z6r z2e rfl T.z_len PySem.boot_len (pv 0)) (z0k _)) (z0b (dq 3 u3m.nd (z1x u6l u1u (z0a (dv 0) (z0a (dv 2) z0d))))
   (z0b (z5e (y3p z3f PySem.F.slot_list_append PySem.F.type_list_append z1m (pv 1) (z0a (z0z (dv 0) (z0o (dv 2)) (z0o (dv 3))) z0d)))
   (z0e (dq 2 u3m.nd (dv 3))))))
   (z0e (z0n (z6d ["token"] ["line","found","begin","end"] rfl (show CScopeG (z0f u3b) ["line","found","begin","end"] ["token"] _ _ from⟨rfl,by decide +kernel,by decide +kernel,by decide +kernel,by decide +kernel⟩) (z3i (dv 1)) (fun _ _ _ _ _=>(z2h (i:=0) (by decide) (show List.Nodup (["token","line","found","begin","end"]:List Str) from by decide +kernel) rfl (Or.inl rfl))) (fun _ _ _ _ _=>(q7k (z0r z8j z7h (dv 0) z0h (z0k _)))) (fun _ _ _ _ _=>(dv 0)))))))),?_⟩
  have sz:=z0y;have hcl:(strC l).cps.toList=l:=z5u l;walk_at "vd";refine⟨by omega,[3],fun δ=>∃(b:Nat)(ts:List Cs),b<=l.length/\ts.length<=b/\rawT l=ts++rawT (l.drop b)/\δ=[.fz (.str (strC l)),.ob false (.lst (ts.map fun t=>.str (strC t))),.fz (.int b),.no],fun δ=>l.length - inAt 2 δ,⟨0,[],zero_le _,le_refl _,rfl,?_⟩,?_⟩
  ·simp[fgt]
  rintro δ ⟨b,ts,hb,htl,hr',rfl⟩;walk_at "vd";refine⟨by rw[z0t];omega,ite2 (fun hlt=>?_) fun hge=>?_⟩
  ·rw[z0t]at hlt;have hlt':b<l.length:=by exact_mod_cast hlt
   obtain⟨r1,r2,r3⟩:=j5h hlt';refine⟨l,b,rfl,hlt',hl,h34,?_⟩;walk_at "vd";rw[x8g (by omega) r2];refine⟨by rw[z0t];omega,by simp;omega,⟨y0p l b,ts++[(l.drop b).take (y0p l b - b)],r2,by simp;omega,by rw[hr',r3];simp,by simp⟩,by omega⟩
  ·rw[z0t]at hge;have hbe:b=l.length:=by
    have:¬((b:Int)<(l.length:Int)):=hge;omega
   subst hbe;rw[drop_length,show rawT []=[] from rfl,append_nil]at hr';refine j2t (fun d=>!isSp d) id (by simp;omega) (fun d hd P hP=>?_) (fun d hd hn P hP=>?_) ?_
   ·obtain⟨t,ht,rfl⟩:=mem_map.mp hd;walk_at "vd";exact hP
   ·walk_at "vd";exact hP
   ·have e:((ts.map fun t=>D.str (strC t)).filter fun d=>!isSp d).map id=(tok l).map fun t=>.str (strC t):=by
     have e1:tok l=ts.filter fun t=>decide (t≠[32]):=by rw[<-hr'];rfl
     rw[e1,List.map_id,List.filter_map];refine congrArg _ (List.filter_congr fun t _=>?_);show(!decide (strC t=(" ":Str)))=_;rw[q9d];by_cases h:t=[32]<;>simp[h]
    rw[e];exact q
noncomputable def optP:Option Pat->D
 |none=>.non
 |some p=>patD p
theorem j1d (o:Option Pat):optP o=.non \/ ∃xs,optP o=.tup xs:=by
 cases o with
 |none=>exact .inl rfl
 |some p=>cases p<;>exact .inr ⟨_,rfl⟩
noncomputable def mkK:Bool->List Pat->Pat
 |true=>.row
 |false=>.any
noncomputable def mkN:Bool->Str
 |true=>"row"
 |false=>"any"
theorem y5f:∀rows:Rws,(rows.map fun r=>gath .row r).any isNone=(z7b rows).isNone
 | []=>rfl
 |r::rows=>by
  rw[map_cons,any_cons,y5f rows,z7b];cases gath .row r with
  |none=>rfl
  |some p=>cases z7b rows<;>rfl
theorem y5n:∀{rows:Rws}{ps:List Pat},z7b rows=some ps->rows.map (fun r=>gath .row r)=ps.map some
 | [],ps,h=>by cases h;rfl
 |r::rows,ps,h=>by
  rw[z7b]at h;cases h1:gath .row r with
  |none=>rw[h1]at h;cases h
  |some p =>
   rw[h1]at h;cases h2:z7b rows with
   |none=>rw[h2]at h;cases h
   |some qs =>
    rw[h2]at h;cases h;rw[map_cons,h1,y5n h2];rfl
def q3s:RD:=fun δ Q=>∃(b:Bool)(ps:List Pat),δ=[.fz (.str (mkN b)),.fz (.lst (ps.map patD))]/\ps.length<=100000/\Q false (optP (gath (mkK b) ps)) [.no,.no]
theorem j0n (u0t:Ent K mg "gathered" u2o ["kind","patterns"] f fd)(T:Zs K mg):FnOk P w K mg base CX0 1 f fd ["kind","patterns"] (spD q3s):=by
 refine VL.Fun.dok u0t.F x0p (fun δ Qd h=>?_) (by decide) (fun cdv A outer s H E δ Qd hr h=>?_)
 ·obtain⟨_,_,rfl,_⟩:=h;rfl
 ·obtain⟨b,ps,rfl,hl,q⟩:=h;have hu:=z4s hr;refine⟨_,(z0b (z1k (z0r y7o y5x (z1i z4c z1e rfl T.z_len PySem.boot_len (pv 1)) z0c (z0k _)) (z0e (z0n (q7r (x8 (pv 1)) (z0m z2f z1t (pv 1) z0c (fun _ _=>rfl)) z4a))) z0q)
   (z0e (z0n (z1j (z0a (dv 0) (z0a (dv 1) z0d)))))),?_⟩
  have sz:=z0y;walk_at "vd"
  match ps,hl,q with
  | [],hl,q =>
   walk_at "vd";exact q
  | [p],hl,q =>
   walk_at "vd";rw[if_pos (by decide)];exact q
  |p::p' :: r,hl,q =>
   rw[if_neg (by simp;omega)];refine⟨by omega,?_⟩;have e:patD (mkK b (p::p' :: r))=.tup [.str (mkN b),.lst ((p::p' :: r).map patD)]:=by
    cases b<;>simp only[mkK,mkN,patD,z2a]
   rw[gath,optP,e]at q;exact q
def x5o:RD:=fun δ Q=>∃rows:Rws,δ=[.fz (.lst (rows.map fun r=>.lst (r.map patD)))]/\rows.length<=100000/\(∀r∈rows,r.length<=100000)/\Q false (optP (z5o rows)) [.no]
theorem x7n {f1:Addr}{fd1:FuncData}(u2g:Ent K mg "folded" u4a ["rows"] f fd)(T:Zs K mg)(u0t:Ent K mg "gathered" u2o ["kind","patterns"] f1 fd1):FnOk P w K mg base CX0 2 f fd ["rows"] (spD x5o):=by
 have u5y:=j0n (P:=P) (w:=w) (base:=base) u0t T;refine VL.Fun.dok u2g.F u6g (fun δ Qd h=>?_) (by decide) (fun cdv A outer s H E δ Qd hr h=>?_)
 ·obtain⟨_,rfl,_⟩:=h;rfl
 ·obtain⟨rows,rfl,hl,hr2,q⟩:=h;have hu:=z4s hr;refine⟨_,(z0b (dq 1 u6g.nd (z6d ["patterns"] ["rows",""] rfl (show CScopeG (z0f u4a) ["rows","patterns"] ["patterns"] _ _ from⟨rfl,by decide +kernel,by decide +kernel,by decide +kernel,by decide +kernel⟩) (z3i (dv 0)) (fun _ _ _ _ _=>(z2h (i:=0) (by decide) (show List.Nodup (["patterns","rows",""]:List Str) from by decide +kernel) rfl (Or.inl rfl))) (fun _ _ _ _ _=>z6u) (fun _ _ _ _ _=>(z1x u5y u0t (z0a z0h (z0a (dv 0) z0d))))))
   (z0e (z0n (q7r (y2k j5d (x8u hu) z4a (pv 1) rfl) z4a (z1x u5y u0t (z0a z0h (z0a (dv 1) z0d))))))),?_⟩
  have sz:=z0y;walk_at "vd";refine y6d (fun r:List Pat=>D.lst (r.map patD)) (fun r=>optP (gath .row r)) rows (by omega) (fun r hr3 P hP=>?_) ?_
  ·walk_at "vd";exact⟨true,r,rfl,hr2 r hr3,hP⟩
  walk_at "vd";refine⟨_,rfl,rfl,fun d hd=>?_,?_⟩
  ·obtain⟨r,_,rfl⟩:=mem_map.mp hd;exact j1d _
  have an:((rows.map fun r=>optP (gath .row r)).any isND)=(z7b rows).isNone:=by
   rw[<-y5f,any_map,any_map];refine congrArg (rows.any ·) (funext fun r=>?_);show isND (optP (gath .row r))=(gath .row r).isNone;cases gath .row r with
   |none=>rfl
   |some p=>cases p<;>rfl
  walk_at "vd";rw[an];cases e:z7b rows with
  |none =>
   rw[if_pos (by simp)];rw[z5o,e]at q;exact q
  |some ps =>
   rw[if_neg (by simp)];have e2:=y5n e;have e3:(rows.map fun r=>optP (gath .row r))=ps.map patD:=by
    have:=congrArg (List.map optP) e2;rw[map_map,map_map]at this;exact this
   rw[z5o,e,bind_some]at q;have e4:=congrArg List.length e2;simp at e4;refine⟨false,ps,by rw[e3];rfl,by omega,q⟩
def RowAt (F H:Hp)(a:Addr)(r:List Pat):Prop:=∃vs,H a=some (.lst vs)/\Reps F (r.map patD) vs
structure Grp (F H:Hp)(q:Addr×List Addr)(rows:Rws):Prop where
 lst:H q.1=some (.lst (q.2.map .ref))
 rows:Paired (RowAt F H) q.2 rows
noncomputable def adrG (q:Addr×List Addr):List Addr:=q.1::q.2
def NWs (F F' H0:Hp):Prop:=∀a o,F' a=some o->F a=none->H0 a=none
theorem NWs.trans {F F' F'' H0:Hp}(h1:NWs F F' H0)(h2:NWs F' F'' H0):NWs F F'' H0:=fun a o e n=>by
 cases e':F' a with
 |none=>exact h2 a o e e'
 |some o'=>exact h1 a o' e' n
theorem NWs.refl (F H0:Hp):NWs F F H0:=fun a o e n=>by rw[n]at e;cases e
structure GS (H0 F H:Hp)(ga:Addr)(gs:List (Addr×List Addr))(G:List Rws):Prop where
 top:H ga=some (.lst (gs.map fun q=>.ref q.1))
 grp:Paired (Grp F H) gs G
 nd:(ga::gs.flatMap adrG).Nodup
 fr:∀a∈ga::gs.flatMap adrG,F a=none/\H0 a=none
 sub:Same F H
theorem RowAt.mono {F F' H H':Hp}{a:Addr}{r:List Pat}(h:RowAt F H a r)(s:Same F F')(e:∀o,H a=some o->H' a=some o):RowAt F' H' a r:=by
 obtain⟨vs,h1,h2⟩:=h;exact⟨vs,e _ h1,Reps.mono s _ _ h2⟩
theorem z3p {α β:Type}{R S:α->β->Prop}:∀{xs:List α}{ys:List β},Paired R xs ys->(∀x∈xs,∀y,R x y->S x y)->Paired S xs ys
 |_,_,.nil,_=>.nil
 |_,_,.cons r t,f=>.cons (f _ mem_cons_self _ r) (z3p t fun x hx=>f x (mem_cons_of_mem _ hx))
theorem Grp.mono {F F' H H':Hp}{q:Addr×List Addr}{rows:Rws}(h:Grp F H q rows)(s:Same F F')(e:∀a∈adrG q,∀o,H a=some o->H' a=some o):Grp F' H' q rows :=
 ⟨e _ mem_cons_self _ h.lst,z3p h.rows fun a ha r hr=>hr.mono s (e a (mem_cons_of_mem _ ha))⟩
theorem GS.mono {H0 F F' H H':Hp}{ga:Addr}{gs:List (Addr×List Addr)}{G:List Rws}(h:GS H0 F H ga gs G)(s:Same F F')(s':Same F' H')(n:∀a∈ga::gs.flatMap adrG,F' a=none)(e:∀a∈ga::gs.flatMap adrG,∀o,H a=some o->H' a=some o):GS H0 F' H' ga gs G :=
 ⟨e _ mem_cons_self _ h.top,z3p h.grp fun q hq rows hr=>hr.mono s fun a ha=>e a (mem_cons_of_mem _ (mem_flatMap.mpr ⟨q,hq,ha⟩)),h.nd,fun a ha=>⟨n a ha,(h.fr a ha).2⟩,s'⟩
theorem z4z {α β:Type}{R:α->β->Prop}:∀{xs:List α}{ys:List β}{x:α}{y:β},Paired R xs ys->R x y->Paired R (xs++[x]) (ys++[y])
 |_,_,_,_,.nil,h=>.cons h .nil
 |_,_,_,_,.cons r t,h=>.cons r (z4z t h)
theorem z2d {α β:Type}{R:α->β->Prop}:∀{xs:List α}{ys:List β}{y:β},Paired R xs (ys++[y])->∃xs' x,xs=xs'++[x]/\Paired R xs' ys/\R x y
 |_,[],y,.cons r .nil=>⟨[],_,rfl,.nil,r⟩
 |x::xs,z::ys,y,.cons r t=>by
  obtain⟨xs',x',rfl,h1,h2⟩:=z2d t;exact⟨x::xs',x',rfl,.cons r h1,h2⟩
theorem GS.setRow {H0 F H:Hp}{ga:Addr}{gs:List (Addr×List Addr)}{g ra:Addr}{ras:List Addr}{G:List Rws}{rows:Rws}{r r':List Pat}{vs:List V}(h:GS H0 F H ga (gs++[(g,ras++[ra])]) (G++[rows++[r]]))(rp:Reps F (r'.map patD) vs) :
  GS H0 F (upd H ra (.lst vs)) ga (gs++[(g,ras++[ra])]) (G++[rows++[r']]):=by
 have nd:=h.nd;have hra:ra∈ga::(gs++[(g,ras++[ra])]).flatMap adrG:=by simp[adrG]
 have fra:=(h.fr ra hra).1;have ne:∀a,a∈ga::gs.flatMap adrG++g::ras->a≠ra:=by
  intro a ha z;subst z;have nd2:((ga::gs.flatMap adrG++g::ras)++[a]).Nodup:=by simpa[adrG,flatMap_append] using nd
  rw[nodup_append]at nd2;exact nd2.2.2 a ha a (by simp) rfl
 have kp:∀a,a≠ra->∀o,H a=some o->upd H ra (.lst vs) a=some o:=fun a n o e=>by rw[z0j n];exact e
 obtain⟨gs',q,e1,p1,p2⟩:=z2d h.grp;obtain⟨rfl,e3⟩:=List.append_inj' e1 rfl;cases e3;obtain⟨ras',a',e4,p3,p4⟩:=z2d p2.rows;obtain⟨rfl,e5⟩:=List.append_inj' e4 rfl;cases e5;refine⟨kp _ (ne _ (by simp)) _ h.top,z4z (z3p p1 fun q hq rows hr=>hr.mono (Same.refl _) fun a ha=>kp a (ne a ?_)) ⟨kp _ (ne _ (by simp)) _ p2.lst,z4z (z3p p3 fun a ha r hr=>hr.mono (Same.refl _) (kp a (ne a (by simp[ha])))) ⟨vs,z0g,rp⟩⟩,nd,h.fr,h.sub.upd fra⟩;exact mem_append_left _ (mem_cons_of_mem _ (mem_flatMap.mpr ⟨q,hq,ha⟩))
theorem GS.at {H0 F H:Hp}{ga:Addr}{gs:List (Addr×List Addr)}{G:List Rws}(h:GS H0 F H ga gs G):∀a∈ga::gs.flatMap adrG,∃o,H a=some o:=by
 intro a ha;rcases mem_cons.mp ha with rfl|ha
 ·exact⟨_,h.top⟩
 ·obtain⟨q,hq,haq⟩:=mem_flatMap.mp ha;have key:∀{gs:List (Addr×List Addr)}{G:List Rws},Paired (Grp F H) gs G->q∈gs->∃rows,Grp F H q rows:=by
   intro gs G hp hq;induction hp with
   |nil=>cases hq
   |cons r t ih =>
    rcases mem_cons.mp hq with rfl|hq
    ·exact⟨_,r⟩
    ·exact ih hq
  obtain⟨rows,hg⟩:=key h.grp hq;rcases mem_cons.mp haq with rfl|har
  ·exact⟨_,hg.lst⟩
  ·have key2:∀{as:List Addr}{rows:Rws},Paired (RowAt F H) as rows->a∈as->∃o,H a=some o:=by
    intro as rows hp ha;induction hp with
    |nil=>cases ha
    |cons r t ih =>
     rcases mem_cons.mp ha with rfl|ha
     ·obtain⟨vs,h1,_⟩:=r;exact⟨_,h1⟩
     ·exact ih ha
   exact key2 hg.rows har
theorem GS.pushRow {H0 F H:Hp}{ga:Addr}{gs:List (Addr×List Addr)}{g p:Addr}{ras:List Addr}{G:List Rws}{rows:Rws}(h:GS H0 F H ga (gs++[(g,ras)]) (G++[rows]))(hp:H p=none)(h0:H0 p=none) :
  GS H0 F (upd (upd H p (.lst [])) g (.lst (ras.map .ref++[.ref p]))) ga (gs++[(g,ras++[p])]) (G++[rows++[[]]]):=by
 have nd:=h.nd;have np:∀a∈ga::(gs++[(g,ras)]).flatMap adrG,a≠p:=fun a ha z=>by
  obtain⟨o,e⟩:=h.at a ha;rw[z,hp]at e;cases e
 have eq1:ga::(gs++[(g,ras)]).flatMap adrG=(ga::gs.flatMap adrG)++g::ras:=by simp[adrG,flatMap_append]
 have eq2:ga::(gs++[(g,ras++[p])]).flatMap adrG=((ga::gs.flatMap adrG)++g::ras)++[p]:=by simp[adrG,flatMap_append]
 rw[eq1]at nd np;have ng:∀a,a∈(ga::gs.flatMap adrG)++ras->a≠g:=by
  intro a ha z;subst z;rw[nodup_append]at nd;rcases mem_append.mp ha with ha|ha
  ·exact nd.2.2 a ha a mem_cons_self rfl
  ·exact(nodup_cons.mp nd.2.1).1 ha
 have kp:∀a,a≠g->a≠p->∀o,H a=some o->upd (upd H p (.lst [])) g (.lst (ras.map .ref++[.ref p])) a=some o:=fun a n1 n2 o e=>by rw[z0j n1,z0j n2];exact e
 have gp:p≠g:=fun z=>np g (by simp) z.symm;obtain⟨gs',q,e1,p1,p2⟩:=z2d h.grp;obtain⟨rfl,e3⟩:=List.append_inj' e1 rfl;cases e3;have fp:F p=none:=by
  cases e:F p with
  |none=>rfl
  |some o=>have:=h.sub _ _ e;rw[hp]at this;cases this
 have fg:F g=none:=(h.fr g (by rw[eq1];simp)).1;refine⟨?_,z4z (z3p p1 fun q hq rows hr=>hr.mono (Same.refl _) fun a ha=>?_) ⟨?_,z4z (z3p p2.rows fun a ha r hr=>hr.mono (Same.refl _) (kp a (ng a (mem_append_right _ ha)) (np a (by simp[ha])))) ⟨[],?_,rfl⟩⟩,?_,?_,(h.sub.upd fp).upd fg⟩
 ·have:=kp ga (ng ga (by simp)) (np ga (by simp)) _ h.top;rw[this];simp
 ·have hm:a∈gs.flatMap adrG:=mem_flatMap.mpr ⟨q,hq,ha⟩;exact kp a (ng a (by simp[hm])) (np a (by simp[hm]))
 ·rw[z0g];simp
 ·rw[z0j gp];exact z0g
 ·rw[eq2,nodup_append];exact⟨nd,by simp,fun a ha b hb=>by rw[mem_singleton.mp hb];exact np a ha⟩
 ·intro a ha;rw[eq2]at ha;rcases mem_append.mp ha with ha|ha
  ·exact h.fr a (by rw[eq1];exact ha)
  ·rw[mem_singleton.mp ha];exact⟨fp,h0⟩
theorem GS.pushG {H0 F H:Hp}{ga:Addr}{gs:List (Addr×List Addr)}{p1 p2:Addr}{G:List Rws}(h:GS H0 F H ga gs G)(h1:H p1=none)(h2:upd H p1 (.lst []) p2=none)(z1:H0 p1=none)(z2:H0 p2=none) :
  GS H0 F (upd (upd (upd H p1 (.lst [])) p2 (.lst [.ref p1])) ga (.lst ((gs.map fun q=>V.ref q.1)++[.ref p2]))) ga (gs++[(p2,[p1])]) (G++[[[]]]):=by
 have n21:p2≠p1:=fun z=>by rw[z,z0g]at h2;cases h2
 have h2':H p2=none:=by rw[z0j n21]at h2;exact h2
 have nn:∀p,H p=none->∀a∈ga::gs.flatMap adrG,a≠p:=fun p hp a ha z=>by
  obtain⟨o,e⟩:=h.at a ha;rw[z,hp]at e;cases e
 have np1:=nn p1 h1;have np2:=nn p2 h2';have nf:∀p,H p=none->F p=none:=fun p hp=>by
  cases e:F p with
  |none=>rfl
  |some o=>have:=h.sub _ _ e;rw[hp]at this;cases this
 have nga:∀a∈gs.flatMap adrG,a≠ga:=fun a ha z=>(nodup_cons.mp h.nd).1 (z ▸ ha);have eq2:ga::(gs++[(p2,[p1])]).flatMap adrG=(ga::gs.flatMap adrG)++[p2,p1]:=by simp[adrG,flatMap_append]
 have g1:ga≠p1:=np1 ga mem_cons_self;have g2:ga≠p2:=np2 ga mem_cons_self;refine⟨by rw[z0g];simp,z4z (z3p h.grp fun q hq rows hr=>hr.mono (Same.refl _) fun a ha o e=>?_) ⟨?_,.cons ⟨[],?_,rfl⟩ .nil⟩,?_,?_,((h.sub.upd (nf _ h1)).upd (nf _ h2')).upd (h.fr ga mem_cons_self).1⟩
 ·have hm:a∈gs.flatMap adrG:=mem_flatMap.mpr ⟨q,hq,ha⟩;rw[z0j (nga a hm),z0j (np2 a (mem_cons_of_mem _ hm)),z0j (np1 a (mem_cons_of_mem _ hm))];exact e
 ·show upd _ ga _ p2=_;rw[z0j g2.symm,z0g];rfl
 ·rw[z0j g1.symm,z0j n21.symm,z0g]
 ·rw[eq2,nodup_append];refine⟨h.nd,by simp[n21],fun a ha b hb=>?_⟩;simp only[mem_cons,not_mem_nil,or_false]at hb;rcases hb with rfl|rfl
  ·exact np2 a ha
  ·exact np1 a ha
 ·intro a ha;rw[eq2]at ha;rcases mem_append.mp ha with ha|ha
  ·exact h.fr a ha
  ·simp only[mem_cons,not_mem_nil,or_false]at ha;rcases ha with rfl|rfl
   ·exact⟨nf _ h2',z2⟩
   ·exact⟨nf _ h1,z1⟩
theorem GS.popG {H0 F H:Hp}{ga:Addr}{gs:List (Addr×List Addr)}{g:Addr}{ras:List Addr}{G:List Rws}{rows:Rws}(h:GS H0 F H ga (gs++[(g,ras)]) (G++[rows])) :
  ∃F',Same F F'/\GS H0 F' (upd H ga (.lst (gs.map fun q=>V.ref q.1))) ga gs G/\Rep F' (.lst (rows.map fun r=>.lst (r.map patD))) (.ref g)/\NWs F F' H0:=by
 have nd:=h.nd;have eq1:ga::(gs++[(g,ras)]).flatMap adrG=(ga::gs.flatMap adrG)++g::ras:=by simp[adrG,flatMap_append]
 rw[eq1]at nd;have nd':=nodup_append.mp nd;have fr:∀a∈g::ras,F a=none:=fun a ha=>(h.fr a (by rw[eq1];exact mem_append_right _ ha)).1;have ap:∀a∈ga::gs.flatMap adrG,a∉g::ras:=fun a ha hb=>nd'.2.2 a ha a hb rfl;let F':Hp:=fun a=>if a∈g::ras then H a else F a
 have fin:∀a,a∈g::ras->F' a=H a:=fun a ha=>if_pos ha;have fout:∀a,a∉g::ras->F' a=F a:=fun a ha=>if_neg ha;have s1:Same F F':=fun a o e=>by
  have:a∉g::ras:=fun z=>by rw[fr a z]at e;cases e
  rw[fout a this];exact e
 have s2:Same F' H:=fun a o e=>by
  by_cases z:a∈g::ras
  ·rw[fin a z]at e;exact e
  ·rw[fout a z]at e;exact h.sub _ _ e
 obtain⟨gs',q,e1,p1,p2⟩:=z2d h.grp;obtain⟨rfl,e3⟩:=List.append_inj' e1 rfl;cases e3;have fga:F' ga=none:=by rw[fout ga (ap ga mem_cons_self)];exact(h.fr ga mem_cons_self).1
 have nga:∀a∈gs.flatMap adrG,a≠ga:=fun a ha z=>(nodup_cons.mp nd'.1).1 (z ▸ ha);refine⟨F',s1,⟨z0g,z3p p1 fun q hq rows hr=>hr.mono s1 fun a ha o e=>?_,nd'.1,fun a ha=>⟨?_,(h.fr a (by rw[eq1];exact mem_append_left _ ha)).2⟩,s2.upd fga⟩,⟨g,ras.map .ref,rfl,?_,?_⟩,fun a o e n=>?_⟩
 ·rw[z0j (nga a (mem_flatMap.mpr ⟨q,hq,ha⟩))];exact e
 ·rw[fout a (ap a ha)];exact(h.fr a (by rw[eq1];exact mem_append_left _ ha)).1
 ·rw[fin g mem_cons_self];exact p2.lst
 ·have key:∀{as:List Addr}{rows:Rws},Paired (RowAt F H) as rows->(∀a∈as,a∈g::ras)->Reps F' (rows.map fun r=>D.lst (r.map patD)) (as.map V.ref):=by
   intro as rows hp;induction hp with
   |nil=>intro _;rfl
   | @cons a r as rows hr t ih =>
    intro hm;obtain⟨vs,h1,h2⟩:=hr;exact⟨.ref a,as.map V.ref,rfl,⟨a,vs,rfl,by rw[fin a (hm a mem_cons_self)];exact h1,Reps.mono s1 _ _ h2⟩,ih fun b hb=>hm b (mem_cons_of_mem _ hb)⟩
  exact key p2.rows fun a ha=>mem_cons_of_mem _ ha
 ·by_cases z:a∈g::ras
  ·exact(h.fr a (by rw[eq1];exact mem_append_right _ z)).2
  ·rw[fout a z,n]at e;cases e
end
local macro_rules|`(tactic| walk_at "rd")=>do
 let v<-("L2.start z7i z6z rIsX tTry z6h z5h tSeq y0r tAsg z7w tVar tC tOp tUn rI0 rU y0s tIfS tRet y0t z9x tCB z8y tNil tBM tNot tAnd tOr tB tTup tLst tSl z5d j0m tIf rEq rNe scSS scII z4r rPop j8 gTup j0k gNil tLM tLM0 tDIn z5b y1w z6y z2y z0g and_imp ne_eq atI2 HO.lst.injEq HO.tup.injEq z8d z7z Int.toNat_natCast z8b List.map_cons List.map_nil List.length_cons List.length_nil Nat.reduceAdd Nat.reduceSub List.replicate_succ List.replicate_zero List.cons_append List.nil_append List.append_nil List.getElem?_cons_zero List.getElem?_cons_succ List.set_cons_zero List.set_cons_succ Option.some.injEq V.int.injEq V.str.injEq V.ref.injEq V.bl.injEq V.ty.injEq List.cons.injEq exists_eq_left' exists_eq_left exists_eq' and_true true_and and_assoc exists_and_left reduceCtorEq false_and exists_false false_or or_false decide_eq_true_eq if_true if_false Bool.true_eq_false Bool.false_eq_true Bool.not_true Bool.not_false Bool.not_eq_eq_eq_not j0o y2p j0i x5h q6b".splitOn " ").mapM fun n=>`(Lean.Parser.Tactic.simpLemma| $(Lean.mkIdent n.toName):term)
 `(tactic|((try dsimp only[$(v.toArray),*]);(try simp only[$(v.toArray),*])))
local macro_rules|`(tactic| walk_at "rs")=>do
 let v<-("L2.start z7i z6z rIsX tTry z6h z5h tSeq y0r tAsg z7w tVar tC tOp tUn rI0 rU y0s tRet y0t z9x tCB z8y tNil tBM tNot tAnd tOr tB tTup tLst tSl z5d j0m tIf rEq rNe scSS scII z4r rPop j8 gTup j0k gNil tLM tLM0 tDIn z5b y1w z6y z2y z0g and_imp ne_eq atI2 HO.lst.injEq HO.tup.injEq z8d z7z Int.toNat_natCast z8b List.map_cons List.map_nil List.length_cons List.length_nil Nat.reduceAdd Nat.reduceSub List.replicate_succ List.replicate_zero List.cons_append List.nil_append List.append_nil List.getElem?_cons_zero List.getElem?_cons_succ List.set_cons_zero List.set_cons_succ Option.some.injEq V.int.injEq V.str.injEq V.ref.injEq V.bl.injEq V.ty.injEq List.cons.injEq exists_eq_left' exists_eq_left exists_eq' and_true true_and and_assoc exists_and_left reduceCtorEq false_and exists_false false_or or_false decide_eq_true_eq if_true if_false Bool.true_eq_false Bool.false_eq_true Bool.not_true Bool.not_false Bool.not_eq_eq_eq_not j0o y2p j0i x5h q6b".splitOn " ").mapM fun n=>`(Lean.Parser.Tactic.simpLemma| $(Lean.mkIdent n.toName):term)
 `(tactic|((try dsimp only[$(v.toArray),*]);(try simp only[$(v.toArray),*])))
theorem z5f {R:RD}{vs:List V}{ds:List D}{H:Hp}{Q:VK}{E:XK}{Qd:Bool->D->List Slot->Prop}(r:Reps H ds vs)(h:R (ds.map .fz) Qd)(k:∀b d δ' v H',Same H H'->Qd b d δ'->Rep H' d v->Q v H'):spD R vs H Q E:=by
 refine⟨_,[],H,_,Qd,fun p a e=>by simp at e,y8y (Same.refl _) r,h,fun b d v δ' F' H' I q=>?_⟩;obtain⟨F2,s,I2,rv⟩:=I.fr;exact k b d δ' v H' I.base q (Rep.mono I2.sub _ _ rv)
theorem j0d {R:RD}{vs:List V}{ds:List D}{F H:Hp}{Q:VK}{E:XK}{Qd:Bool->D->List Slot->Prop}(s:Same F H)(r:Reps F ds vs)(h:R (ds.map .fz) Qd)(k:∀b d δ' v F' H',Same H H'->Same F F'->Same F' H'->(∀a o,F' a=some o->F a=none->H a=none)->Qd b d δ'->Rep F' d v->Q v H'):spD R vs H Q E:=by
 refine⟨_,[],F,_,Qd,fun p a e=>by simp at e,y8y s r,h,fun b d v δ' F' H' I q=>?_⟩;obtain⟨F2,s2,I2,rv⟩:=I.fr;exact k b d δ' v F2 H' I.base I2.ext I2.sub I2.new q rv
theorem hu1 {n:Nat}(h:n+100<cLine):n+1<cLine:=by omega
def OutG (adr:List Addr)(H H':Hp):Prop:=∀a o,H a=some o->a∉adr->H' a=some o
section
variable {P:Program}{w:World}{K:W.Frag}{mg:Str->Option Value}{base:Heap}{f:Addr}{fd:FuncData}{aM aK:Addr}
def x2r:Sp:=fun vs H Q _=>∃(H0 F:Hp)(ga:Addr)(gs:List (Addr×List Addr))(k:List Rws)(rows:Rws),vs=[.ref ga]/\GS H0 F H ga gs (k.reverse++[rows])/\Same H0 H/\rows.length<=100000/\(∀r∈rows,r.length<=100000)/\(∀r∈k,r≠[]/\∀x∈r,x.length<=100000) /\
 ∀(b:Bool)(H':Hp),OutG (ga::gs.flatMap adrG) H H'->(match z5o rows,k with
  |some p,r0::k'=>b=true/\∃F' gs',Same F F'/\NWs F F' H0/\GS H0 F' H' ga gs' (k'.reverse++[addL r0 p])
  |_,_=>b=false)->Q (.bl b) H'
theorem q1m {f1 f2:Addr}{fd1 fd2:FuncData}(u0r:Ent K mg "close_bracket" u1o ["groups"] f fd)(T:Zs K mg)(u2g:Ent K mg "folded" u4a ["rows"] f1 fd1)(u0t:Ent K mg "gathered" u2o ["kind","patterns"] f2 fd2):FnOk P w K mg base CX0 3 f fd ["groups"] x2r:=by
 have u6a:=x7n (P:=P) (w:=w) (base:=base) u2g T u0t;refine u0r.F.ok u4r (fun vs H Q E h=>?_) (fun cdv A outer s H vs Q E hr h=>?_)
 ·obtain⟨_,_,_,_,_,_,rfl,_⟩:=h;rfl
 ·obtain⟨H0,F,ga,gs,k,rows,rfl,h,s0,hl,hrl,hne,q⟩:=h;have hu:=z4s hr;refine⟨_,(z0u (z2t (i:=1) u4r.nd rfl (Or.inl rfl) (z6s u6a u2g (z0i (q0a slot_list_pop type_list_pop x4z (pv 0)) z0p)))
   (z0u (z5g (PW.pt (x6v (z2b z9y (pv 1) z6v (z0k _)) (y7c (y5m (y1e (pv 0) (fun _=>rfl)))))) (z0v (z4u y7i)) z2i)
   (z0u (z4q (y4l PySem.F.slot_list_append PySem.F.type_list_append z1m (z5r z1t (z5r z1t (pv 0) (x3v y5h z2q) (fun _ _=>rfl)) (x3v y5h z2q) (fun _ _=>rfl)) (z0i (pv 1) z0p)))
   (z0v (z4u y7i))))),?_⟩
  have sz:=z0y;walk_at "rs";obtain⟨gs,⟨g,ras⟩,rfl,p1,p2⟩:=z2d h.grp;have ht:=h.top;refine⟨⟨_,ht⟩,_,ht,.ref g,by simp,?_⟩;obtain⟨F',s1,G1,rp,nw1⟩:=h.popG;have ed:((gs++[(g,ras)]).map fun q=>V.ref q.1).dropLast=gs.map fun q=>V.ref q.1:=by simp
  rw[ed];have out1:OutG (ga::(gs++[(g,ras)]).flatMap adrG) H (upd H ga (.lst (gs.map fun q=>V.ref q.1))):=fun a o e n=>by
   have na:a≠ga:=fun z=>n (by rw[z];exact mem_cons_self);rw[z0j na];exact e
  refine j0d (ds:=[.lst (rows.map fun r=>.lst (r.map patD))]) (Qd:=fun _ d _=>d=optP (z5o rows)) G1.sub ⟨.ref g,[],rfl,rp,rfl⟩ ⟨rows,rfl,hl,hrl,rfl⟩ fun b d δ' v F2 H2 s2 sF s3 new ed rv=>?_;subst ed;have nw2:NWs F' F2 H0:=fun a o e n=>by
   have:=new a o e n;by_cases z:a=ga
   ·rw[z,z0g]at this;cases this
   ·rw[z0j z]at this;exact s0.free this
  have out2:OutG (ga::(gs++[(g,ras)]).flatMap adrG) H H2:=fun a o e n=>s2 _ _ (out1 a o e n);cases e:z5o rows with
  |none =>
   rw[e]at rv;have hv:v=.non:=rv;subst hv;unfold tIfS;walk_at "rd";exact q false H2 out2 (by simp[e])
  |some p =>
   rw[e]at rv;obtain⟨va,rfl⟩:∃va,v=.ref va:=by
    have rv':Rep F2 (patD p) v:=rv;cases p<;>(obtain⟨a,_,e1,_⟩:=rv';exact⟨a,e1⟩)
   have G2:GS H0 F2 H2 ga gs k.reverse:=G1.mono sF s3 (fun a ha=>by
    cases ea:F2 a with
    |none=>rfl
    |some o =>
     obtain⟨o',eo⟩:=G1.at a ha;have:=new a o ea (G1.fr a ha).1;rw[eo]at this;cases this) fun a ha o e=>s2 _ _ e
   have htop:=G2.top;unfold tIfS;walk_at "rd";cases k with
   |nil =>
    have hg:gs=[]:=by
     have:=G2.grp;cases gs with
     |nil=>rfl
     |cons a b=>cases this
    subst hg;refine⟨false,.inl ⟨_,SqL.of htop,rfl⟩,?_⟩;rw[if_pos rfl];exact q false H2 out2 (by simp[e])
   |cons r0 k' =>
    obtain⟨hn0,hb0⟩:=hne r0 mem_cons_self;have e0:r0=r0.dropLast++[r0.getLast hn0]:=(List.dropLast_concat_getLast hn0).symm;generalize r0.dropLast=rs at e0;generalize r0.getLast hn0=r at e0;subst e0;rw[reverse_cons]at G2;obtain⟨gs2,⟨g2,ras2⟩,rfl,q1,q2⟩:=z2d G2.grp;obtain⟨ras3,ra,e5,q3,q4⟩:=z2d q2.rows;have e5':ras2=ras3++[ra]:=e5;subst e5';obtain⟨vs,hra,rvs⟩:=q4;have hl3:=rvs.len;have hb1:=hb0 r (by simp);rw[length_map]at hl3;have at1:∀(xs:List V)(x:V),atI (xs++[x]) (-1)=some x:=fun xs x=>by
     unfold atI ixN;rw[if_neg (by decide),if_pos (by simp;omega)];have:(-1+((xs++[x]).length:Int)).toNat=xs.length:=by simp;omega
     rw[bind_some,this];simp
    refine⟨true,.inl ⟨_,SqL.of htop,by simp⟩,?_⟩;rw[if_neg (by simp)];refine⟨_,htop,.ref g2,by rw[map_append];exact at1 _ _,g2,rfl,_,q2.lst,.ref ra,by rw[map_append];exact at1 _ _,ra,rfl,⟨_,hra⟩,vs,hra,by omega,?_⟩;have G3:=G2.setRow (r':=r++[p]) (vs:=vs++[.ref va]) (by rw[map_append];exact rvs.app (Reps.one rv));refine q true _ (fun a o ea na=>?_) ?_
    ·have nr:a≠ra:=fun z=>na (by rw[z];simp[adrG]);rw[z0j nr];exact out2 a o ea na
    ·rw[e];exact⟨rfl,F2,_,s1.trans sF,nw1.trans nw2,by rw[z5l];exact G3⟩
theorem sC {t:Cs}{c:Nat}{x:Str}(h:x=strC [c]):(strC t=x)↔t=[c]:=by
 subst h;exact⟨fun z=>by have:=congrArg csS z;rwa [z5u,z5u]at this,fun z=>by rw[z]⟩
theorem x3e (t:Cs):x1p (strC t)=(wkOf t).map Wk.str:=by
 have e1:(strC t=("?":Str))↔t=[63]:=sC (by decide);have e2:(strC t=("*":Str))↔t=[42]:=sC (by decide);have e3:(strC t=("+":Str))↔t=[43]:=sC (by decide);unfold x1p wkOf;by_cases h1:t=[63]
 ·rw[if_pos (e1.mpr h1),if_pos h1];rfl
 ·rw[if_neg (fun z=>h1 (e1.mp z)),if_neg h1];by_cases h2:t=[42]
  ·rw[if_pos (e2.mpr h2),if_pos h2];rfl
  ·rw[if_neg (fun z=>h2 (e2.mp z)),if_neg h2];by_cases h3:t=[43]
   ·rw[if_pos (e3.mpr h3),if_pos h3];rfl
   ·rw[if_neg (fun z=>h3 (e3.mp z)),if_neg h3];rfl
theorem y5j {α:Type}{rows:List α}(h:rows≠[]):∃rs r,rows=rs++[r]:=⟨_,_,(List.dropLast_concat_getLast h).symm⟩
def BdR (N:Nat)(rows:Rws):Prop:=rows≠[]/\rows.length<=N/\∀r∈rows,r.length<=N
theorem BdR.mono {N:Nat}{rows:Rws}(h:BdR N rows):BdR (N+1) rows:=⟨h.1,le_succ_of_le h.2.1,fun r hr=>le_succ_of_le (h.2.2 r hr)⟩
theorem BdR.add {N:Nat}{rows:Rws}{p:Pat}(h:BdR N rows):BdR (N+1) (addL rows p):=by
 obtain⟨h1,h2,h3⟩:=h;obtain⟨rs,r,rfl⟩:=y5j h1;rw[z5l];refine⟨by simp,by simp at h2 ⊢;omega,fun x hx=>?_⟩;rcases mem_append.mp hx with hx|hx
 ·exact le_succ_of_le (h3 x (mem_append_left _ hx))
 ·rw[mem_singleton.mp hx];have:=h3 r (by simp);simp;omega
structure BdS (N:Nat)(st:List Rws×Rws):Prop where
 kl:st.1.length<=N
 top:BdR N st.2
 low:∀q∈st.1,BdR N q
theorem BdS.mono {N:Nat}{st:List Rws×Rws}(h:BdS N st):BdS (N+1) st:=⟨le_succ_of_le h.kl,h.top.mono,fun q hq=>(h.low q hq).mono⟩
theorem BdS.le {N M:Nat}{st:List Rws×Rws}(h:BdS N st)(l:N<=M):BdS M st:=by
 induction l with
 |refl=>exact h
 |step _ ih=>exact ih.mono
theorem BdS.add {N:Nat}{k:List Rws}{rows:Rws}{p:Pat}(h:BdS N (k,rows)):BdS (N+1) (k,addL rows p):=⟨le_succ_of_le h.kl,h.top.add,fun q hq=>(h.low q hq).mono⟩
theorem BdS.step {N:Nat}{st st':List Rws×Rws}{t:Cs}(h:BdS N st)(e:layR st t=some st'):BdS (N+1) st':=by
 obtain⟨k,rows⟩:=st;have h1:=h.kl;have h2:=h.top;have h3:=h.low;dsimp only at h1 h2 h3;obtain⟨rs,r,rfl⟩:=y5j h2.1;unfold layR at e;dsimp only at e;have tail:(if t=[45] then some (k,addL (rs++[r]) .none) else if t=[35]\/isNm t=true then some (k,addL (rs++[r]) (.one ⟨t.toArray⟩)) else none)=some st'->BdS (N+1) st':=fun e=>by
  by_cases c4:t=[45]
  ·rw[if_pos c4]at e;cases e;exact h.add
  ·rw[if_neg c4]at e;by_cases c5:t=[35]\/isNm t=true
   ·rw[if_pos c5]at e;cases e;exact h.add
   ·rw[if_neg c5]at e;cases e
 by_cases c1:t=[40]
 ·rw[if_pos c1]at e;cases e;refine⟨by simpa using h1,⟨by simp,by simp,by simp⟩,fun q hq=>?_⟩;rcases mem_cons.mp hq with rfl|hq
  ·exact h2.mono
  ·exact(h3 q hq).mono
 ·rw[if_neg c1]at e;by_cases c2:t=[41]
  ·rw[if_pos c2]at e;cases ef:z5o (rs++[r]) with
   |none=>rw[ef]at e;cases e
   |some p =>
    rw[ef]at e;cases k with
    |nil=>cases e
    |cons r0 k =>
     cases e;exact⟨by simp at h1 ⊢;omega,(h3 r0 mem_cons_self).add,fun q hq=>(h3 q (mem_cons_of_mem _ hq)).mono⟩
  ·rw[if_neg c2]at e;by_cases c3:t=[124]
   ·rw[if_pos c3]at e;cases e;refine⟨le_succ_of_le h1,⟨by simp,?_,fun x hx=>?_⟩,fun q hq=>(h3 q hq).mono⟩
    ·have:=h2.2.1;simp at this ⊢;omega
    ·rcases mem_append.mp hx with hx|hx
     ·exact le_succ_of_le (h2.2.2 x hx)
     ·rw[mem_singleton.mp hx];simp
   ·rw[if_neg c3]at e;cases ew:wkOf t with
    |none=>rw[ew]at e;exact tail e
    |some w =>
     cases el:(y4s (rs++[r])).getLast? with
     |none=>rw[ew,el]at e;exact tail e
     |some p =>
      rw[ew,el]at e;cases e;refine⟨le_succ_of_le h1,⟨by simp,?_,fun x hx=>?_⟩,fun q hq=>(h3 q hq).mono⟩
      ·have:=h2.2.1;simp at this ⊢;omega
      ·rw[dropLast_concat,z9i]at hx;rcases mem_append.mp hx with hx|hx
       ·exact le_succ_of_le (h2.2.2 x (mem_append_left _ hx))
       ·rw[mem_singleton.mp hx];have:=h2.2.2 r (by simp);simp;omega
theorem GS.np {H0 F H:Hp}{ga:Addr}{gs:List (Addr×List Addr)}{G:List Rws}(h:GS H0 F H ga gs G){p:Addr}(hp:H p=none):∀a∈ga::gs.flatMap adrG,a≠p:=fun a ha z=>by
 obtain⟨o,e⟩:=h.at a ha;rw[z,hp]at e;cases e
theorem GS.addT {H0 F H:Hp}{ga p:Addr}{gs:List (Addr×List Addr)}{g ra:Addr}{ras:List Addr}{G:List Rws}{rows:Rws}{r r0:List Pat}{vs0:List V}{o:HO}{pt:Pat}(h:GS H0 F H ga (gs++[(g,ras++[ra])]) (G++[rows++[r]]))(hp:H p=none)(rp:Rep (upd F p o) (patD pt) (.ref p))(hr:Reps F (r0.map patD) vs0) :
  Same F (upd F p o)/\(Same H0 H->NWs F (upd F p o) H0)/\GS H0 (upd F p o) (upd (upd H p o) ra (.lst (vs0++[.ref p]))) ga (gs++[(g,ras++[ra])]) (G++[rows++[r0++[pt]]]):=by
 have fp:F p=none:=by
  cases e:F p with
  |none=>rfl
  |some o=>have:=h.sub _ _ e;rw[hp]at this;cases this
 have np:=h.np hp;have s1:Same F (upd F p o):=Same.of_new fp;have s2:Same (upd F p o) (upd H p o):=fun a u e=>by
  by_cases z:a=p
  ·subst z;rw[z0g]at e ⊢;exact e
  ·rw[z0j z]at e ⊢;exact h.sub _ _ e
 have h1:=h.mono s1 s2 (fun a ha=>by rw[z0j (np a ha)];exact(h.fr a ha).1) (fun a ha u e=>by rw[z0j (np a ha)];exact e);refine⟨s1,fun s0 a u e n=>?_,h1.setRow (r':=r0++[pt]) (vs:=vs0++[.ref p]) (by rw[map_append];exact(Reps.mono s1 _ _ hr).app (Reps.one rp))⟩;by_cases z:a=p
 ·rw[z];exact s0.free hp
 ·rw[z0j z,n]at e;cases e
theorem at1V (xs:List V)(x:V):atI (xs++[x]) (-1)=some x:=by
 unfold atI ixN;rw[if_neg (by decide),if_pos (by simp;omega)];have:(-1+((xs++[x]).length:Int)).toNat=xs.length:=by simp;omega
 rw[bind_some,this];simp
theorem z9l {α β:Type}{R:α->β->Prop}:∀{xs:List α}{ys:List β},Paired R xs ys->xs.length=ys.length
 |_,_,.nil=>rfl
 |_,_,.cons _ t=>by rw[length_cons,length_cons,z9l t]
theorem j8v {K:W.Frag}{H:Hp}{ra:Addr}{vs:List V}{c A R:Prop}[Decidable c](hra:H ra=some (.lst vs))(h:c->vs=[])(hR:R):if c then(∃k,TruV K (.ref ra) H k/\if k=true then A else R) else R:=by
 split
 ·rename_i hc;have:=h hc;subst this;exact⟨false,.inl ⟨_,SqL.of hra,rfl⟩,by rw[if_neg (by simp)];exact hR⟩
 ·exact hR
def q6a:Sp:=fun vs H Q _=>∃(H0 F:Hp)(ga:Addr)(gs:List (Addr×List Addr))(k:List Rws)(rows:Rws)(t:Cs),vs=[.ref ga,.str (strC t)]/\GS H0 F H ga gs (k.reverse++[rows])/\Same H0 H/\BdS 90000 (k,rows)/\t.length<=100000 /\
 ∀(b:Bool)(H':Hp),OutG (ga::gs.flatMap adrG) H H'->(match layR (k,rows) t with
  |some st=>b=true/\∃F' gs',Same F F'/\NWs F F' H0/\GS H0 F' H' ga gs' (st.1.reverse++[st.2])
  |none=>b=false)->Q (.bl b) H'
theorem j3f {f1 f2 f3 f4 f5:Addr}{fd1 fd2 fd3 fd4 fd5:FuncData}(u1v:Ent K mg "lay_pattern" u2t ["groups","token"] f fd)(T:Zs K mg)(Gd:Gds K mg w aM aK)(u0r:Ent K mg "close_bracket" u1o ["groups"] f3 fd3)(u2g:Ent K mg "folded" u4a ["rows"] f1 fd1)(u0t:Ent K mg "gathered" u2o ["kind","patterns"] f2 fd2)(u1a:Ent K mg "is_name" u2s ["text"] f4 fd4)(u0d:Ent K mg "is_letter" u1d ["sign"] f5 fd5):FnOk P w K mg base CX0 4 f fd ["groups","token"] q6a:=by
 have u5s:=q1m (P:=P) (w:=w) (base:=base) u0r T u2g u0t;have u5c:=x5f (P:=P) (w:=w) (base:=base) u1a T u0d;refine u1v.F.ok u5d (fun vs H Q E h=>?_) (fun cdv A outer s H vs Q E hr h=>?_)
 ·obtain⟨_,_,_,_,_,_,_,rfl,_⟩:=h;rfl
 ·obtain⟨H0,F,ga,gs,k,rows,t,rfl,h,s0,bd,ht,q⟩:=h;have hu:=z4s hr;refine⟨_,(z0u (z2t (i:=2) u5d.nd rfl (Or.inl rfl) (z5r z1t (z5r z1t (pv 0) (x3v y5h z2q) (fun _ _=>rfl)) (x3v y5h z2q) (fun _ _=>rfl)))
   (z0u (z5g (z2b z1v (pv 1) z3b (z0k _)) (z0v (z4q (y4l PySem.F.slot_list_append PySem.F.type_list_append z1m (pv 0) (z0i (z4v (z0i (z4v z0p) z0p)) z0p)))) (z0v (z5g (z2b z1v (pv 1) z3b (z0k _)) (z0v (z4u (z6s u5s u0r (z0i (pv 0) z0p)))) (z0v (z5g (z2b z1v (pv 1) z3b (z0k _)) (z0v (z4q (y4l PySem.F.slot_list_append PySem.F.type_list_append z1m (z5r z1t (pv 0) (x3v y5h z2q) (fun _ _=>rfl)) (z0i (z4v z0p) z0p)))) (z0v (z5g (PW.pt (y4f (z2b (j5k Gd.d_KINDS) (pv 1) (y6i (v:=.ref _) rfl Gd.g_KINDS rfl) rfl) (z8n (y1e (pv 2) (fun _=>rfl))))) (z0v (z4q (y4l PySem.F.slot_list_append PySem.F.type_list_append z1m (pv 2) (z0i (y2i (z0i (x8b Gd.d_KINDS rfl Gd.g_KINDS (pv 1) (fun _ _=>rfl)) (z0i (q0a slot_list_pop type_list_pop x4z (pv 2)) z0p))) z0p)))) (z0v (z5g (z2b z1v (pv 1) z3b (z0k _)) (z0v (z4q (y4l PySem.F.slot_list_append PySem.F.type_list_append z1m (pv 2) (z0i (y2i (z0i z3b z0p)) z0p)))) (z0v (z5g (PW.pt (x6v (z2b z1v (pv 1) z3b (z0k _)) (y7c (z5x (z6s u5c u1a (z0i (pv 1) z0p)))))) (z0v (z4q (y4l PySem.F.slot_list_append PySem.F.type_list_append z1m (pv 2) (z0i (y2i (z0i z3b (z0i (pv 1) z0p))) z0p)))) (z0v (z4u y7i)))))))))))))
   (z0v (z4u y7i)))),?_⟩
  have sz:=z0y;obtain⟨rs,r,rfl⟩:=y5j bd.top.1;have hkl:k.length<=90000:=bd.kl;have hrl:(rs++[r]).length<=90000:=bd.top.2.1;have hrr:r.length<=90000:=bd.top.2.2 r (by simp);obtain⟨gs,⟨g,ras⟩,rfl,p1,p2⟩:=z2d h.grp;obtain⟨ras,ra,e5,p3,p4⟩:=z2d p2.rows;have e5':_=_:=e5;dsimp only at e5';subst e5';obtain⟨vs,hra,rvs⟩:=p4;have hvl:=rvs.len;rw[length_map]at hvl;have htop:=h.top;have htop':H ga=some (.lst ((gs.map fun q=>V.ref q.1)++[.ref g])):=by rw[htop];simp
  have hg:H g=some (.lst (ras.map V.ref++[.ref ra])):=by have:=p2.lst;rw[this];simp
  have gl:=z9l h.grp;simp at gl;have rl:=z9l p3;simp at hrl;walk_at "rs";refine⟨_,htop',.ref g,at1V _ _,g,rfl,_,hg,.ref ra,at1V _ _,?_⟩;have e40:(strC t=("(":Str))↔t=[40]:=sC (by decide);have e41:(strC t=(")":Str))↔t=[41]:=sC (by decide);have e124:(strC t=("|":Str))↔t=[124]:=sC (by decide);have e45:(strC t=("-":Str))↔t=[45]:=sC (by decide);have e35:(strC t=("#":Str))↔t=[35]:=sC (by decide);have hgg:g∈ga::(gs++[(g,ras++[ra])]).flatMap adrG:=by simp[adrG]
  have hgr:ra∈ga::(gs++[(g,ras++[ra])]).flatMap adrG:=by simp[adrG]
  unfold tIfS;walk_at "rd";by_cases c1:t=[40]
  ·rw[if_pos (e40.mpr c1)];have eL:layR (k,rs++[r]) t=some ((rs++[r])::k,[[]]):=by unfold layR;rw[if_pos c1]
   rw[eL]at q;refine⟨⟨_,htop⟩,by omega,fun p1 h1=>⟨by omega,fun p2 n2 h2=>⟨_,by rw[z0j (z0s htop h2),z0j (z0s htop h1)];exact htop,by simp;omega,?_⟩⟩⟩;have G':=h.pushG (p1:=p1) (p2:=p2) h1 (by rw[z0j n2];exact h2) (s0.free h1) (s0.free h2);refine q true _ (fun a o ea na=>?_) ⟨rfl,F,_,Same.refl _,NWs.refl _ _,by rw[reverse_cons];exact G'⟩;have n3:a≠ga:=fun z=>na (by rw[z];exact mem_cons_self);rw[z0j n3,z0j (z0s ea h2),z0j (z0s ea h1)];exact ea
  rw[if_neg (fun z=>c1 (e40.mp z))];by_cases c2:t=[41]
  ·rw[if_pos (e41.mpr c2)];refine⟨H0,F,ga,_,k,rs++[r],rfl,h,s0,by simp;omega,fun x hx=>by have:=bd.top.2.2 x hx;omega,fun x hx=>⟨(bd.low x hx).1,fun y hy=>by have:=(bd.low x hx).2.2 y hy;omega⟩,fun b H' out res=>q b H' out ?_⟩;have eL:layR (k,rs++[r]) t=(z5o (rs++[r])).bind fun p=>match k with
    | []=>none
    |r0::k=>some (k,addL r0 p):=by
    unfold layR;rw[if_neg c1,if_pos c2]
    all_goals rfl
   rw[eL];cases ef:z5o (rs++[r]) with
   |none=>rw[ef]at res;exact res
   |some p =>
    rw[ef]at res;cases k with
    |nil=>exact res
    |cons r0 k=>exact res
  rw[if_neg (fun z=>c2 (e41.mp z))];by_cases c3:t=[124]
  ·rw[if_pos (e124.mpr c3)];have eL:layR (k,rs++[r]) t=some (k,rs++[r]++[[]]):=by unfold layR;rw[if_neg c1,if_neg c2,if_pos c3]
   rw[eL]at q;refine⟨_,htop',.ref g,at1V _ _,g,rfl,⟨_,hg⟩,by omega,fun p hp=>⟨_,by rw[z0j (z0s hg hp)];exact hg,by simp;omega,?_⟩⟩;have G':=GS.pushRow (ras:=ras++[ra]) h hp (s0.free hp);refine q true _ (fun a o ea na=>?_) ⟨rfl,F,_,Same.refl _,NWs.refl _ _,by simpa using G'⟩;have n3:a≠g:=fun z=>na (by rw[z];exact hgg);rw[z0j n3,z0j (z0s ea hp)];exact ea
  rw[if_neg (fun z=>c3 (e124.mp z))];have outA:∀(H1:Hp)(p:Addr)(o':HO)(xs:List V),OutG (ga::(gs++[(g,ras++[ra])]).flatMap adrG) H H1->H1 p=none->OutG (ga::(gs++[(g,ras++[ra])]).flatMap adrG) H (upd (upd H1 p o') ra (.lst xs)):=fun H1 p o' xs out hp a o ea na=>by
   have n3:a≠ra:=fun z=>na (by rw[z];exact hgr);have e1:=out a o ea na;rw[z0j n3,z0j (z0s e1 hp)];exact e1
  have outR:OutG (ga::(gs++[(g,ras++[ra])]).flatMap adrG) H H:=fun a o ea _=>ea;have eM:layR (k,rs++[r]) t=match wkOf t,r.getLast? with
   |some w,some p=>some (k,rs++[r.dropLast++[.wrap w p]])
   |_,_=>if t=[45] then some (k,rs++[r++[.none]]) else if t=[35]\/isNm t=true then some (k,rs++[r++[.one ⟨t.toArray⟩]]) else none:=by
   unfold layR;rw[if_neg c1,if_neg c2,if_neg c3];simp only[z9i,z5l,dropLast_concat]
   all_goals (cases wkOf t<;>first|rfl|(cases r.getLast?<;>rfl))
  have fpn:∀{p:Addr},H p=none->F p=none:=fun hp=>h.sub.free hp;by_cases hw:∃w p,wkOf t=some w/\r.getLast? = some p
  ·obtain⟨w',p,hw,hp⟩:=hw;rw[hw,hp]at eM;replace eM:layR (k,rs++[r]) t=some (k,rs++[r.dropLast++[.wrap w' p]]):=eM;obtain⟨r',rfl⟩:=List.getLast?_eq_some_iff.mp hp;rw[dropLast_concat]at eM;obtain⟨vp,hvp,rvp⟩:=rvs.get (i:=r'.length) (d:=patD p) (by simp);have rvd:=rvs.dropLast;rw[map_append,List.map_singleton,dropLast_concat]at rvd;have hl2:vs.length=r'.length+1:=by rw[<-hvl];simp
   have hks:x1p (strC t)=some w'.str:=by rw[x3e,hw];rfl
   rw[hks,if_pos (show(some w'.str).isSome=true from rfl)];refine⟨true,.inl ⟨_,SqL.of hra,?_⟩,?_⟩
   ·cases vs with
    |nil=>simp at hl2
    |cons a b=>rfl
   rw[if_pos rfl];refine⟨⟨_,hra⟩,_,rfl,⟨_,hra⟩,vs,hra,vp,by rw[hl2];exact hvp,by omega,fun p0 np hp0=>⟨vs.dropLast,by rw[z0j (Ne.symm np),z0g],by simp;omega,?_⟩⟩;rw[q1a (a:=ra) (b:=p0) (Ne.symm np),x6d];obtain⟨sA,nwA,GA⟩:=h.addT (r0:=r') (pt:=.wrap w' p) (o:=.tup [.str w'.str,vp]) hp0 ⟨p0,_,rfl,z0g,_,_,rfl,rfl,_,_,rfl,Rep.mono (Same.of_new (fpn hp0)) _ _ rvp,rfl⟩ rvd;rw[eM]at q;exact q true _ (outA H p0 _ _ outR hp0) ⟨rfl,_,_,sA,nwA s0,GA⟩
  have eM2:layR (k,rs++[r]) t=if t=[45] then some (k,rs++[r++[.none]]) else if t=[35]\/isNm t=true then some (k,rs++[r++[.one ⟨t.toArray⟩]]) else none:=by
   rw[eM];cases hw2:wkOf t with
   |none=>rfl
   |some w =>
    cases hl:r.getLast? with
    |none=>rfl
    |some p=>exact absurd ⟨_,_,hw2,hl⟩ hw
  refine j8v hra (fun hc=>?_) ?_
  ·rw[x3e]at hc;cases hw2:wkOf t with
   |none=>rw[hw2]at hc;cases hc
   |some w =>
    have hr0:r=[]:=by
     cases hl:r.getLast? with
     |none=>exact List.getLast?_eq_none_iff.mp hl
     |some p=>exact absurd ⟨_,_,hw2,hl⟩ hw
    subst hr0;exact eq_nil_of_length_eq_zero hvl.symm
  by_cases c4:t=[45]
  ·rw[if_pos (e45.mpr c4)];rw[if_pos c4]at eM2;rw[eM2]at q;refine⟨⟨_,hra⟩,by omega,fun p hp=>⟨vs,by rw[z0j (z0s hra hp)];exact hra,by omega,?_⟩⟩;obtain⟨sA,nwA,GA⟩:=h.addT (r0:=r) (pt:=.none) (o:=.tup [.str "none"]) hp ⟨p,_,rfl,z0g,_,_,rfl,rfl,rfl⟩ rvs;exact q true _ (outA H p _ _ outR hp) ⟨rfl,_,_,sA,nwA s0,GA⟩
  rw[if_neg (fun z=>c4 (e45.mp z))];rw[if_neg c4]at eM2;by_cases c5:t=[35]
  ·rw[if_pos (e35.mpr c5)];rw[if_pos (.inl c5)]at eM2;rw[eM2]at q;refine⟨⟨_,hra⟩,by omega,fun p hp=>⟨vs,by rw[z0j (z0s hra hp)];exact hra,by omega,?_⟩⟩;obtain⟨sA,nwA,GA⟩:=h.addT (r0:=r) (pt:=.one ⟨t.toArray⟩) (o:=.tup [.str "one",.str (strC t)]) hp ⟨p,_,rfl,z0g,_,_,rfl,rfl,_,_,rfl,rfl,rfl⟩ rvs;exact q true _ (outA H p _ _ outR hp) ⟨rfl,_,_,sA,nwA s0,GA⟩
  rw[if_neg (fun z=>c5 (e35.mp z))];refine z5f (ds:=[.str (strC t)]) (Qd:=fun _ d _=>d=.bl (isNm t)) ⟨_,[],rfl,rfl,rfl⟩ ⟨strC t,rfl,by rw[z0t];omega,by rw[z5u]⟩ fun b d δ' v H1 s1 ed r1=>?_;subst ed;cases(show v=.bl (isNm t) from r1);refine⟨_,rfl,?_⟩;cases hn:isNm t with
  |false =>
   rw[if_neg (by simp)];rw[if_neg (by simp[c5,hn])]at eM2;rw[eM2]at q;exact q false H1 (fun a o ea _=>s1 _ _ ea) rfl
  |true =>
   rw[if_pos rfl];rw[if_pos (.inr hn)]at eM2;rw[eM2]at q;have h1:=h.mono (Same.refl _) (h.sub.trans s1) (fun a ha=>(h.fr a ha).1) fun a ha o e=>s1 _ _ e;refine⟨⟨_,s1 _ _ hra⟩,by omega,fun p hp=>⟨vs,by rw[z0j (z0s (s1 _ _ hra) hp)];exact s1 _ _ hra,by omega,?_⟩⟩;obtain⟨sA,nwA,GA⟩:=h1.addT (r0:=r) (pt:=.one ⟨t.toArray⟩) (o:=.tup [.str "one",.str (strC t)]) hp ⟨p,_,rfl,z0g,_,_,rfl,rfl,_,_,rfl,rfl,rfl⟩ rvs;exact q true _ (outA H1 p _ _ (fun a o ea _=>s1 _ _ ea) hp) ⟨rfl,_,_,sA,nwA (s0.trans s1),GA⟩
noncomputable def isD (c:Nat):Bool:=decide (c=40)||decide (c=63)||decide (c=42)||decide (c=43)
def cntD (l:Cs):Nat:=(l.filter isD).length
theorem z1q (a b:Cs):cntD (a++b)=cntD a+cntD b:=by simp[cntD]
theorem y4i (c:Nat)(l:Cs):cntD (c::l)=(if isD c=true then 1 else 0)+cntD l:=by
 unfold cntD;rw[filter_cons];split<;>simp<;>omega
def wrow (r:List Pat):Nat:=wtPs r+6
def z5s:Rws->Nat
 | []=>6
 |r::rs=>wrow r+z5s rs
theorem z7j (a b:Rws):z5s (a++b)+6=z5s a+z5s b:=by
 induction a with
 |nil=>simp[z5s];omega
 |cons r a ih=>rw[cons_append,z5s,z5s];omega
theorem y1l (r:List Pat):z5s [r]=wtPs r+12:=by simp[z5s,wrow]
noncomputable def wstk:List Rws->Nat
 | []=>0
 |q::k=>z5s q+wstk k
structure StOk (c:Nat)(st:List Rws×Rws):Prop where
 stk:st.1.length<=c
 top:∀r∈st.2,∀p∈r,okT p=true/\dpP p+2 * st.1.length<=2 * c
 low:∀q∈st.1,∀r∈q,∀p∈r,okT p=true/\dpP p+2 * st.1.length<=2 * c
theorem x7z {ps:List Pat}{n:Nat}(h:∀p∈ps,dpP p<=n):dpPs ps<=n:=by
 induction ps with
 |nil=>simp[dpPs]
 |cons p ps ih =>
  have h1:=h p mem_cons_self;have h2:=ih fun q hq=>h q (mem_cons_of_mem _ hq);simp only[dpPs];omega
theorem z9o:∀ps:List Pat,okTs ps=true↔∀p∈ps,okT p=true
 | []=>by simp[okTs]
 |p::ps=>by rw[okTs,and_eq_true,z9o ps];simp
theorem x9q {mk:List Pat->Pat}(hmk:mk=.row\/mk=.any){r:List Pat}{p:Pat}{n:Nat}(h:∀q∈r,okT q=true/\dpP q<=n)(e:gath mk r=some p):okT p=true/\dpP p<=n+1/\wtP p<=wrow r:=by
 match r,h,e with
 | [q],h,e =>
  cases e;obtain⟨h1,h2⟩:=h p (by simp);exact⟨h1,by omega,by simp[wrow,wtPs]⟩
 |q::q' :: r,h,e =>
  cases e;have h1:okTs (q::q' :: r)=true:=(z9o _).mpr fun x hx=>(h x hx).1;have h2:dpPs (q::q' :: r)<=n:=x7z fun x hx=>(h x hx).2;rcases hmk with rfl|rfl
  ·exact⟨by simp only[okT,h1];simp,by simp only[dpP];omega,by simp only[wtP,wrow];omega⟩
  ·exact⟨by simp only[okT,h1];simp,by simp only[dpP];omega,by simp only[wtP,wrow];omega⟩
theorem x2s {n:Nat}:∀{rows:Rws}{ps:List Pat},(∀r∈rows,∀q∈r,okT q=true/\dpP q<=n)->z7b rows=some ps->(∀p∈ps,okT p=true/\dpP p<=n+1)/\wtPs ps+6<=z5s rows
 | [],ps,h,e=>by cases e;exact⟨fun p hp=>by simp at hp,by simp[wtPs,z5s]⟩
 |r::rs,ps,h,e=>by
  rw[z7b]at e;cases h1:gath .row r with
  |none=>rw[h1]at e;cases e
  |some p =>
   rw[h1]at e;cases h2:z7b rs with
   |none=>rw[h2]at e;cases e
   |some qs =>
    rw[h2]at e;cases e;obtain⟨a1,a2,a3⟩:=x9q (.inl rfl) (h r mem_cons_self) h1;obtain⟨b1,b2⟩:=x2s (fun x hx=>h x (mem_cons_of_mem _ hx)) h2;refine⟨fun q hq=>?_,by rw[wtPs,z5s];omega⟩;rcases mem_cons.mp hq with rfl|hq
    ·exact⟨a1,a2⟩
    ·exact b1 q hq
theorem x8e {n:Nat}{rows:Rws}{p:Pat}(h:∀r∈rows,∀q∈r,okT q=true/\dpP q<=n)(e:z5o rows=some p):okT p=true/\dpP p<=n+2/\wtP p<=z5s rows:=by
 unfold z5o at e;cases h1:z7b rows with
 |none=>rw[h1]at e;cases e
 |some ps =>
  rw[h1,bind_some]at e;obtain⟨a1,a2⟩:=x2s h h1;obtain⟨b1,b2,b3⟩:=x9q (.inr rfl) a1 e;exact⟨b1,b2,by unfold wrow at b3;omega⟩
def WSt (st:List Rws×Rws):Nat:=z5s st.2+wstk st.1
theorem StOk.step {c:Nat}{st st':List Rws×Rws}{t:Cs}(hne:st.2≠[])(hlo:∀q∈st.1,q≠[])(h:StOk c st)(e:layR st t=some st'):StOk (c+cntD t) st'/\WSt st' <= WSt st+t.length+12:=by
 obtain⟨k,rows⟩:=st;obtain⟨h1,h2,h3⟩:=h;dsimp only at h1 h2 h3 hne hlo;obtain⟨rs,r,rfl⟩:=y5j hne;have add:∀(q:Rws)(p:Pat),q≠[]->z5s (addL q p)=z5s q+wtP p:=fun q p hq=>by
  obtain⟨qs,x,rfl⟩:=y5j hq;rw[z5l];have e1:=z7j qs [x];have e2:=z7j qs [x++[p]];rw[y1l]at e1 e2;have e3:=y1a x [p];simp only[wtPs]at e3;omega
 have addm:∀(q:Rws)(p:Pat),q≠[]->∀r∈addL q p,∀x∈r,x=p \/ ∃r' ∈ q,x∈r':=fun q p hq r hr x hx=>by
  obtain⟨qs,y,rfl⟩:=y5j hq;rw[z5l]at hr;rcases mem_append.mp hr with hr|hr
  ·exact .inr ⟨r,mem_append_left _ hr,hx⟩
  ·rw[mem_singleton.mp hr]at hx;rcases mem_append.mp hx with hx|hx
   ·exact .inr ⟨y,by simp,hx⟩
   ·exact .inl (mem_singleton.mp hx)
 have newP:∀p:Pat,okT p=true->dpP p=0->wtP p<=t.length+12->StOk (c+cntD t) (k,addL (rs++[r]) p)/\WSt (k,addL (rs++[r]) p)<=WSt (k,rs++[r])+t.length+12:=fun p o d w=>by
  refine⟨⟨by dsimp only;omega,fun r' hr' x hx=>?_,fun q hq r' hr' x hx=>?_⟩,by unfold WSt;dsimp only;rw[add _ _ hne];omega⟩
  ·dsimp only at hr' ⊢;rcases addm _ _ hne r' hr' x hx with rfl|⟨r2,hr2,hx2⟩
   ·exact⟨o,by omega⟩
   ·obtain⟨a,b⟩:=h2 r2 hr2 x hx2;exact⟨a,by omega⟩
  ·obtain⟨a,b⟩:=h3 q hq r' hr' x hx;exact⟨a,by dsimp only at b ⊢;omega⟩
 unfold layR at e;dsimp only at e;have tail:(if t=[45] then some (k,addL (rs++[r]) .none) else if t=[35]\/isNm t=true then some (k,addL (rs++[r]) (.one ⟨t.toArray⟩)) else none)=some st'->StOk (c+cntD t) st'/\WSt st' <= WSt (k,rs++[r])+t.length+12:=fun e=>by
  by_cases c4:t=[45]
  ·rw[if_pos c4]at e;cases e;exact newP .none rfl (by simp[dpP]) (by simp[wtP])
  ·rw[if_neg c4]at e;by_cases c5:t=[35]\/isNm t=true
   ·rw[if_pos c5]at e;cases e;have et:csS ⟨t.toArray⟩=t:=by simp[csS]
    refine newP _ ?_ (by simp[dpP]) ?_
    ·simp only[okT,et,or_eq_true,decide_eq_true_eq];exact c5
    ·have:(⟨t.toArray⟩:Str).length=t.length:=by rw[<-z1u,et]
     rw[wtP,this];omega
   ·rw[if_neg c5]at e;cases e
 by_cases c1:t=[40]
 ·rw[if_pos c1]at e;cases e;have ec:cntD t=1:=by rw[c1];decide
  refine⟨⟨by dsimp only[length_cons];omega,fun r' hr' x hx=>?_,fun q hq r' hr' x hx=>?_⟩,by unfold WSt;simp only[z5s,wrow,wtPs,wstk];omega⟩
  ·simp at hr';subst hr';simp at hx
  ·rcases mem_cons.mp hq with rfl|hq
   ·obtain⟨a,b⟩:=h2 r' hr' x hx;exact⟨a,by dsimp only[length_cons];omega⟩
   ·obtain⟨a,b⟩:=h3 q hq r' hr' x hx;exact⟨a,by dsimp only[length_cons];omega⟩
 ·rw[if_neg c1]at e;by_cases c2:t=[41]
  ·rw[if_pos c2]at e;have ec:cntD t=0:=by rw[c2];decide
   cases ef:z5o (rs++[r]) with
   |none=>rw[ef]at e;cases e
   |some p =>
    rw[ef]at e;cases k with
    |nil=>cases e
    |cons r0 k =>
     cases e;simp only[length_cons]at h1 h2 h3;have hn0:=hlo r0 mem_cons_self;obtain⟨a1,a2,a3⟩:=x8e (n:=2 * c - 2 * (k.length+1)) (fun r' hr' q hq=>by obtain⟨a,b⟩:=h2 r' hr' q hq;exact⟨a,by omega⟩) ef;refine⟨⟨by dsimp only;omega,fun r' hr' x hx=>?_,fun q hq r' hr' x hx=>?_⟩,by unfold WSt;simp only[wstk];rw[add _ _ hn0];omega⟩
     ·dsimp only at hr' ⊢;rcases addm _ _ hn0 r' hr' x hx with rfl|⟨r2,hr2,hx2⟩
      ·exact⟨a1,by omega⟩
      ·obtain⟨a,b⟩:=h3 r0 mem_cons_self r2 hr2 x hx2;exact⟨a,by omega⟩
     ·obtain⟨a,b⟩:=h3 q (mem_cons_of_mem _ hq) r' hr' x hx;exact⟨a,by dsimp only;omega⟩
  ·rw[if_neg c2]at e;by_cases c3:t=[124]
   ·rw[if_pos c3]at e;cases e;have e1:=z7j (rs++[r]) [[]];rw[y1l]at e1;refine⟨⟨by dsimp only;omega,fun r' hr' x hx=>?_,fun q hq r' hr' x hx=>?_⟩,by unfold WSt;simp only[wtPs]at e1 ⊢;omega⟩
    ·dsimp only at hr' ⊢;rcases mem_append.mp hr' with hr' | hr'
     ·obtain⟨a,b⟩:=h2 r' hr' x hx;exact⟨a,by omega⟩
     ·rw[mem_singleton.mp hr']at hx;simp at hx
    ·obtain⟨a,b⟩:=h3 q hq r' hr' x hx;exact⟨a,by dsimp only at b ⊢;omega⟩
   ·rw[if_neg c3]at e;cases ew:wkOf t with
    |none=>rw[ew]at e;exact tail e
    |some w =>
     cases el:(y4s (rs++[r])).getLast? with
     |none=>rw[ew,el]at e;exact tail e
     |some p =>
      rw[ew,el]at e;rw[z9i]at el;obtain⟨r',rfl⟩:=List.getLast?_eq_some_iff.mp el;replace e:(k,(rs++[r'++[p]]).dropLast++[(y4s (rs++[r'++[p]])).dropLast++[.wrap w p]])=st':=Option.some.inj e;rw[dropLast_concat,z9i,dropLast_concat]at e;subst e;have ec:cntD t=1:=by
       unfold wkOf at ew;by_cases z1:t=[63]
       ·rw[z1];decide
       ·rw[if_neg z1]at ew;by_cases z2:t=[42]
        ·rw[z2];decide
        ·rw[if_neg z2]at ew;by_cases z3:t=[43]
         ·rw[z3];decide
         ·rw[if_neg z3]at ew;cases ew
      have e1:=z7j rs [r'++[p]];have e2:=z7j rs [r'++[.wrap w p]];rw[y1l,y1a]at e1 e2;simp only[wtPs,wtP]at e1 e2;refine⟨⟨by dsimp only;omega,fun r2 hr2 x hx=>?_,fun q hq r2 hr2 x hx=>?_⟩,by unfold WSt;dsimp only;omega⟩
      ·dsimp only at hr2 ⊢;rcases mem_append.mp hr2 with hr2|hr2
       ·obtain⟨a,b⟩:=h2 r2 (mem_append_left _ hr2) x hx;exact⟨a,by omega⟩
       ·rw[mem_singleton.mp hr2]at hx;rcases mem_append.mp hx with hx|hx
        ·obtain⟨a,b⟩:=h2 (r'++[p]) (by simp) x (mem_append_left _ hx);exact⟨a,by omega⟩
        ·obtain⟨a,b⟩:=h2 (r'++[p]) (by simp) p (by simp);rw[mem_singleton.mp hx];exact⟨by simp only[okT];exact a,by simp only[dpP];omega⟩
      ·obtain⟨a,b⟩:=h3 q hq r2 hr2 x hx;exact⟨a,by dsimp only at b ⊢;omega⟩
def z9n (l:Cs):Option Pat:=(runR (tok l) ([],[[]])).bind fun st=>match st.1 with
 | []=>z5o st.2
 |_=>none
theorem j0e {ts:List Cs}{i:Nat}{t:Cs}{s0 st:List Rws×Rws}(h:runR (ts.take i) s0=some st)(e:ts[i]? = some t):runR (ts.take (i+1)) s0=layR st t/\(layR st t=none->runR ts s0=none):=by
 have hi:=(List.getElem?_eq_some_iff.mp e).1;have e1:ts.take (i+1)=ts.take i++[t]:=by rw[List.take_add_one,e];rfl
 have e2:runR (ts.take (i+1)) s0=layR st t:=by
  rw[e1,z6a,h,bind_some,runR];cases layR st t<;>rfl
 refine⟨e2,fun z=>?_⟩;have e3:ts=ts.take (i+1)++ts.drop (i+1):=(take_append_drop _ _).symm;rw[e3,z6a,e2,z];rfl
theorem y0h:∀(n:Nat)(l:Cs),(z2z n l).length<=l.length
 |0,l=>by simp[z2z]
 |n+1,[]=>by simp[z2z]
 |n+1,c::r=>by
  rw[z3j];have hd:(r.dropWhile isL).length<=r.length:=(dropWhile_sublist _).length_le;split
  ·have:=y0h n (r.dropWhile isL);simp only[length_cons];omega
  ·have:=y0h n r;simp only[length_cons];omega
theorem j1l (l:Cs):(tok l).length<=l.length:=le_trans (List.length_filter_le _ _) (y0h _ _)
theorem y0i:∀(n:Nat)(l:Cs),∀t∈z2z n l,t.length<=l.length
 |0,l,t,h=>by simp[z2z]at h
 |n+1,[],t,h=>by simp[z2z]at h
 |n+1,c::r,t,h=>by
  rw[z3j]at h;have hd:(r.dropWhile isL).length<=r.length:=(dropWhile_sublist _).length_le;have ht:(r.takeWhile isL).length<=r.length:=(takeWhile_sublist _).length_le;split at h
  ·rcases mem_cons.mp h with rfl|h
   ·simp only[length_cons];omega
   ·have:=y0i n _ t h;simp only[length_cons];omega
  ·rcases mem_cons.mp h with rfl|h
   ·simp
   ·have:=y0i n _ t h;simp only[length_cons];omega
theorem q9z {l t:Cs}(h:t∈tok l):t.length<=l.length:=y0i _ _ t (mem_filter.mp h).1
def y9g:Sp:=fun vs H Q _=>∃(l:Cs)(F:Hp),vs=[.str (strC l)]/\Same F H/\l.length<=80000/\(∀c∈l,c≠34)/\∀v F' H',Same H H'->Same F F'->Same F' H'->NWs F F' H->Rep F' (optP (z9n l)) v->Q v H'
theorem j0j {f1 f2 f3 f4 f5 f6 f7 f8:Addr}{fd1 fd2 fd3 fd4 fd5 fd6 fd7 fd8:FuncData}(u0u:Ent K mg "scanned_pattern" u1p ["line"] f fd)(T:Zs K mg)(Gd:Gds K mg w aM aK)(u1v:Ent K mg "lay_pattern" u2t ["groups","token"] f6 fd6)(u0r:Ent K mg "close_bracket" u1o ["groups"] f3 fd3)(u2g:Ent K mg "folded" u4a ["rows"] f1 fd1)(u0t:Ent K mg "gathered" u2o ["kind","patterns"] f2 fd2)(u1a:Ent K mg "is_name" u2s ["text"] f4 fd4)(u0d:Ent K mg "is_letter" u1d ["sign"] f5 fd5)(u2l:Ent K mg "tokens_of" u3b ["line"] f7 fd7)(u1u:Ent K mg "token_end" u3a ["line","begin"] f8 fd8):FnOk P w K mg base CX0 5 f fd ["line"] y9g:=by
 have u6b:=j3f (P:=P) (w:=w) (base:=base) u1v T Gd u0r u2g u0t u1a u0d;have u6m:=q7q (P:=P) (w:=w) (base:=base) u2l T Gd u1u u0d;have u6a:=x7n (P:=P) (w:=w) (base:=base) u2g T u0t;refine u0u.F.ok u2w (fun vs H Q E h=>?_) (fun cdv A outer s H vs Q E hr h=>?_)
 ·obtain⟨_,_,rfl,_⟩:=h;rfl
 ·obtain⟨l,F,rfl,sF0,hl,h34,q⟩:=h;have fn:∀a,H a=none->F a=none:=fun a=>sF0.free;have hu:=z4s hr;refine⟨_,(z0u (z2t (i:=1) u2w.nd rfl (Or.inl rfl) (z4v (z0i (z4v (z0i (z4v z0p) z0p)) z0p)))
   (z0u (y5e PassesOwn.never rfl (y3o (z6s u6m u2l (z0i (pv 0) z0p))) (z6c (i:=2) u2w.nd rfl (Or.inl rfl)) (z0v (z5g (y5m (z5x (z6s u6b u1v (z0i (pv 1) (z0i (pv 2) z0p))))) (z0v (z4u z6v)) z2i)))
   (z0v (z4u (z8s (z2b z1v (z3h z1e rfl T.z_len PySem.boot_len (z0i (pv 1) z0p)) z2q (z0k _)) (z6s u6a u2g (z0i (z5r z1t (pv 1) z2q (fun _ _=>rfl)) z0p)) z6v))))),?_⟩
  have sz:=z0y;walk_at "rs";refine⟨by omega,fun p1 h1=>⟨by omega,fun p2 n2 h2=>⟨by omega,fun p3 n3 n3' h3=>?_⟩⟩⟩;have G:GS H F (upd (upd (upd H p1 (.lst [])) p2 (.lst [.ref p1])) p3 (.lst [.ref p2])) p3 [(p2,[p1])] ([].reverse++[[[]]]):=by
   refine⟨z0g,.cons ⟨by rw[z0j (Ne.symm n3),z0g];rfl,.cons ⟨[],by rw[z0j (Ne.symm n3'),z0j (Ne.symm n2),z0g],rfl⟩ .nil⟩ .nil,?_,?_,((sF0.upd (fn _ h1)).upd (fn _ h2)).upd (fn _ h3)⟩
   ·simp[adrG,n2,n3,n3']
   ·intro a ha;simp[adrG]at ha;rcases ha with rfl|rfl|rfl<;>exact⟨fn _ (by assumption),by assumption⟩
  refine j0d (ds:=[.str (strC l)]) (Qd:=fun _ d _=>d=.lst ((tok l).map fun t=>.str (strC t))) G.sub ⟨_,[],rfl,rfl,rfl⟩ ⟨l,rfl,by omega,h34,rfl⟩ fun b d δ' v F2 H2 s2 sF s3 new ed rv=>?_;subst ed;obtain⟨a,vs,rfl,ha,rvs⟩:=rv;have evs:vs=(tok l).map fun t=>V.str (strC t):=by
   have:=Reps.strs (ks:=(tok l).map strC) (by rw[map_map];exact rvs);rw[this,map_map];rfl
  subst evs;have G2:GS H F2 H2 p3 [(p2,[p1])] ([].reverse++[[[]]]):=G.mono sF s3 (fun a ha=>by
   cases ea:F2 a with
   |none=>rfl
   |some o =>
    obtain⟨o',eo⟩:=G.at a ha;have:=new a o ea (G.fr a ha).1;rw[eo]at this;cases this) fun a ha o e=>s2 _ _ e
  have tl:=j1l l;have sH0:Same H (upd (upd (upd H p1 (.lst [])) p2 (.lst [.ref p1])) p3 (.lst [.ref p2])):=((Same.of_new h1).upd h2).upd h3;have nw0:NWs F F2 H:=fun a o e n=>sH0.free (new a o e n);refine⟨a,rfl,⟨_,SqL.of (s3 _ _ ha)⟩,q1k (xs:=(tok l).map fun t=>V.str (strC t)) (fun i σ H'=>∃F' gs k rows x2,σ=[some (.str (strC l)),some (.ref p3),x2]/\runR ((tok l).take i) ([],[[]])=some (k,rows)/\Same F2 F'/\NWs F2 F' H/\GS H F' H' p3 gs (k.reverse++[rows])/\Same H H'/\BdS (i+1) (k,rows)) ⟨F2,_,[],[[]],none,rfl,rfl,Same.refl _,NWs.refl _ _,G2,sH0.trans s2,⟨by simp,⟨by simp,by simp,by simp⟩,by simp⟩⟩ (fun i σ H' _ h=>?_) (fun i x σ H' hx h=>?_) fun σ H' h=>?_⟩
  ·obtain⟨F',gs,k,rows,x2,rfl,hrun,sFF,nw,g,sH,bd⟩:=h;exact SqL.of (g.sub _ _ (sFF _ _ ha))
  ·obtain⟨F',gs,k,rows,x2,rfl,hrun,sFF,nw,g,sH,bd⟩:=h;rw[getElem?_map]at hx;obtain⟨t,ht,rfl⟩:=map_eq_some_iff.mp hx;have hi:=(List.getElem?_eq_some_iff.mp ht).1;obtain⟨r1,r2⟩:=j0e hrun ht;have htl:=q9z (mem_of_getElem? ht);walk_at "rs";unfold tIfS;walk_at "rs";have bd':BdS 90000 (k,rows):=bd.le (by omega);refine⟨H,F',p3,gs,k,rows,t,rfl,g,sH,bd',by omega,fun b H3 out res=>?_⟩;have s03:Same H H3:=fun a o e=>out a o (sH _ _ e) fun z=>by rw[(g.fr a z).2]at e;cases e
   walk_at "rd";cases el:layR (k,rows) t with
   |none =>
    rw[el]at res;cases res;have:z9n l=none:=by unfold z9n;rw[r2 el];rfl
    rw[this]at q;exact q _ F H3 s03 (Same.refl _) (sF0.trans s03) (NWs.refl _ _) rfl
   |some st =>
    rw[el]at res;obtain⟨rfl,F3,gs3,sF3,nw3,g3⟩:=res;exact⟨F3,gs3,st.1,st.2,by rw[r1,el],sFF.trans sF3,nw.trans nw3,g3,s03,bd.step el⟩
  ·obtain⟨F',gs,k,rows,x2,rfl,hrun,sFF,nw,g,sH,bd⟩:=h;rw[length_map,List.take_length]at hrun;rw[length_map]at bd;have gl:=z9l g.grp;simp at gl;have htop:=g.top;have hkl:k.length<=(tok l).length+1:=bd.kl;walk_at "rd";refine⟨_,htop,?_⟩;cases k with
   |cons r0 k =>
    simp at gl;have:z9n l=none:=by unfold z9n;rw[hrun];rfl
    rw[this]at q;rw[if_neg (by simp;omega)];exact q _ F H' sH (Same.refl _) (sF0.trans sH) (NWs.refl _ _) rfl
   |nil =>
    have hs:z9n l=z5o rows:=by unfold z9n;rw[hrun];rfl
    obtain⟨gs,⟨g1,ras⟩,rfl,p1',p2'⟩:=z2d g.grp;have:gs=[]:=by simpa using gl
    subst this;rw[if_pos (by simp)];refine⟨_,htop,.ref g1,rfl,?_⟩;obtain⟨F3,s4,G3,rp,nw4⟩:=GS.popG (gs:=[]) (G:=[]) g;have s5:Same F3 H':=fun b o e=>by
     have hb:b≠p3:=fun z=>by rw[z,(G3.fr p3 mem_cons_self).1]at e;cases e
     have:=G3.sub b o e;rwa [z0j hb]at this
    refine j0d (ds:=[.lst (rows.map fun r=>.lst (r.map patD))]) (Qd:=fun _ d _=>d=optP (z5o rows)) s5 ⟨.ref g1,[],rfl,rp,rfl⟩ ⟨rows,rfl,?_,fun r hr=>?_,rfl⟩ fun b d δ' v F4 H3 s6 s7 s8 new4 ed rv=>?_
    ·exact le_trans bd.top.2.1 (by omega)
    ·exact le_trans (bd.top.2.2 r hr) (by omega)
    ·subst ed;rw[hs]at q;exact q v F4 H3 (sH.trans s6) (sF.trans (sFF.trans (s4.trans s7))) s8 (nw0.trans (nw.trans (nw4.trans fun a o e n=>sH.free (new4 a o e n)))) rv
noncomputable def sumT (f:Cs->Nat):List Cs->Nat
 | []=>0
 |t::ts=>f t+sumT f ts
theorem q5k:∀(ts:List Cs)(st st':List Rws×Rws)(c N:Nat),BdS N st->StOk c st->runR ts st=some st'->StOk (c+sumT cntD ts) st'/\WSt st' <= WSt st+sumT (fun t=>t.length+12) ts/\BdS (N+ts.length) st'
 | [],st,st',c,N,b,h,e=>by cases e;exact⟨by simpa[sumT] using h,by simp[sumT],by simpa using b⟩
 |t::ts,st,st',c,N,b,h,e=>by
  rw[runR]at e;cases el:layR st t with
  |none=>rw[el]at e;cases e
  |some s1 =>
   rw[el,bind_some]at e;obtain⟨h1,h2⟩:=h.step b.top.1 (fun q hq=>(b.low q hq).1) el;obtain⟨g1,g2,g3⟩:=q5k ts s1 st' (c+cntD t) (N+1) (b.step el) h1 e;refine⟨by rw[sumT,<-Nat.add_assoc];exact g1,by rw[sumT];omega,by rw[length_cons];exact g3.le (by omega)⟩
theorem z7t (f:Cs->Nat)(g:Cs->Nat)(hf:∀t,t≠[]->f t<=g t)(hg:∀a b,g (a++b)=g a+g b):∀(n:Nat)(l:Cs),sumT f (z2z n l)<=g l+(if l=[] then 0 else 0)
 |0,l=>by simp[z2z,sumT]
 |n+1,[]=>by simp[z2z,sumT]
 |n+1,c::r=>by
  rw[z3j];split
  ·have h1:=z7t f g hf hg n (r.dropWhile isL);have h2:=hf (c::r.takeWhile isL) (by simp);have h3:c::r=(c::r.takeWhile isL)++r.dropWhile isL:=by rw[cons_append,List.takeWhile_append_dropWhile]
   have h4:=hg (c::r.takeWhile isL) (r.dropWhile isL);rw[<-h3]at h4;rw[sumT];split at h1<;>simp<;>omega
  ·have h1:=z7t f g hf hg n r;have h2:=hf [c] (by simp);have h4:=hg [c] r;rw[singleton_append]at h4;rw[sumT];split at h1<;>simp<;>omega
theorem z8m (f:Cs->Nat)(p:Cs->Bool):∀ts:List Cs,sumT f (ts.filter p)<=sumT f ts
 | []=>le_refl _
 |t::ts=>by
  have:=z8m f p ts;rw[filter_cons];split
  ·rw[sumT,sumT];omega
  ·rw[sumT];omega
theorem q8o (l:Cs):sumT cntD (tok l)<=cntD l:=by
 have h1:=z8m cntD (fun t=>decide (t≠[32])) (z2z l.length l);have h2:=z7t cntD cntD (fun _ _=>le_refl _) z1q l.length l;simp only[ite_self,Nat.add_zero]at h2;exact le_trans h1 h2
theorem j5e (l:Cs):sumT (fun t=>t.length+12) (tok l)<=13 * l.length:=by
 have h1:=z8m (fun t=>t.length+12) (fun t=>decide (t≠[32])) (z2z l.length l);have h2:=z7t (fun t=>t.length+12) (fun t=>13 * t.length) (fun t ht=>by
  have:t.length≠0:=fun z=>ht (eq_nil_of_length_eq_zero z);omega) (fun a b=>by rw[length_append];omega) l.length l
 simp only[ite_self,Nat.add_zero]at h2;exact le_trans h1 h2
theorem x0k {l:Cs}{p:Pat}(h:z9n l=some p):okT p=true/\dpP p<=2 * cntD l+2/\wtP p<=12+13 * l.length:=by
 unfold z9n at h;cases e:runR (tok l) ([],[[]]) with
 |none=>rw[e]at h;cases h
 |some st =>
  rw[e,bind_some]at h;obtain⟨k,rows⟩:=st;obtain⟨g1,g2,_⟩:=q5k (tok l) ([],[[]]) (k,rows) 0 1 ⟨by simp,⟨by simp,by simp,by simp⟩,by simp⟩ ⟨by simp,fun r hr p hp=>by simp at hr;subst hr;simp at hp,fun q hq=>by simp at hq⟩ e;cases k with
  |cons a b=>cases h
  |nil =>
   have h:z5o rows=some p:=h;have t1:=q8o l;have t2:=j5e l;obtain⟨a1,a2,a3⟩:=x8e (n:=2 * (0+sumT cntD (tok l))) (fun r hr q hq=>by obtain⟨a,b⟩:=g1.top r hr q hq;exact⟨a,by dsimp only[length_nil]at b;omega⟩) h;have e2:WSt (([],[[]]):List Rws×Rws)=12:=by simp[WSt,z5s,wrow,wtPs,wstk]
   have e3:WSt (([],rows):List Rws×Rws)=z5s rows:=by simp[WSt,wstk]
   exact⟨a1,by omega,by omega⟩
theorem x1z {p:Pat}(h:okT p=true):z9n (txt p)=some p:=by
 obtain⟨rows,h1,h2⟩:=q1p h;unfold z9n;rw[h1];exact h2
def z5c (l:Cs):Option Pat:=(z9n l).bind fun p=>if txt p=l then some p else none
theorem readR_iff {l:Cs}{p:Pat}:z5c l=some p↔okT p=true/\txt p=l:=by
 unfold z5c;constructor
 ·intro h;cases e:z9n l with
  |none=>rw[e]at h;cases h
  |some q =>
   rw[e,bind_some]at h;split at h
   ·cases h;exact⟨(x0k e).1,by assumption⟩
   ·cases h
 ·rintro⟨h1,rfl⟩;rw[x1z h1,bind_some,if_pos rfl]
def z5a (r:Str×Pat):D:=.tup [.str r.1,patD r.2]
theorem z5j (root:Str)(rules:List (Str×Pat)):y0q root rules=.tup [.str root,.lst (rules.map z5a)]:=rfl
theorem x7b:∀(l acc:List Str),(acc++l).Nodup->l.foldl z6k acc=acc++l
 | [],acc,_=>by simp
 |x::l,acc,nd=>by
  have hx:x∉acc:=fun h=>by
   rw[nodup_append]at nd;exact nd.2.2 x h x mem_cons_self rfl
  rw[foldl_cons];have e:z6k acc x=acc++[x]:=by unfold z6k;rw[if_neg hx]
  rw[e,x7b l (acc++[x]) (by simpa using nd)];simp
theorem y4w (ks:List Str):(range ks.length).map (fun i=>ks.getD i "")=ks:=by
 apply List.ext_getElem
 ·simp
 ·intro i h1 h2;simp;rw[getElem?_eq_getElem h2];rfl
theorem q2z {ks:List Str}(nd:ks.Nodup):(metS (fun i=>ks.getD i "") ks.length).length=ks.length:=by
 unfold metS;rw[y4w,x7b ks [] (by simpa using nd)];simp
theorem x2g (kds:List (Key×D))(k j:Str)(d:D):getS (putS kds k d) j=if j=k then some d else getS kds j:=by
 unfold putS;split
 ·rename_i h;induction kds with
  |nil=>simp at h
  |cons a r ih =>
   by_cases ha:a.1=.inr k
   ·by_cases hj:j=k
    ·subst hj;simp[getS,find?_cons,ha]
    ·have:¬(Sum.inr k:Key)=.inr j:=fun z=>hj (Sum.inr.inj z).symm;rw[if_neg hj];simp only[getS,map_cons,ha,if_true,find?_cons,this,decide_false];clear ih h;induction r with
     |nil=>rfl
     |cons b r ih =>
      simp only[map_cons,find?_cons];by_cases hb:b.1=.inr k
      ·simp only[hb,if_true,this,decide_false];exact ih
      ·simp only[hb,if_false];cases decide (b.1=Sum.inr j) with
       |true=>rfl
       |false=>exact ih
   ·have h':(r.any fun kv=>decide (kv.1=.inr k))=true:=by simpa[ha] using h
    have:=ih h';simp only[getS,map_cons,ha,if_false,find?_cons]at this ⊢;by_cases hj:j=k
    ·subst hj;simpa[ha] using this
    ·cases decide (a.1=Sum.inr j) with
     |true=>simp[hj]
     |false=>exact this
 ·rename_i h;unfold getS;rw[List.find?_append];by_cases hj:j=k
  ·subst hj;have:kds.find? (fun kv=>decide (kv.1=.inr j))=none:=by
    rw[List.find?_eq_none];intro x hx hd;exact h (List.any_eq_true.mpr ⟨x,hx,hd⟩)
   simp[this]
  ·rw[if_neg hj];have:¬(Sum.inr k:Key)=.inr j:=fun z=>hj (Sum.inr.inj z).symm;simp[find?_cons,this]
theorem j1v:bootBuiltins "ValueError" = some (.type "ValueError"):=by decide +kernel
inductive Kd where
 |tw|nn|st
noncomputable def Kd.str:Kd->Str
 |.tw=>"twice"
 |.nn=>"none"
 |.st=>"text"
noncomputable def Kd.cls (CT CN CS:Addr):Kd->Addr
 |.tw=>CT
 |.nn=>CN
 |.st=>CS
noncomputable def isK:Option Kd->Kd->Bool
 |some .tw,.tw=>true
 |some .nn,.nn=>true
 |some .st,.st=>true
 |_,_=>false
noncomputable def tyK (CT CN CS:Addr):Option Kd->Value
 |none=>.type "NoneType"
 |some c=>.ref (c.cls CT CN CS)
structure XR (K:W.Frag)(mg:Str->Option Value)(CF CT CN CS Ct Cp Ck:Addr):Prop where
 z_ValueError:mg "ValueError" = none
 g_FerryError:mg "FerryError" = some (.ref CF)
 q_FerryError:fxIn K CF=true
 g_Twice:mg "Twice" = some (.ref CT)
 g_NoName:mg "NoName" = some (.ref CN)
 g_Stars:mg "Stars" = some (.ref CS)
 g_NoText:mg "NoText" = some (.ref Ct)
 g_NoPort:mg "NoPort" = some (.ref Cp)
 g_Taken:mg "Taken" = some (.ref Ck)
 i_Twice:∃fI fd od osl,xcIn K CT (.ref CF::mroV) fI=true/\Fun K "__init__" "Twice.__init__" i_Twice fI fd/\Binds K fd ["self","name"] []/\K.lookup fI=some ⟨.type "function",od,.func fd,osl⟩
 i_NoName:∃fI fd od osl,xcIn K CN (.ref CF::mroV) fI=true/\Fun K "__init__" "NoName.__init__" i_NoName fI fd/\Binds K fd ["self","name"] []/\K.lookup fI=some ⟨.type "function",od,.func fd,osl⟩
 i_NoText:∃fI fd od osl,xcIn K Ct (.ref CF::mroV) fI=true/\Fun K "__init__" "NoText.__init__" i_NoText fI fd/\Binds K fd ["self","row"] []/\K.lookup fI=some ⟨.type "function",od,.func fd,osl⟩
 k_Twice:keepIn K (.ref CT)=true
 k_NoName:keepIn K (.ref CN)=true
 k_NoText:keepIn K (.ref Ct)=true
 n_Twice:∀t:Option Kd,kitOne K (tyK CT CN Ct t) (.ref CT)=some (isK t .tw)
 n_NoName:∀t:Option Kd,kitOne K (tyK CT CN Ct t) (.ref CN)=some (isK t .nn)
 n_Stars:∀t:Option Kd,kitOne K (tyK CT CN Ct t) (.ref CS)=some (false)
 n_NoText:∀t:Option Kd,kitOne K (tyK CT CN Ct t) (.ref Ct)=some (isK t .st)
 n_NoPort:∀t:Option Kd,kitOne K (tyK CT CN Ct t) (.ref Cp)=some (false)
 n_Taken:∀t:Option Kd,kitOne K (tyK CT CN Ct t) (.ref Ck)=some (false)
 n_ValueError:∀t:Option Kd,kitOne K (tyK CT CN Ct t) (.type "ValueError")=some (t.isSome)
variable {CF CT CN CS Ct Cp Ck:Addr}
theorem XR.x_Twice (Y:XR K mg CF CT CN CS Ct Cp Ck):XK1 P w K mg base "Twice" "name" CT:=by
 obtain⟨fI,fd,od,osl,q,F,b,lk⟩:=Y.i_Twice;exact⟨⟨_,fI,fd,q,y9j F q0m rfl q (by simp),b,_,lk,rfl⟩,Y.g_Twice,Y.k_Twice⟩
theorem XR.x_NoName (Y:XR K mg CF CT CN CS Ct Cp Ck):XK1 P w K mg base "NoName" "name" CN:=by
 obtain⟨fI,fd,od,osl,q,F,b,lk⟩:=Y.i_NoName;exact⟨⟨_,fI,fd,q,y9j F x7i rfl q (by simp),b,_,lk,rfl⟩,Y.g_NoName,Y.k_NoName⟩
theorem XR.x_NoText (Y:XR K mg CF CT CN CS Ct Cp Ck):XK1 P w K mg base "NoText" "row" Ct:=by
 obtain⟨fI,fd,od,osl,q,F,b,lk⟩:=Y.i_NoText;exact⟨⟨_,fI,fd,q,y9j F x8x rfl q (by simp),b,_,lk,rfl⟩,Y.g_NoText,Y.k_NoText⟩
theorem _root_.L2.Fun.okX {x qual:Str}{st:Stmt}{f:Addr}{fd:FuncData}{N ps:List Str}{k:Nat}{sp:Sp}(F:Fun K x qual st f fd)(S:FnScope N ps (z0f st))(len:∀vs H Q E,sp vs H Q E->vs.length=ps.length)
  (hbody:∀(cdv:Value)(A:Around)(outer:List Env)(s:Shared)(H:Hp)(vs:List V)(Q:VK)(E:XK),Room k (A.deeper (PyProof.Rows.envOfC qual (z0f st) s.heap.objs.size f cdv))->sp vs H Q E ->
   ∃t,PSs (cxOf (CX1 P w) P w K mg base N qual (z0f st) f cdv A outer s H E) (z2o st) t/\t { nx:=fun _ H'=>Q .non H',rt:=Q } (start N vs) H):FnOk P w K mg base (CX1 P w) (k+1) f fd ps sp:=by
 obtain⟨oc,od,kV,doc,pm,an,cdv,ct,osl,rfl,lk,hcd⟩:=F.ex;exact q8u lk hcd S len fun A outer s H vs Q E hr hsp=>hbody cdv A outer s H vs Q E hr hsp
def XWishT (C:Addr)(k:Int)(H:Hp)(E:XK):Prop:=∀x dx H',Same H H'->H' x=some (XO C dx x)->H' dx=some (.xd [("row",.int k)])->E (.ref x) (some dx) H'
theorem XWishT.mono {C:Addr}{k:Int}{H H1:Hp}{E:XK}(s:Same H H1)(h:XWishT C k H E):XWishT C k H1 E:=fun x dx H' s'=>h x dx H' (s.trans s')
def XWish (C:Addr)(nm:Str)(H:Hp)(E:XK):Prop:=∀x dx H',Same H H'->H' x=some (XO C dx x)->H' dx=some (.xd [("name",.str nm)])->E (.ref x) (some dx) H'
theorem z8z {H H1:Hp}{x dx:Addr}{o1 o2:HO}(s:Same H H1)(n1:H1 x=none)(n2:H1 dx=none):Same H (upd (upd H1 dx o1) x o2):=fun b o e=>by
 have e1:=s b o e;rw[z0j (z0s e1 n1),z0j (z0s e1 n2)];exact e1
theorem XWish.mono {C:Addr}{nm:Str}{H H1:Hp}{E:XK}(s:Same H H1)(h:XWish C nm H E):XWish C nm H1 E:=fun x dx H' s'=>h x dx H' (s.trans s')
theorem q4y:∀(l acc:List Str),(l.foldl z6k acc).length<=acc.length+l.length
 | [],acc=>le_refl _
 |x::l,acc=>by
  have h:=q4y l (z6k acc x);have h2:(z6k acc x).length<=acc.length+1:=by unfold z6k;split<;>simp
  rw[foldl_cons,length_cons];omega
theorem q4v:∀(l acc:List Str),acc.Nodup->¬(acc++l).Nodup->(l.foldl z6k acc).length<acc.length+l.length
 | [],acc,h,n=>absurd (by simpa using h) n
 |x::l,acc,h,n=>by
  rw[foldl_cons,length_cons];by_cases hx:x∈acc
  ·rw[show z6k acc x=acc by unfold z6k;rw[if_pos hx]];have:=q4y l acc;omega
  ·rw[show z6k acc x=acc++[x] by unfold z6k;rw[if_neg hx]];have nd:(acc++[x]).Nodup:=nodup_append.mpr ⟨h,by simp,fun a ha b hb e=>hx (by simp at hb;rw[<-hb,<-e];exact ha)⟩;have:=q4v l (acc++[x]) nd (by simpa using n);rw[length_append,length_singleton]at this;omega
theorem y1b (ks:List Str):((metS (fun i=>ks.getD i "") ks.length).length<ks.length)↔¬ks.Nodup:=by
 constructor
 ·intro h nd;rw[q2z nd]at h;omega
 ·intro h;unfold metS;rw[y4w];have:=q4v ks [] List.nodup_nil (by simpa using h);simpa using this
noncomputable def twGo:List Str->List (Str×Pat)->Option Str
 |_,[]=>none
 |met,r::rs=>if r.1∈met \/ ¬(z0x r.2).Nodup then some r.1 else twGo (met++[r.1]) rs
noncomputable def badS (names:List Str)(s:Str):Bool:=decide (s ≠ "#")&&decide (s∉names)
def nmGo (names:List Str)(rules:List (Str×Pat)):Option Str:=(rules.flatMap fun r=>z0x r.2).find? (badS names)
def z1y (root:Str)(rules:List (Str×Pat)):Option (Kd×Str):=match twGo [] rules with
 |some n=>some (.tw,n)
 |none=>if root∈rules.map (·.1) then(nmGo (rules.map (·.1)) rules).map fun s=>(.nn,s) else some (.nn,root)
structure FormX (rules:List (Str×Pat)):Prop where
 len:rules.length<=20
 pat:∀r∈rules,szP r.2<=3900/\dpP r.2<=122
noncomputable def x0g (ns:List Str):List (Key×V):=ns.map fun n=>(Sum.inr n,.bl true)
theorem q0c (ns:List Str)(nm:Str):(valV (x0g ns) (Sum.inr nm)).isSome=decide (nm∈ns):=by
 unfold valV x0g;rw[isSome_map];by_cases h:nm∈ns
 ·rw[decide_eq_true h,List.find?_isSome];exact⟨_,mem_map.mpr ⟨nm,h,rfl⟩,by simp⟩
 ·rw[decide_eq_false h,Bool.eq_false_iff];intro z;rw[List.find?_isSome]at z;obtain⟨x,hx,hd⟩:=z;obtain⟨n,hn,rfl⟩:=mem_map.mp hx;have e:n=nm:=by simpa using hd
  rw[<-e]at h;exact h hn
theorem x9f {ns:List Str}{nm:Str}(h:nm∉ns):putK (x0g ns) (Sum.inr nm) (.bl true)=x0g (ns++[nm]):=by
 unfold putK;rw[if_neg]
 ·simp[x0g]
 ·intro z;obtain⟨x,hx,hd⟩:=List.any_eq_true.mp z;obtain⟨n,hn,rfl⟩:=mem_map.mp hx;have e:n=nm:=by simpa using hd
  rw[<-e]at h;exact h hn
def q3x (CT:Addr):Sp:=fun vs H Q E=>∃(rules:List (Str×Pat))(v:V),vs=[v]/\Rep H (.lst (rules.map z5a)) v/\FormX rules/\(∀nm,twGo [] rules=some nm->XWish CT nm H E)/\(twGo [] rules=none->∀H',Same H H'->Q .non H')
theorem j5y {f1 f2:Addr}{fd1 fd2:FuncData}(Y:XR K mg CF CT CN CS Ct Cp Ck)(u1i:Ent K mg "look_twice" u3j ["rules"] f fd)(T:Zs K mg)(u2y:Ent K mg "signs" u5i ["pattern"] f1 fd1)(u0f:Ent K mg "patterns_within" u0n ["pattern"] f2 fd2):FnOk P w K mg base (CX1 P w) 126 f fd ["rules"] (q3x CT):=by
 have u5r:=x1l (P:=P) (w:=w) (base:=base) u2y T u0f 123;refine u1i.F.okX u2v (fun vs H Q E h=>?_) (fun cdv A outer s H vs Q E hr h=>?_)
 ·obtain⟨_,_,rfl,_⟩:=h;rfl
 ·obtain⟨rules,v,rfl,rep,fx,wish,fin⟩:=h;obtain⟨o,hdue⟩:∃o,twGo [] rules=o:=⟨_,rfl⟩;rw[hdue]at wish fin;have hu:=z4s hr;refine⟨_,(z0u (z2t (i:=1) u2v.nd rfl (Or.inl rfl) q2j)
   (z0v (y5e PassesOwn.leaving rfl (y3o (pv 0)) (x1a rfl (z7s (z6c (i:=2) u2v.nd rfl (Or.inl rfl)) (z7s (z6c (i:=3) u2v.nd rfl (Or.inl rfl)) y5q))) (z0u (z2t (i:=4) u2v.nd rfl (Or.inl rfl) (z6s u5r u2y (z0i (pv 3) z0p)))
   (z0u (z5g (PW.pt (x6v (q0e (j7c (hu1 hu) (pv 2) (pv 1)) rfl) (y7c (z2b y5x (y8g rfl rfl T.z_len rfl T.z_set (pv 4)) (z3h z1e rfl T.z_len PySem.boot_len (z0i (pv 4) z0p)) (z0k _))))) (z0v (z8q Y.x_Twice (hr.mono (by omega)) rfl (z0i (pv 2) z0p))) z2i)
   (z0v (q9b (hu1 hu) (pv 1) (pv 2) y7i rfl))))))),?_⟩
  have sz:=z0y;have hl:=fx.len;obtain⟨a,us,rfl,ha,rs⟩:=rep;walk_at "rs";have hlen:us.length=rules.length:=by have:=rs.len;simpa using this.symm
  refine fun p hp=>⟨⟨us,SqL.of (by rw[z0j (z0s ha hp)];exact ha)⟩,q1k (xs:=us) (fun i σ H'=>∃pre suf x2 x3 x4,rules=pre++suf/\pre.length=i/\twGo (pre.map (·.1)) suf=o/\σ=[some (.ref a),some (.ref p),x2,x3,x4]/\Same H H'/\H' p=some (.dK (x0g (pre.map (·.1))))) ⟨[],rules,none,none,none,rfl,rfl,hdue,rfl,fun b ob e=>by rw[z0j (z0s e hp)];exact e,z0g⟩ (fun i σ H' _ h=>?_) (fun i x σ H' hx h=>?_) fun σ H' h=>?_⟩
  ·obtain⟨_,_,_,_,_,_,_,_,_,sm,_⟩:=h;exact SqL.of (sm _ _ ha)
  ·obtain⟨pre,suf,x2,x3,x4,e1,e2,e3,rfl,sm,hd⟩:=h;have hi:=(List.getElem?_eq_some_iff.mp hx).1;cases suf with
   |nil=>rw[append_nil]at e1;rw[e1,e2]at hlen;omega
   |cons r0 suf =>
    obtain⟨nm,pt⟩:=r0;obtain⟨o1,o2⟩:=fx.pat (nm,pt) (by rw[e1];simp);have o1:szP pt<=3900:=o1;have o2:dpP pt<=122:=o2;obtain⟨v,hv,rv⟩:=rs.get (i:=i) (d:=z5a (nm,pt)) (by rw[e1];simp[<-e2]);rw[hx]at hv;cases hv;obtain⟨t,vs2,rfl,ht,v1,r1,rfl,rv1,v2,r2,rfl,rv2,r3⟩:=rv;cases(show r2=[] from r3);cases(show v1=.str nm from rv1);have ht2:=sm _ _ ht;walk_at "rs";refine⟨_,.inl (.inl ht2),rfl,_,_,rfl,_,_,rfl,rfl,?_⟩;rw[show twGo (pre.map (·.1)) ((nm,pt)::suf)=(if nm∈pre.map (·.1) \/ ¬(z0x pt).Nodup then some nm else twGo (pre.map (·.1)++[nm]) suf) from rfl]at e3;refine z5f (ds:=[patD pt]) (Reps.one (Rep.mono sm _ _ rv2)) (Qd:=fun _ d _=>d=.lst ((z0x pt).map .str)) ⟨pt,rfl,by omega,by omega,rfl⟩ fun b d δ' v H2 s2 qd r2=>?_;cases qd;obtain⟨l,lv,rfl,hlv,rl⟩:=r2;have elv:=rl.strs;subst elv;walk_at "rd";have sl:=z4b pt;have wx:o=some nm->∀(x dx:Addr),H2 x=none->H2 dx=none->¬dx=x->E (Value.ref x) (some dx) (upd (upd H2 dx (HO.xd [("name",V.str nm)])) x (XO CT dx x)):=fun en x dx n1 n2 n3 =>
     wish nm en x dx _ (z8z (sm.trans s2) n1 n2) z0g (by rw[z0j n3,z0g])
    refine⟨_,DGet.o (s2 _ _ hd),?_⟩;rw[q0c];simp only[decide_eq_true_eq];refine ite2 (fun hn=>wx ?_) fun hn=>⟨z0x pt,hlv,by omega,_,hlv,ite2 (fun h=>wx ?_) fun h=>?_⟩
    ·rw[if_pos (.inl hn)]at e3;exact e3.symm
    ·rw[if_pos (.inr ((y1b _).mp (by rw[length_map]at h;omega)))]at e3;exact e3.symm
    ·have nd:(z0x pt).Nodup:=by
      by_cases z:(z0x pt).Nodup
      ·exact z
      ·exact absurd (by have:=(y1b _).mpr z;rw[length_map];omega) h
     rw[if_neg (by rintro(z|z);exact hn z;exact z nd)]at e3;have hpl:pre.length<=rules.length:=by rw[e1];simp
     refine⟨_,DPut.s (s2 _ _ hd) (by simp[x0g];omega),pre++[(nm,pt)],suf,by simp[e1],by simp[e2],by rw[map_append];exact e3,fun b o e=>?_,by rw[z0g,x9f hn];simp⟩;have e4:=(sm.trans s2) b o e;rw[z0j]
     ·exact e4
     ·intro z;subst z;rw[hp]at e;cases e
  ·obtain⟨pre,suf,x2,x3,x4,e1,e2,e3,rfl,sm,hd⟩:=h;rw[hlen]at e2;have:suf=[]:=by
    have:=congrArg List.length e1;rw[length_append]at this;exact eq_nil_of_length_eq_zero (by omega)
   subst this;exact fin e3.symm _ sm
def tabF (rules:List (Str×Pat)):List (Key×D):=rules.foldl (fun acc r=>putS acc r.1 (patD r.2)) []
def z6w:List (Str×Pat)->Str->Option Pat
 | [],_=>none
 |r::rs,s=>if r.1=s then some r.2 else z6w rs s
theorem x0h (r:Str×Pat)(rs:List (Str×Pat))(s:Str):z6w (r::rs) s=if r.1=s then some r.2 else z6w rs s:=rfl
theorem z8g {s:Str}:∀{rules:List (Str×Pat)},s∉rules.map (·.1)->z6w rules s=none
 | [],_=>rfl
 |r::rs,h=>by
  simp at h;unfold z6w;rw[if_neg (fun e=>h.1 e.symm)];exact z8g (by simpa using h.2)
theorem y1p {s:Str}:∀{rules:List (Str×Pat)},s∈rules.map (·.1)->∃p,z6w rules s=some p
 |r::rs,h=>by
  unfold z6w;by_cases e:r.1=s
  ·exact⟨_,if_pos e⟩
  ·rw[if_neg e];exact y1p (by
    rcases mem_cons.mp (show s∈r.1::rs.map (·.1) from h) with z|z
    ·exact absurd z.symm e
    ·exact z)
theorem y7g (s:Str)(g:Pat->D):∀(rules:List (Str×Pat))(acc:List (Key×D)),(rules.map (·.1)).Nodup->getS (rules.foldl (fun acc r=>putS acc r.1 (g r.2)) acc) s=match z6w rules s with|some p=>some (g p)|none=>getS acc s
 | [],acc,_=>rfl
 |r::rs,acc,nd=>by
  rw[map_cons,nodup_cons]at nd;rw[foldl_cons,y7g s g rs _ nd.2,x0h];by_cases e:r.1=s
  ·subst e;rw[if_pos rfl,z8g nd.1,x2g,if_pos rfl]
  ·rw[if_neg e];cases z6w rs s with
   |some p=>rfl
   |none=>simp only;rw[x2g,if_neg (fun z=>e z.symm)]
theorem q0n {rules:List (Str×Pat)}(nd:(rules.map (·.1)).Nodup)(s:Str):getS (tabF rules) s=(z6w rules s).map patD:=by
 unfold tabF;rw[y7g s patD rules [] nd];cases z6w rules s<;>rfl
theorem j1c {rules:List (Str×Pat)}(nd:(rules.map (·.1)).Nodup)(s:Str):(getS (tabF rules) s).isSome=decide (s∈rules.map (·.1)):=by
 rw[q0n nd,isSome_map];by_cases h:s∈rules.map (·.1)
 ·obtain⟨p,hp⟩:=y1p h;rw[hp,decide_eq_true h];rfl
 ·rw[z8g h,decide_eq_false h];rfl
def q4e (CN:Addr):Sp:=fun vs H Q E=>∃(root:Str)(rules:List (Str×Pat))(v:V),vs=[.str root,v]/\Rep H (.lst (rules.map z5a)) v/\FormX rules/\(rules.map (·.1)).Nodup/\(∀nm,(if root∈rules.map (·.1) then nmGo (rules.map (·.1)) rules else some root)=some nm->XWish CN nm H E)/\((if root∈rules.map (·.1) then nmGo (rules.map (·.1)) rules else some root)=none->∀H',Same H H'->Q .non H')
theorem j3j {f1 f2:Addr}{fd1 fd2:FuncData}(Y:XR K mg CF CT CN CS Ct Cp Ck)(u1j:Ent K mg "look_names" u3k ["root","rules"] f fd)(T:Zs K mg)(u2y:Ent K mg "signs" u5i ["pattern"] f1 fd1)(u0f:Ent K mg "patterns_within" u0n ["pattern"] f2 fd2):FnOk P w K mg base (CX1 P w) 126 f fd ["root","rules"] (q4e CN):=by
 have u5r:=x1l (P:=P) (w:=w) (base:=base) u2y T u0f 123;obtain⟨tk,h_TEXT_SIGN⟩:=T.g_TEXT_SIGN;refine u1j.F.okX u3o (fun vs H Q E h=>?_) (fun cdv A outer s H vs Q E hr h=>?_)
 ·obtain⟨_,_,_,rfl,_⟩:=h;rfl
 ·obtain⟨root,rules,v,rfl,rep,fx,nd,wish,fin⟩:=h;obtain⟨o,hdue⟩:∃o,(if root∈rules.map (·.1) then nmGo (rules.map (·.1)) rules else some root)=o:=⟨_,rfl⟩;rw[hdue]at wish fin;have hu:=z4s hr;refine⟨_,(z0u (z2t (i:=2) u3o.nd rfl (Or.inl rfl) (y6y (y3t rfl) rfl T.z_dict boot_dict (z0i (pv 1) z0p)))
   (z0u (z5g (q0e (y7v (hu1 hu) (pv 0) (pv 2)) rfl) (z0v (z8q Y.x_NoName (hr.mono (by omega)) rfl (z0i (pv 0) z0p))) z2i)
   (z0v (y5e PassesOwn.leaving rfl (y3o (pv 1)) (z6c (i:=3) u3o.nd rfl (Or.inl rfl)) (z0v (y5e PassesOwn.leaving rfl (y3o (z6s u5r u2y (z0i (z5r z1d (pv 3) z2q (fun _ _=>rfl)) z0p))) (z6c (i:=4) u3o.nd rfl (Or.inl rfl)) (z0v (z5g (PW.pt (y4f (z2b z7h (pv 4) (y6i (v:=.str "#") rfl h_TEXT_SIGN ⟨_,rfl⟩) (z0k _)) (z8n (q0e (y7v (hu1 hu) (pv 4) (pv 2)) rfl)))) (z0v (z8q Y.x_NoName (hr.mono (by omega)) rfl (z0i (pv 4) z0p))) z2i)))))))),?_⟩
  have sz:=z0y;have hl:=fx.len;obtain⟨a,us,rfl,ha,rs⟩:=rep;have hlen:us.length=rules.length:=by have:=rs.len;simpa using this.symm
  have rs':Reps H ((rules.map fun r=>(r.1,patD r.2)).map fun p=>D.tup [.str p.1,p.2]) us:=by
   rw[map_map];exact rs
  obtain⟨qs,q1,q2,q3⟩:=x2a rs';have q4:=q3 [] [] rfl;rw[List.foldl_map,show rules.foldl (fun acc r=>putS acc r.1 (patD r.2)) []=tabF rules from rfl]at q4;walk_at "rs";refine⟨us,ha,qs,q1,q2,fun l hl'=>?_⟩;have sm0:Same H (upd H l (.dK (z7e [] qs))):=Same.of_new hl';have hd0:upd H l (.dK (z7e [] qs)) l=some (.dK (z7e [] qs)):=z0g;generalize upd H l (.dK (z7e [] qs))=H0 at sm0 hd0 ⊢;have wx:∀(H2:Hp)(s:Str),Same H H2->o=some s->∀(x dx:Addr),H2 x=none->H2 dx=none->¬dx=x->E (Value.ref x) (some dx) (upd (upd H2 dx (HO.xd [("name",V.str s)])) x (XO CN dx x)):=fun H2 s s2 en x dx n1 n2 n3 =>
   wish s en x dx _ (z8z s2 n1 n2) z0g (by rw[z0j n3,z0g])
  walk_at "rd";have hval:∀s:Str,(valV (z7e [] qs) (Sum.inr s)).isSome=decide (s∈rules.map (·.1)):=fun s=>by
   rw[<-j1c nd s];have z:=RepK.val s q4;cases e:getS (tabF rules) s with
   |none=>rw[z.2 e];rfl
   |some d=>obtain⟨v,hv,_⟩:=z.1 d e;rw[hv];rfl
  refine⟨_,DGet.o hd0,?_⟩;rw[hval];by_cases hroot:root∈rules.map (·.1)
  ·rw[if_pos hroot]at hdue;refine⟨false,by simp[hroot],iteF ⟨⟨us,SqL.of (sm0 _ _ ha)⟩,q1k (xs:=us) (fun i σ H'=>∃pre suf x3 x4,rules=pre++suf/\pre.length=i/\nmGo (rules.map (·.1)) suf=o/\σ=[some (.str root),some (.ref a),some (.ref l),x3,x4]/\Same H0 H') ⟨[],rules,none,none,rfl,rfl,hdue,rfl,Same.refl _⟩ (fun i σ H' _ h=>?_) (fun i x σ H' hx h=>?_) fun σ H' h=>?_⟩⟩
   ·obtain⟨_,_,_,_,_,_,_,_,sm⟩:=h;exact SqL.of (sm _ _ (sm0 _ _ ha))
   ·obtain⟨pre,suf,x3,x4,e1,e2,e3,rfl,sm⟩:=h;have hi:=(List.getElem?_eq_some_iff.mp hx).1;cases suf with
    |nil=>rw[append_nil]at e1;rw[e1,e2]at hlen;omega
    |cons r0 suf =>
     obtain⟨n1,pt⟩:=r0;obtain⟨o1,o2⟩:=fx.pat (n1,pt) (by rw[e1];simp);have o1:szP pt<=3900:=o1;have o2:dpP pt<=122:=o2;obtain⟨v,hv,rv⟩:=rs.get (i:=i) (d:=z5a (n1,pt)) (by rw[e1];simp[<-e2]);rw[hx]at hv;cases hv;obtain⟨t,vs2,rfl,ht,v1,r1,rfl,rv1,v2,r2,rfl,rv2,r3⟩:=rv;cases(show r2=[] from r3);have smA:=sm0.trans sm;walk_at "rs";refine⟨_,smA _ _ ht,_,atI1,?_⟩;refine z5f (ds:=[patD pt]) (Reps.one (Rep.mono smA _ _ rv2)) (Qd:=fun _ d _=>d=.lst ((z0x pt).map .str)) ⟨pt,rfl,by omega,by omega,rfl⟩ fun b d δ' v H2 s2 qd r2=>?_;cases qd;obtain⟨l2,lv,rfl,hlv,rl⟩:=r2;have elv:=rl.strs;subst elv;have e3':((z0x pt)++suf.flatMap fun r=>z0x r.2).find? (badS (rules.map (·.1)))=o:=e3;refine⟨l2,rfl,⟨_,SqL.of hlv⟩,q1k (xs:=(z0x pt).map V.str) (fun j σ H'=>∃pr sf x4,z0x pt=pr++sf/\pr.length=j/\(sf++suf.flatMap fun r=>z0x r.2).find? (badS (rules.map (·.1)))=o/\σ=[some (.str root),some (.ref a),some (.ref l),some (.ref t),x4]/\Same H2 H') ⟨[],z0x pt,x4,rfl,rfl,e3',rfl,Same.refl _⟩ (fun j σ H' _ h=>?_) (fun j y σ H' hy h=>?_) fun σ H' h=>?_⟩
     ·obtain⟨_,_,_,_,_,_,_,s3⟩:=h;exact SqL.of (s3 _ _ hlv)
     ·obtain⟨pr,sf,x4',f1,f2,f3,rfl,s3⟩:=h;cases sf with
      |nil =>
       rw[append_nil]at f1;have:=(List.getElem?_eq_some_iff.mp hy).1;rw[length_map,f1,f2]at this;omega
      |cons sg sf =>
       have ey:y=.str sg:=by
        rw[getElem?_map,f1,<-f2]at hy;simpa using hy.symm
       subst ey;have smB:=(smA.trans s2).trans s3;have hdl:=s3 _ _ (s2 _ _ (sm _ _ hd0));rw[cons_append,find?_cons]at f3;walk_at "rd";have go:badS (rules.map (·.1)) sg=false->∃pr sf,z0x pt=pr++sf/\pr.length=j+1/\find? (badS (List.map (fun x=>x.fst) rules)) (sf++flatMap (fun r=>z0x r.snd) suf)=o/\Same H2 H':=fun hb=>by
        rw[hb]at f3;exact⟨pr++[sg],sf,by simp[f1],by simp[f2],f3,s3⟩
       by_cases h1:sg = "#"
       ·exact⟨false,by simp[h1],iteF (go (by simp[badS,h1]))⟩
       ·refine⟨true,by simp[h1],iteT ⟨_,DGet.o hdl,?_⟩⟩;rw[hval];by_cases h2:sg∈rules.map (·.1)
        ·exact⟨false,by simp[h2],iteF (go (by simp only[badS,h2,not_true,decide_false,Bool.and_false]))⟩
        ·have hb:badS (rules.map (·.1)) sg=true:=by simp only[badS,ne_eq,h1,h2,not_false_eq_true,decide_true,Bool.and_true]
         rw[hb]at f3;exact⟨true,by simp[h2],iteT (wx H' sg smB f3.symm)⟩
     ·obtain⟨pr,sf,x4',f1,f2,f3,rfl,s3⟩:=h;have:sf=[]:=by
       have:=congrArg List.length f1;rw[length_append]at this;rw[length_map]at f2;exact eq_nil_of_length_eq_zero (by omega)
      subst this;exact⟨pre++[(n1,pt)],suf,by simp[e1],by simp[e2],f3,_,_,rfl,(sm.trans s2).trans s3⟩
   ·obtain⟨pre,suf,x3,x4,e1,e2,e3,rfl,sm⟩:=h;rw[hlen]at e2;have:suf=[]:=by
     have:=congrArg List.length e1;rw[length_append]at this;exact eq_nil_of_length_eq_zero (by omega)
    subst this;exact fin e3.symm _ (sm0.trans sm)
  ·rw[if_neg hroot]at hdue;exact⟨true,by simp[hroot],iteT (wx H0 root sm0 hdue.symm)⟩
structure PatT (p:Pat):Prop where
 nd:(z0x p).Nodup
 sz:szP p<=3900
 dp:dpP p<=122
structure FormT (rules:List (Str×Pat)):Prop where
 len:rules.length<=20
 nd:(rules.map (·.1)).Nodup
 pat:∀r∈rules,PatT r.2
structure PatG (zs:List Str)(p:Pat):Prop where
 nd:(z0x p).Nodup
 sg:∀s∈z0x p,s = "#" \/ s∈zs
 sz:szP p<=3900
 dp:dpP p<=122
structure FormG (root:Str)(rules:List (Str×Pat)):Prop where
 len:rules.length<=20
 nd:(rules.map (·.1)).Nodup
 root:root∈rules.map (·.1)
 pat:∀r∈rules,PatG (rules.map (·.1)) r.2
theorem tw_none:∀{rules:List (Str×Pat)}{met:List Str},twGo met rules=none->(rules.map (·.1)).Nodup/\∀r∈rules,r.1∉met/\(z0x r.2).Nodup
 | [],_,_=>⟨List.nodup_nil,fun r h=>by cases h⟩
 |a::rs,met,h=>by
  rw[show twGo met (a::rs)=(if a.1∈met \/ ¬(z0x a.2).Nodup then some a.1 else twGo (met++[a.1]) rs) from rfl]at h;split at h
  ·cases h
  ·rename_i h1;obtain⟨k1,k2⟩:=tw_none h;have nm:a.1∉met:=fun z=>h1 (.inl z);have nd:(z0x a.2).Nodup:=by
    by_cases z:(z0x a.2).Nodup
    ·exact z
    ·exact absurd (.inr z) h1
   refine⟨?_,fun r hr=>?_⟩
   ·rw[map_cons,nodup_cons];refine⟨fun hm=>?_,k1⟩;obtain⟨r,hr,e⟩:=mem_map.mp hm;exact(k2 r hr).1 (by rw[e];simp)
   ·rcases mem_cons.mp hr with rfl|hr
    ·exact⟨nm,nd⟩
    ·exact⟨fun z=>(k2 r hr).1 (mem_append_left _ z),(k2 r hr).2⟩
theorem FormX.t {rules:List (Str×Pat)}(h:FormX rules)(e:twGo [] rules=none):FormT rules:=by
 obtain⟨k1,k2⟩:=tw_none e;exact⟨h.len,k1,fun r hr=>⟨(k2 r hr).2,(h.pat r hr).1,(h.pat r hr).2⟩⟩
def R_so (n:Nat):RD:=fun δ Q=>∃p:Pat,δ=[.fz (patD p)]/\dpP p<n/\szP p<=1000000/\∀b,Q b (.lst ((z0x p).map .str)) [.no]
theorem k0i (u0k:Ent K mg "_law_signs_of" u1q ["_law_pattern_here"] f fd)(T:Zs K mg):∀n,FnOk P w K mg base CX0 (n+1) f fd ["_law_pattern_here"] (spD (R_so n)):=by
 intro n;induction n with
 |zero=>exact z7c fun δ Q h=>by obtain⟨_,_,h,_⟩:=h;exact not_lt_zero _ h
 |succ n u2f =>
 refine VL.Fun.dok u0k.F u2k (fun δ Qd h=>?_) (by decide) (fun cdv A outer s H E δ Qd hr h=>?_)
 ·obtain⟨_,rfl,_⟩:=h;rfl
 ·obtain⟨p,rfl,hdp,hsz,q⟩:=h;refine⟨_,(z0b (z1k (z0r z2j z1v (z0m z0w z1d (pv 0) z0c (fun _ _=>rfl)) z0h (z0k _)) (z0e (z0n (z1a (z0a (z0m z0w z1d (pv 0) z0c (fun _ _=>rfl)) z0d)))) z0q)
   (z0b (z1k (z0r x0t y0w (z0m z0w z1d (pv 0) z0c (fun _ _=>rfl)) (z1j (z0a z0h (z0a z0h (z0a z0h z0d)))) rfl) (z0e (z0n (z1x u2f u0k (z0a (z0m z0w z1d (pv 0) z0c (fun _ _=>rfl)) z0d)))) z0q)
   (z0b (dq 1 u2k.nd (z1a z0d))
   (z0b (z1k (z0r z8j z7h (z0m z0w z1d (pv 0) z0c (fun _ _=>rfl)) z0h (z0k _)) (z0e (z8e PassesOwn.never rfl (z3i (z0m z0w z1d (pv 0) z0c (fun _ _=>rfl))) (dn 2 u2k.nd) (z0e (dq 1 u2k.nd (z0l z3r z2m (dv 1) (z1x u2f u0k (z0a (dv 2) z0d))))))) z0q)
   (z0e (z0n (dm 1))))))),?_⟩
  have sz:=z0y;cases p with
  |none =>
   simp only[patD];walk_at "vd";rw[if_neg (by decide)];refine⟨by omega,?_⟩;rw[if_neg (by decide)];exact⟨by omega,q true⟩
  |one s =>
   simp only[patD];walk_at "vd";exact⟨by omega,q true⟩
  |row ps =>
   simp only[patD];simp only[dpP,szP]at hdp hsz;walk_at "vd";rw[if_neg (by decide)];refine⟨by omega,?_⟩;rw[if_neg (by decide)];refine⟨by omega,?_⟩;rw[if_pos (by decide)];refine x0j [2] (fun r δ=>∃pre suf b,ps=pre++suf/\r=z1w suf/\δ=[.fz (.tup [.str "row",.lst (z1w ps)]),rsl b (.lst ((z1f pre).map .str)),.no]) ⟨[],ps,true,rfl,rfl,rfl⟩ ?_ ?_
   ·rintro d r δ ⟨pre,suf,b,e1,e2,rfl⟩;cases suf with
    |nil=>cases e2
    |cons c suf =>
     cases e2;have hc:c∈ps:=by rw[e1];simp
     have e5:=y6a hc;have e6:=z4w hc;have e7:=z4b c;have e8:=z4d pre;have e9:=congrArg szPs e1;rw[z5m,szPs]at e9;refine(fun hh=>by cases b<;>walk_at "vd"<;>exact hh) ?_;refine⟨c,rfl,by omega,by omega,fun b2=>?_⟩;walk_at "vd";refine⟨by simp;omega,pre++[c],suf,true,by simp[e1],rfl,?_⟩;simp[z2s,z1f,rsl]
   ·rintro δ ⟨pre,suf,b,e1,e2,rfl⟩;cases suf with
    |cons c suf=>cases e2
    |nil =>
     rw[append_nil]at e1;subst e1;cases b<;>walk_at "vd"<;>exact q _
  |any ps =>
   simp only[patD];simp only[dpP,szP]at hdp hsz;walk_at "vd";rw[if_neg (by decide)];refine⟨by omega,?_⟩;rw[if_neg (by decide)];refine⟨by omega,?_⟩;rw[if_pos (by decide)];refine x0j [2] (fun r δ=>∃pre suf b,ps=pre++suf/\r=z1w suf/\δ=[.fz (.tup [.str "any",.lst (z1w ps)]),rsl b (.lst ((z1f pre).map .str)),.no]) ⟨[],ps,true,rfl,rfl,rfl⟩ ?_ ?_
   ·rintro d r δ ⟨pre,suf,b,e1,e2,rfl⟩;cases suf with
    |nil=>cases e2
    |cons c suf =>
     cases e2;have hc:c∈ps:=by rw[e1];simp
     have e5:=y6a hc;have e6:=z4w hc;have e7:=z4b c;have e8:=z4d pre;have e9:=congrArg szPs e1;rw[z5m,szPs]at e9;refine(fun hh=>by cases b<;>walk_at "vd"<;>exact hh) ?_;refine⟨c,rfl,by omega,by omega,fun b2=>?_⟩;walk_at "vd";refine⟨by simp;omega,pre++[c],suf,true,by simp[e1],rfl,?_⟩;simp[z2s,z1f,rsl]
   ·rintro δ ⟨pre,suf,b,e1,e2,rfl⟩;cases suf with
    |cons c suf=>cases e2
    |nil =>
     rw[append_nil]at e1;subst e1;cases b<;>walk_at "vd"<;>exact q _
  |wrap k p =>
   simp only[dpP,szP]at hdp hsz;cases k<;>simp only[patD,Wk.str]<;>walk_at "vd"<;>rw[if_neg (by decide)]<;>refine⟨by omega,?_⟩<;>rw[if_pos (by decide)]<;>exact⟨p,rfl,by omega,by omega,q⟩
noncomputable def dueS:Option (Kd×Str)->List Str
 |none=>[]
 |some (c,n)=>[c.str,n]
def j5m:RD:=fun δ Q=>∃(root:Str)(rules:List (Str×Pat)),δ=[.fz (y0q root rules)]/\FormX rules/\Q true (.lst ((dueS (z1y root rules)).map .str)) [.no]
theorem j6e {f1:Addr}{fd1:FuncData}(u3e:Ent K mg "_law_due" u4k ["_law_form_here"] f fd)(T:Zs K mg)(u0k:Ent K mg "_law_signs_of" u1q ["_law_pattern_here"] f1 fd1):FnOk P w K mg base CX0 125 f fd ["_law_form_here"] (spD j5m):=by
 have u2f:=k0i (P:=P) (w:=w) (base:=base) u0k T 123;refine VL.Fun.dok u3e.F u2d (fun δ Qd h=>?_) (by decide) (fun cdv A outer s H E δ Qd hr h=>?_)
 ·obtain⟨_,_,rfl,_⟩:=h;rfl
 ·obtain⟨root,rules,rfl,fx,q⟩:=h;have hu:=z4s hr;refine⟨_,(z0b (dq 1 u2d.nd (z1a z0d))
   (z0b (z8e PassesOwn.never rfl (z3i (z0m z0w z1d (pv 0) z0c (fun _ _=>rfl))) (x1h (n:=2) rfl (z4y (dn 2 u2d.nd) (z4y (dn 3 u2d.nd) y6q))) (z0b (dq 4 u2d.nd (z1x u2f u0k (z0a (dv 3) z0d)))
   (z0b (z1k (dt_w (z7y (y2k q6y y8b (dv 2) (pv 1) rfl) (z8a (z0r y7o y5x (x5p rfl rfl T.z_len rfl T.z_set (dv 4)) (z1i z4c z1e rfl T.z_len PySem.boot_len (pv 4)) (z0k _))))) (z0e (z0n (z1a (z0a z0h (z0a (dv 2) z0d))))) z0q)
   (z0e (z5e (y3p z3f PySem.F.slot_list_append PySem.F.type_list_append z1m (pv 1) (z0a (dv 2) z0d)))))))
   (z0b (z1k (y2k y7d y0m (z0m z0w z1d (pv 0) z0c (fun _ _=>rfl)) (pv 1) rfl) (z0e (z0n (z1a (z0a z0h (z0a (z0m z0w z1d (pv 0) z0c (fun _ _=>rfl)) z0d))))) z0q)
   (z0b (z8e PassesOwn.never rfl (z3i (z0m z0w z1d (pv 0) z0c (fun _ _=>rfl))) (x1h (n:=2) rfl (z4y (dn 2 u2d.nd) (z4y (dn 3 u2d.nd) y6q))) (z0e (z8e PassesOwn.never rfl (z3i (z1x u2f u0k (z0a (dv 3) z0d))) (dn 5 u2d.nd) (z0e (z1k (dt_w (y0c (z0r z8j z7h (dv 5) z0h (z0k _)) (z7g (y2k y7d y0m (dv 5) (pv 1) rfl)))) (z0e (z0n (z1a (z0a z0h (z0a (dv 5) z0d))))) z0q)))))
   (z0e (z0n (z1a z0d))))))),?_⟩
  have sz:=z0y;have hl:=fx.len;rw[z5j];walk_at "vd";refine⟨by omega,x0j [2,3,4] (fun r δ=>∃pre suf,rules=pre++suf/\r=suf.map z5a/\twGo (pre.map (·.1)) suf=twGo [] rules/\δ=[.fz (y0q root rules),.ob false (.lst ((pre.map (·.1)).map .str)),.no,.no,.no,.no]) ⟨[],rules,rfl,rfl,rfl,rfl⟩ ?_ ?_⟩
  ·rintro d r δ ⟨pre,suf,e1,e2,e3,rfl⟩;cases suf with
   |nil=>cases e2
   |cons r0 suf =>
    obtain⟨nm,pt⟩:=r0;cases e2;obtain⟨o1,o2⟩:=fx.pat (nm,pt) (by rw[e1];simp);have o1:szP pt<=3900:=o1;have o2:dpP pt<=122:=o2;have sl:=z4b pt;have e1':=congrArg List.length e1;simp at e1';simp only[z5a,z5j];walk_at "vd";refine⟨pt,rfl,by omega,by omega,fun b=>?_⟩;rw[show twGo (pre.map (·.1)) ((nm,pt)::suf)=(if nm∈pre.map (·.1) \/ ¬(z0x pt).Nodup then some nm else twGo (pre.map (·.1)++[nm]) suf) from rfl]at e3;have fin:(nm∈pre.map (·.1) \/ ¬(z0x pt).Nodup)->Qd true (D.lst [D.str "twice",D.str nm]) [.no]:=fun hb=>by
     rw[if_pos hb]at e3;have:z1y root rules=some (.tw,nm):=by unfold z1y;rw[<-e3]
     rw[this]at q;exact q
    refine(fun hh=>by cases b<;>walk_at "vd"<;>exact hh) ?_;refine ite2 (fun hn=>⟨by omega,fin (.inl hn)⟩) fun hn=>⟨z0x pt,rfl,by omega,ite2 (fun h=>⟨by omega,fin (.inr ((y1b _).mp (by rw[length_map]at h;omega)))⟩) fun h=>⟨by simp;omega,pre++[(nm,pt)],suf,by simp[e1],rfl,?_,by simp⟩⟩;have nd:(z0x pt).Nodup:=by
     by_cases z:(z0x pt).Nodup
     ·exact z
     ·exact absurd (by have:=(y1b _).mpr z;rw[length_map];omega) h
    rw[if_neg (by rintro(z|z);exact hn z;exact z nd)]at e3;rw[map_append];exact e3
  ·rintro δ ⟨pre,suf,e1,e2,e3,rfl⟩;cases suf with
   |cons p suf=>cases e2
   |nil =>
    rw[append_nil]at e1;subst e1;have e3:twGo [] rules=none:=e3.symm;simp only[z5j];walk_at "vd";refine ite2 (fun hr=>⟨by omega,?_⟩) fun hr=>?_
    ·have hr:root∉rules.map (·.1):=by simpa using hr
     have:z1y root rules=some (.nn,root):=by unfold z1y;rw[e3];exact if_neg hr
     rw[this]at q;exact q
    ·have hr:root∈rules.map (·.1):=by simpa using hr
     have hdF:z1y root rules=(nmGo (rules.map (·.1)) rules).map fun s=>(.nn,s):=by unfold z1y;rw[e3];exact if_pos hr
     rw[hdF]at q;refine x0j [2,3,5] (fun r δ=>∃pre suf,rules=pre++suf/\r=suf.map z5a/\nmGo (rules.map (·.1)) suf=nmGo (rules.map (·.1)) rules/\δ=[.fz (.tup [.str root,.lst (rules.map z5a)]),.ob false (.lst ((rules.map (·.1)).map .str)),.no,.no,.no,.no]) ⟨[],rules,rfl,rfl,rfl,rfl⟩ ?_ ?_
     ·rintro d r δ ⟨pre,suf,e1,e2,e4,rfl⟩;cases suf with
      |nil=>cases e2
      |cons r0 suf =>
       obtain⟨nm,pt⟩:=r0;cases e2;obtain⟨o1,o2⟩:=fx.pat (nm,pt) (by rw[e1];simp);have o1:szP pt<=3900:=o1;have o2:dpP pt<=122:=o2;have e4:((z0x pt)++suf.flatMap fun r=>z0x r.2).find? (badS (rules.map (·.1)))=nmGo (rules.map (·.1)) rules:=e4;simp only[z5a];walk_at "vd";refine⟨pt,rfl,by omega,by omega,fun b=>?_⟩;refine(fun hh=>by cases b<;>walk_at "vd"<;>exact hh) ?_;refine x0j [5] (fun r δ=>∃pr sf,z0x pt=pr++sf/\r=sf.map .str/\(sf++suf.flatMap fun r=>z0x r.2).find? (badS (rules.map (·.1)))=nmGo (rules.map (·.1)) rules/\δ=[.fz (.tup [.str root,.lst (rules.map z5a)]),.ob false (.lst ((rules.map (·.1)).map .str)),.fz (.str nm),.fz (patD pt),.no,.no]) ⟨[],z0x pt,rfl,rfl,e4,rfl⟩ ?_ ?_
       ·rintro d r δ ⟨pr,sf,f1,f2,f3,rfl⟩;cases sf with
        |nil=>cases f2
        |cons sg sf =>
         cases f2;rw[cons_append,find?_cons]at f3;walk_at "vd";have go:badS (rules.map (·.1)) sg=false->∃pr sf_1,z0x pt=pr++sf_1/\List.map D.str sf=List.map D.str sf_1/\find? (badS (List.map (fun x=>x.fst) rules)) (sf_1++flatMap (fun r=>z0x r.snd) suf)=nmGo (List.map (fun x=>x.fst) rules) rules:=fun hb=>by
          rw[hb]at f3;exact⟨pr++[sg],sf,by simp[f1],rfl,f3⟩
         refine ite2 (fun h1=>ite2 (fun h2=>⟨by omega,?_⟩) fun h2=>go ?_) fun h1=>go ?_
         ·have h1:¬sg = "#":=by simpa using h1
          have h2:sg∉rules.map (·.1):=of_decide_eq_false h2;have hb:badS (rules.map (·.1)) sg=true:=by simp only[badS,ne_eq,h1,h2,not_false_eq_true,decide_true,Bool.and_true]
          rw[hb]at f3;rw[<-f3]at q;exact q
         ·have h2:sg∈rules.map (·.1):=by
           by_cases z:sg∈rules.map (·.1)
           ·exact z
           ·exact absurd (decide_eq_false z) h2
          simp only[badS,h2,not_true,decide_false,Bool.and_false]
         ·have h1:sg = "#":=by
           by_cases z:sg = "#"
           ·exact z
           ·exact absurd (decide_eq_false z) h1
          simp[badS,h1]
       ·rintro δ ⟨pr,sf,f1,f2,f3,rfl⟩;cases sf with
        |cons p sf=>cases f2
        |nil =>
         walk_at "vd";exact⟨pre++[(nm,pt)],suf,by simp[e1],rfl,f3⟩
     ·rintro δ ⟨pre,suf,e1,e2,e4,rfl⟩;cases suf with
      |cons p suf=>cases e2
      |nil =>
       have e4:nmGo (rules.map (·.1)) rules=none:=e4.symm;rw[e4]at q;walk_at "vd";exact⟨by omega,q⟩
def x8t (CT CN CS:Addr):Sp:=fun vs H Q E=>∃(root:Str)(rules:List (Str×Pat))(v:V),vs=[v]/\Rep H (y0q root rules) v/\FormX rules/\(∀c nm,z1y root rules=some (c,nm)->XWish (c.cls CT CN CS) nm H E)/\(z1y root rules=none->∀H',Same H H'->Q .non H')
theorem j4d {f1 f2 f3 f4:Addr}{fd1 fd2 fd3 fd4:FuncData}(Y:XR K mg CF CT CN CS Ct Cp Ck)(u5m:Ent K mg "look" u6f ["form"] f fd)(T:Zs K mg)(u1i:Ent K mg "look_twice" u3j ["rules"] f1 fd1)(u1j:Ent K mg "look_names" u3k ["root","rules"] f2 fd2)(u2y:Ent K mg "signs" u5i ["pattern"] f3 fd3)(u0f:Ent K mg "patterns_within" u0n ["pattern"] f4 fd4):FnOk P w K mg base (CX1 P w) 127 f fd ["form"] (x8t CT CN Ct):=by
 have u6c:=j5y (P:=P) (w:=w) (base:=base) Y u1i T u2y u0f;have u6d:=j3j (P:=P) (w:=w) (base:=base) Y u1j T u2y u0f;refine u5m.F.okX j1y (fun vs H Q E h=>?_) (fun cdv A outer s H vs Q E hr h=>?_)
 ·obtain⟨_,_,_,rfl,_⟩:=h;rfl
 ·obtain⟨root,rules,v,rfl,rv,fx,wish,fin⟩:=h;rw[z5j]at rv;obtain⟨a,us,rfl,ha,y1,r1,rfl,e1,y2,r2,rfl,e2,e3⟩:=rv;cases(show r2=[] from e3);cases(show y1=.str root from e1);unfold z1y at wish fin;refine⟨_,(z0u (z4q (z7f u6c (hr.mono (by omega)) rfl u1i.g u1i.F.kp u1i.b .nil q1h (z0i (z5r z1d (pv 0) z2q (fun _ _=>rfl)) z0p)))
   (z0v (z4q (z7f u6d (hr.mono (by omega)) rfl u1j.g u1j.F.kp u1j.b .nil q1h (z0i (z5r z1d (pv 0) z2q (fun _ _=>rfl)) (z0i (z5r z1d (pv 0) z2q (fun _ _=>rfl)) z0p)))))),?_⟩
  walk_at "rs";refine⟨_,ha,_,atI1,rules,_,rfl,e2,fx,fun nm ht=>wish .tw nm (by rw[ht]),fun ht H1 s1=>?_⟩;have fT:=fx.t ht;rw[ht]at wish fin;refine⟨_,s1 _ _ ha,_,atI0,_,s1 _ _ ha,_,atI1,root,rules,_,rfl,Rep.mono s1 _ _ e2,fx,fT.nd,fun nm hd=>(wish .nn nm ?_).mono s1,fun hd H2 s2=>fin ?_ _ (s1.trans s2)⟩
  all_goals
   by_cases hr:root∈rules.map (·.1)
   ·simp only[hr,if_true]at hd ⊢;rw[hd];rfl
   ·simp only[hr,if_false]at hd ⊢;cases hd
    try rfl
def noQ (l:Cs):Prop:=∀c∈l,c≠34
structure LnOk (l:Cs):Prop where
 len:l.length<=1900
 cnt:cntD l<=60
 nq:noQ l
theorem LnOk.sub {a b c:Cs}(h:LnOk (a++b++c)):LnOk a/\LnOk c:=by
 obtain⟨h1,h2,h3⟩:=h;rw[z1q,z1q]at h2;rw[length_append,length_append]at h1;exact⟨⟨by omega,by omega,fun x hx=>h3 x (by simp[hx])⟩,⟨by omega,by omega,fun x hx=>h3 x (by simp[hx])⟩⟩
theorem z2r (a b:Str):csS (a++b)=csS a++csS b:=by
 show(a.cps++b.cps).toList=_;simp[csS]
noncomputable def y4j (s:Str):Option (Str×Pat):=if isNm (csS (partition s " = ").1)=true then(z5c (csS (partition s " = ").2.2)).map fun p=>((partition s " = ").1,p) else none
def j0t:Sp:=fun vs H Q _=>∃(l:Cs)(F:Hp),vs=[.str (strC l)]/\Same F H/\LnOk l/\∀v F' H',Same H H'->Same F F'->Same F' H'->NWs F F' H->Rep F' (optP (z5c l)) v->Q v H'
theorem u9z {f1 f2 f3:Addr}{fd1 fd2 fd3:FuncData}(u0m:Ent K mg "read_pattern" u1y ["line"] f fd)(T:Zs K mg)(Gd:Gds K mg w aM aK)(u0u:Ent K mg "scanned_pattern" u1p ["line"] f1 fd1)(u3f:FnOk P w K mg base CX0 5 f1 fd1 ["line"] y9g)(u0q:Ent K mg "show_pattern" u1c ["pattern"] f2 fd2)(u5b:Ent K mg "held" u5x ["pattern","kinds"] f3 fd3):FnOk P w K mg base CX0 247 f fd ["line"] j0t:=by
 have u4g:=j2z (P:=P) (w:=w) (base:=base) u0q T Gd u5b 123;refine u0m.F.ok u4v (fun vs H Q E h=>?_) (fun cdv A outer s H vs Q E hr h=>?_)
 ·obtain⟨_,_,rfl,_⟩:=h;rfl
 ·obtain⟨l,F,rfl,sF0,ok,q⟩:=h;have hu:=z4s hr;refine⟨_,(z0u (z2t (i:=1) u4v.nd rfl (Or.inl rfl) (z6s u3f u0u (z0i (pv 0) z0p)))
   (z0v (z4u (z8s (PW.pt (y4f (z2b y9c (pv 1) z6v (z0k _)) (z8n (z2b z1v (z6s u4g u0q (z0i (pv 1) z0p)) (pv 0) (z0k _))))) (pv 1) z6v)))),?_⟩
  have sz:=z0y;have hl:=ok.len;have hc:=ok.cnt;walk_at "rs";refine⟨l,F,rfl,sF0,by omega,ok.nq,fun v F1 H1 s1 sF sFH nw rv=>?_⟩;cases es:z9n l with
  |none =>
   rw[es]at rv;cases(show v=.non from rv);walk_at "rd";have er:z5c l=none:=by unfold z5c;rw[es];rfl
   rw[er]at q;refine⟨false,by simp,?_⟩;rw[if_neg (by simp)];exact q _ F1 _ s1 sF sFH nw rfl
  |some p =>
   obtain⟨o1,o2,o3⟩:=x0k es;have er:z5c l=if txt p=l then some p else none:=by unfold z5c;rw[es];rfl
   rw[es]at rv;have rv:Rep F1 (patD p) v:=rv;obtain⟨va,rfl⟩:∃va,v=.ref va:=by
    cases p<;>(obtain⟨a,_,e1,_⟩:=rv;exact⟨a,e1⟩)
   walk_at "rd";refine⟨true,by simp,?_⟩;rw[if_pos rfl];refine z5f (ds:=[patD p]) (Qd:=fun _ d _=>d=.str (strC (txt p))) (Reps.one (Rep.mono sFH _ _ rv)) ⟨p,rfl,by omega,by omega,rfl⟩ fun b d δ' v H2 s2 ed r2=>?_;subst ed;cases(show v=.str (strC (txt p)) from r2);refine⟨rfl,?_⟩;by_cases ht:txt p=l
   ·rw[if_pos (by rw[ht])];rw[er,if_pos ht]at q;exact q _ F1 _ (s1.trans s2) sF (sFH.trans s2) nw rv
   ·rw[if_neg (fun z=>ht (by have:=congrArg csS (V.str.inj z);rwa [z5u,z5u]at this))];rw[er,if_neg ht]at q;exact q _ F1 _ (s1.trans s2) sF (sFH.trans s2) nw rfl
noncomputable def j0v (fr:Addr):Sp:=fun vs H Q _=>∃(s:Str)(F:Hp),vs=[.str s,.str " = ",.ref fr]/\Same F H/\LnOk (csS s)/\∀v F' H',Same H H'->Same F F'->Same F' H'->NWs F F' H->(match y4j s with
 |none=>v=.non
 |some r=>∃t,v=.ref t/\Rep F' (z5a r) (.ref t))->Q v H'
theorem j9y {f1 f2 f3:Addr}{fd1 fd2 fd3:FuncData}(u2m:Ent K mg "read_rule" u3s ["line","middle","reader"] f fd)(T:Zs K mg)(u0m:Ent K mg "read_pattern" u1y ["line"] f1 fd1)(u4h:FnOk P w K mg base CX0 247 f1 fd1 ["line"] j0t)(u1a:Ent K mg "is_name" u2s ["text"] f2 fd2)(u0d:Ent K mg "is_letter" u1d ["sign"] f3 fd3):FnOk P w K mg base CX0 248 f fd ["line","middle","reader"] (j0v f1):=by
 have u5c:=x5f (P:=P) (w:=w) (base:=base) u1a T u0d;refine u2m.F.ok u4w (fun vs H Q E h=>?_) (fun cdv A outer s H vs Q E hr h=>?_)
 ·obtain⟨_,_,rfl,_⟩:=h;rfl
 ·obtain⟨s0,F,rfl,sF0,ok,q⟩:=h;have hu:=z4s hr;refine⟨_,(z0u (z2t (i:=3) u4w.nd rfl (Or.inl rfl) (x8q plainAttrs_str slot_str_partition type_str_partition y9h (pv 0) (z0i (pv 1) z0p)))
   (z0u (z2t (i:=4) u4w.nd rfl (Or.inl rfl) (q0k 2 u4h (hr.mono (by decide)) u0m.F.kp u0m.b .nil x9b (z0i (z5r z1d (pv 3) z2q (fun _ _=>rfl)) z0p)))
   (z0v (z4u (z8s (PW.pt (y4f (z5x (z6s u5c u1a (z0i (z5r z1d (pv 3) z2q (fun _ _=>rfl)) z0p))) (z8n (z2b y9c (pv 4) z6v (z0k _))))) (y2i (z0i (z5r z1d (pv 3) z2q (fun _ _=>rfl)) (z0i (pv 4) z0p))) z6v))))),?_⟩
  have sz:=z0y;have hl:=ok.len;rw[z1u]at hl;have hsum:=partition_sum s0 " = ";unfold y4j at q;walk_at "rs";refine⟨by trivial,by decide,by omega,fun p hp=>?_⟩;generalize partition s0 (Str.ofString " = ")=pt at hsum q ⊢;obtain⟨a,m,c⟩:=pt;dsimp only at hsum q ⊢;have okk:LnOk (csS a++csS m++csS c):=by rw[<-z2r,<-z2r,hsum];exact ok
  obtain⟨oka,okc⟩:=okk.sub;have hla:=oka.len;rw[z1u]at hla;have hp1:upd H p (.tup [.str a,.str m,.str c]) p=some (.tup [.str a,.str m,.str c]):=z0g;have s1:Same H (upd H p (.tup [.str a,.str m,.str c])):=Same.of_new hp;generalize upd H p (.tup [.str a,.str m,.str c])=H1 at hp1 s1;refine⟨csS c,F,by rw[z2v],sF0.trans s1,okc,fun v F2 H2 s2 sF sFH nw rv=>?_⟩;refine⟨_,s2 _ _ hp1,_,rfl,?_⟩;refine z5f (ds:=[.str a]) (Qd:=fun _ d _=>d=.bl (isNm (csS a))) ⟨_,[],rfl,rfl,rfl⟩ ⟨a,rfl,by omega,rfl⟩ fun b d δ' v3 H3 s3 ed r3=>?_;subst ed;cases(show v3=.bl (isNm (csS a)) from r3);have sA:=s1.trans (s2.trans s3);have nw':NWs F F2 H:=fun x o e n=>s1.free (nw x o e n);refine⟨_,rfl,?_⟩;cases hn:isNm (csS a) with
  |false =>
   rw[if_neg (by simp)];rw[hn,if_neg (by simp)]at q;exact q _ F2 _ sA sF (sFH.trans s3) nw' rfl
  |true =>
   rw[if_pos rfl];rw[hn,if_pos rfl]at q;cases er:z5c (csS c) with
   |none =>
    rw[er]at q rv;cases(show v=.non from rv);refine⟨false,by simp,?_⟩;rw[if_neg (by simp)];exact q _ F2 _ sA sF (sFH.trans s3) nw' rfl
   |some p2 =>
    rw[er]at q rv;have rv:Rep F2 (patD p2) v:=rv;obtain⟨va,rfl⟩:∃va,v=.ref va:=by
     cases p2<;>(obtain⟨a,_,e1,_⟩:=rv;exact⟨a,e1⟩)
    refine⟨true,by simp,?_⟩;rw[if_pos rfl];refine⟨_,s3 _ _ (s2 _ _ hp1),_,rfl,by omega,fun t ht=>?_⟩;have nt:H t=none:=sA.free ht;have ft:F2 t=none:=(sFH.trans s3).free ht;refine q _ (upd F2 t (.tup [.str a,.ref va])) _ (sA.upd nt) (sF.upd (sF.free ft)) (fun b o e=>?_) (fun b o e n=>?_) ⟨t,rfl,t,_,rfl,z0g,_,_,rfl,rfl,_,_,rfl,Rep.mono (Same.of_new ft) _ _ rv,rfl⟩
    ·by_cases z:b=t
     ·rw[z,z0g]at e ⊢;exact e
     ·rw[z0j z]at e ⊢;exact(sFH.trans s3) _ _ e
    ·by_cases z:b=t
     ·rw[z];exact nt
     ·rw[z0j z]at e;exact nw' b o e n
theorem x6u (b:Bool)(s:Cs):s.length<=(brk b s).length:=by
 unfold brk;split<;>simp<;>omega
theorem y3v (sep:Cs):∀l:List Cs,(l.map List.length).sum+sep.length * (l.length - 1)<=(z1s sep l).length
 | []=>by simp[z1s]
 | [x]=>by simp[z1s]
 |x::y::l=>by
  have h:=y3v sep (y::l);rw[z1s,length_append,length_append,map_cons,sum_cons];simp only[length_cons,Nat.add_sub_cancel]at h ⊢;have e:sep.length * (l.length+1)=sep.length * l.length+sep.length:=Nat.mul_succ _ _;omega
mutual
theorem sz_txt:∀p:Pat,okT p=true->szP p+1<=2 * (txt p).length
 |.none,_=>by simp[txt,szP]
 |.one s,h=>by
  rw[txt,szP];simp only[okT,or_eq_true,decide_eq_true_eq]at h;have:(csS s).length≠0:=fun z=>by
   have e:=eq_nil_of_length_eq_zero z;rw[e]at h;rcases h with h|h
   ·cases h
   ·simp[isNm]at h
  omega
 |.row ps,h=>by
  simp only[okT,and_eq_true,decide_eq_true_eq]at h;have h1:=x5l ps h.2;have h2:=y3v [32] (txtA ps);have h3:(txtA ps).length=ps.length:=by rw[z9h];simp
  rw[txt,szP];simp at h2;omega
 |.any ps,h=>by
  simp only[okT,and_eq_true,decide_eq_true_eq]at h;have h1:=x7v ps h.2;have h2:=y3v [32,124,32] (txtB ps);have h3:(txtB ps).length=ps.length:=by rw[z8v];simp
  rw[txt,szP];simp at h2;omega
 |.wrap k p,h=>by
  simp only[okT]at h;have h1:=sz_txt p h;have h2:=x6u (z1z p) (txt p);rw[txt,szP,length_append,length_singleton];omega
theorem x5l:∀ps:List Pat,okTs ps=true->szPs ps+ps.length<=2 * ((txtA ps).map List.length).sum
 | [],_=>by simp[szPs,txtA]
 |p::ps,h=>by
  rw[okTs,and_eq_true]at h;have h1:=sz_txt p h.1;have h2:=x5l ps h.2;have h3:=x6u (z1z p) (txt p);rw[szPs,txtA,length_cons,map_cons,sum_cons];omega
theorem x7v:∀ps:List Pat,okTs ps=true->szPs ps+ps.length<=2 * ((txtB ps).map List.length).sum
 | [],_=>by simp[szPs,txtB]
 |p::ps,h=>by
  rw[okTs,and_eq_true]at h;have h1:=sz_txt p h.1;have h2:=x7v ps h.2;have h3:=x6u (z6j p) (txt p);rw[szPs,txtB,length_cons,map_cons,sum_cons];omega
end
def z3a:Nat->List Str->Sum Nat (List (Str×Pat))
 |_,[]=>.inr []
 |i,s::r=>match y4j s with
  |none=>.inl i
  |some x=>match z3a (i+1) r with
   |.inl k=>.inl k
   |.inr xs=>.inr (x::xs)
noncomputable def preR (rules:List (Str×Pat)):Sum Nat (List (Str×Pat))->Sum Nat (List (Str×Pat))
 |.inl k=>.inl k
 |.inr xs=>.inr (rules++xs)
theorem x2z (o:Sum Nat (List (Str×Pat))):preR [] o=o:=by cases o<;>rfl
theorem y8w (rules:List (Str×Pat))(x:Str×Pat)(o:Sum Nat (List (Str×Pat))):preR (rules++[x]) o=preR rules (match o with | .inl k=>.inl k | .inr xs=>.inr (x::xs)):=by
 cases o with
 |inl k=>rfl
 |inr xs=>simp[preR]
theorem q2d {s:Str}{r:Str×Pat}(h:y4j s=some r)(ok:LnOk (csS s)):szP r.2<=3900/\dpP r.2<=122:=by
 unfold y4j at h;have hsum:=partition_sum s " = ";split at h
 ·cases e:z5c (csS (partition s " = ").2.2) with
  |none=>rw[e]at h;cases h
  |some p =>
   rw[e]at h;cases h;have okk:LnOk (csS (partition s " = ").1++csS (partition s " = ").2.1++csS (partition s " = ").2.2):=by rw[<-z2r,<-z2r,hsum];exact ok
   obtain⟨o1,o2⟩:=readR_iff.mp e;have h1:=sz_txt p o1;have h2:=okk.sub.2.len;have h3:=okk.sub.2.cnt;have h4:=(x0k (x1z o1)).2.1;rw[o2]at h1 h4;exact⟨by dsimp only;omega,by dsimp only;omega⟩
 ·cases h
theorem z8p:∀{i:Nat}{lines:List Str}{rules:List (Str×Pat)},z3a i lines=.inr rules->(∀s∈lines,LnOk (csS s))->rules.length=lines.length/\∀r∈rules,szP r.2<=3900/\dpP r.2<=122
 |i,[],rules,h,_=>by cases h;exact⟨rfl,fun r hr=>by simp at hr⟩
 |i,s::lines,rules,h,ok=>by
  rw[z3a]at h;cases e:y4j s with
  |none=>rw[e]at h;cases h
  |some x =>
   rw[e]at h;cases e2:z3a (i+1) lines with
   |inl k=>rw[e2]at h;cases h
   |inr xs =>
    rw[e2]at h;cases h;obtain⟨a,b⟩:=z8p e2 fun s hs=>ok s (mem_cons_of_mem _ hs);refine⟨by simp[a],fun r hr=>?_⟩;rcases mem_cons.mp hr with rfl|hr
    ·exact q2d e (ok s mem_cons_self)
    ·exact b r hr
def GotR (rules:List (Str×Pat))(H:Hp)(Q:VK):Prop:=∀a us F' H',H a=none->Same H H'->H' a=some (.lst us)->Same F' H'->F' a=none->Reps F' (rules.map z5a) us->Q (.ref a) H'
def y9p (fr Ct:Addr):Sp:=fun vs H Q E=>∃(lines:List Str)(l:Addr),vs=[.ref l,.str " = ",.ref fr,.int 1]/\H l=some (.lst (lines.map .str))/\lines.length<=1000/\(∀s∈lines,LnOk (csS s))/\(∀rules,z3a 1 lines=.inr rules->GotR rules H Q)/\∀k:Nat,z3a 1 lines=.inl k->XWishT Ct k H E
theorem q9p {f1 f2:Addr}{fd1:FuncData}(Y:XR K mg CF CT CN CS Ct Cp Ck)(u1k:Ent K mg "read_rules" u3l ["lines","middle","reader","first"] f fd)(T:Zs K mg)(u2m:Ent K mg "read_rule" u3s ["line","middle","reader"] f1 fd1)(u5j:FnOk P w K mg base CX0 248 f1 fd1 ["line","middle","reader"] (j0v f2)):FnOk P w K mg base (CX1 P w) 249 f fd ["lines","middle","reader","first"] (y9p f2 Ct):=by
 refine u1k.F.okX u2x (fun vs H Q E h=>?_) (fun cdv A outer s H vs Q E hr h=>?_)
 ·obtain⟨_,_,rfl,_⟩:=h;rfl
 ·obtain⟨lines,l,rfl,hl,hn,ok,qq,q2⟩:=h;have hu:=z4s hr;refine⟨_,(z0u (z2t (i:=4) u2x.nd rfl (Or.inl rfl) (z4v z0p))
   (z0u (y5e PassesOwn.leaving rfl (q0w rfl T.z_enumerate (z0i (pv 0) z0p) (pv 3)) (x1a rfl (z7s (z6c (i:=5) u2x.nd rfl (Or.inl rfl)) (z7s (z6c (i:=6) u2x.nd rfl (Or.inl rfl)) y5q))) (z0u (z2t (i:=7) u2x.nd rfl (Or.inl rfl) (z6s u5j u2m (z0i (pv 6) (z0i (pv 1) (z0i (pv 2) z0p)))))
   (z0u (z5g (z2b z9y (pv 7) z6v (z0k _)) (z0v (z8q Y.x_NoText (hr.mono (by omega)) rfl (z0i (pv 5) z0p))) z2i)
   (z0v (z4q (y4l PySem.F.slot_list_append PySem.F.type_list_append z1m (pv 4) (z0i (pv 7) z0p)))))))
   (z0v (z4u (pv 4))))),?_⟩
  have sz:=z0y;walk_at "rs";refine⟨by omega,fun a ha=>⟨by decide,_,by rw[z0j (z0s hl ha)];exact hl,k0r (xs:=lines.map V.str) (fun i σ H'=>∃us F' x5 x6 x7,∃rules:List (Str×Pat),σ=[some (.ref l),some (.str " = "),some (.ref f2),some (.int 1),some (.ref a),x5,x6,x7]/\Same H H'/\H' a=some (.lst us)/\Same F' H'/\F' a=none/\Reps F' (rules.map z5a) us/\rules.length=i/\z3a 1 lines=preR rules (z3a (1+i) (lines.drop i))) ⟨[],H,none,none,none,[],rfl,Same.of_new ha,z0g,Same.of_new ha,ha,rfl,rfl,by rw[x2z];rfl⟩ (fun i σ H' h=>?_) (fun i x σ H' t hx h ht=>?_) fun σ H' h=>?_⟩⟩
  ·obtain⟨us,F,x5,x6,x7,rules,rfl,s1,h1,_⟩:=h;exact s1 _ _ hl
  ·obtain⟨us,F,x5,x6,x7,rules,rfl,s1,h1,sF,fa,r1,rl,er⟩:=h;rw[getElem?_map]at hx;obtain⟨s0,hs0,rfl⟩:=map_eq_some_iff.mp hx;have hi:=(List.getElem?_eq_some_iff.mp hs0).1;have oks:=ok s0 (mem_of_getElem? hs0);have hlu:us.length=i:=by have:=r1.len;simp at this;omega
   have ed:lines.drop i=s0::lines.drop (i+1):=by
    rw[drop_eq_getElem_cons hi];have:=getElem?_eq_getElem hi;rw[hs0]at this;rw[Option.some.inj this]
   rw[ed,z3a]at er;have st:Same H' (upd H' t (.tup [.int (1+(i:Int)),.str s0])):=Same.of_new ht;have ht1:upd H' t (.tup [.int (1+(i:Int)),.str s0]) t=some (.tup [.int (1+(i:Int)),.str s0]):=z0g;generalize upd H' t (.tup [.int (1+(i:Int)),.str s0])=H1 at st ht1;walk_at "rs";refine⟨_,.inl (.inl ht1),rfl,_,_,rfl,_,_,rfl,rfl,s0,F,rfl,sF.trans st,oks,fun v F2 H2 s2 sF2 sFH nw rv=>?_⟩;have ha2:H2 a=some (.lst us):=s2 _ _ (st _ _ h1);have na:H a=none:=ha;have fa2:F2 a=none:=by
    cases e:F2 a with
    |none=>rfl
    |some o=>have:=nw a o e fa;rw[st _ _ h1]at this;cases this
   unfold tIfS;cases ers:y4j s0 with
   |none =>
    rw[ers]at er rv;cases(show v=.non from rv);walk_at "rd";intro x dx n1 n2 n3;have wx:=q2 (1+i) er;have ei:(((1+i:Nat)):Int)=1+(i:Int):=by omega
    rw[ei]at wx;exact wx x dx _ (z8z (s1.trans (st.trans s2)) n1 n2) z0g (by rw[z0j n3,z0g])
   |some r =>
    rw[ers]at er rv;obtain⟨t2,rfl,rv⟩:=rv;walk_at "rd";refine⟨⟨_,ha2⟩,us,ha2,by omega,fun b o e=>?_,F2,sFH.upd fa2,fa2,rules++[r],?_,by simp[rl],?_⟩
    ·have nb:b≠a:=fun z=>by rw[z,na]at e;cases e
     rw[z0j nb];exact s2 _ _ (st _ _ (s1 _ _ e))
    ·rw[map_append];exact(Reps.mono sF2 _ _ r1).app (Reps.one rv)
    ·rw[y8w];exact er
  ·obtain⟨us,F,x5,x6,x7,rules,rfl,s1,h1,sF,fa,r1,rl,er⟩:=h;rw[length_map,drop_length,z3a,preR,append_nil]at er;walk_at "rd";exact qq rules er a us F H' ha s1 h1 sF fa r1
theorem q3c (x:V)(xs:List V):cutV (x::xs) (some 1) none=xs:=by
 unfold cutV;rw[HT.sIx_none,show(1:Int)=((1:Nat):Int) from rfl,HT.sIx_nat,min_eq_left (by simp),List.drop_succ_cons,drop_zero,take_of_length_le (by simp)]
def z7l:List Str->Sum Nat (Str×List (Str×Pat))
 | []=>.inl 0
 |s::r=>if (partition s " ").1 = "form"/\isNm (csS (partition s " ").2.2)=true then(match z3a 1 r with
  |.inl k=>.inl k
  |.inr rules=>.inr ((partition s " ").2.2,rules)) else .inl 0
def FormAt (root:Str)(rules:List (Str×Pat))(H H':Hp)(t:Addr):Prop:=∃a us F',H a=none/\H' t=some (.tup [.str root,.ref a])/\H' a=some (.lst us)/\Same F' H'/\F' a=none/\Reps F' (rules.map z5a) us
theorem FormAt.rep {root:Str}{rules:List (Str×Pat)}{H H':Hp}{t:Addr}(h:FormAt root rules H H' t):Rep H' (y0q root rules) (.ref t):=by
 obtain⟨a,us,F',_,h1,h2,h3,_,h5⟩:=h;rw[z5j];exact⟨t,_,rfl,h1,_,_,rfl,rfl,_,_,rfl,⟨a,us,rfl,h2,Reps.mono h3 _ _ h5⟩,rfl⟩
def q4j:Sp:=fun vs H Q _=>∃(rows:List Str)(l:Addr)(root:Str)(rules:List (Str×Pat)),vs=[.ref l]/\H l=some (.lst (rows.map .str))/\rows.length<=20/\(∀s∈rows,LnOk (csS s))/\z7l rows=.inr (root,rules)/\z1y root rules=none/\∀t H',Same H H'->FormAt root rules H H' t->Q (.ref t) H'
def x1x (CT CN Ct:Addr):Sp:=fun vs H Q E=>∃(rows:List Str)(l:Addr),vs=[.ref l]/\H l=some (.lst (rows.map .str))/\rows.length<=20/\(∀s∈rows,LnOk (csS s)) /\
 (∀root rules,z7l rows=.inr (root,rules)->z1y root rules=none->∀t H',Same H H'->FormAt root rules H H' t->Q (.ref t) H') /\
 (∀root rules c nm,z7l rows=.inr (root,rules)->z1y root rules=some (c,nm)->XWish (c.cls CT CN Ct) nm H E)/\∀k:Nat,z7l rows=.inl k->XWishT Ct k H E
theorem j5s (Y:XR K mg CF CT CN CS Ct Cp Ck){f1 f2 f3 f4 f5:Addr}{fd1 fd2 fd3 fd4 fd5:FuncData}(u1n:Ent K mg "read_form" u3t ["rows"] f fd)(T:Zs K mg)(u1k:Ent K mg "read_rules" u3l ["lines","middle","reader","first"] f1 fd1)(u0m:Ent K mg "read_pattern" u1y ["line"] f2 fd2)(u1a:Ent K mg "is_name" u2s ["text"] f3 fd3)(u0d:Ent K mg "is_letter" u1d ["sign"] f4 fd4)(u5m:Ent K mg "look" u6f ["form"] f5 fd5)(u4o:FnOk P w K mg base (CX1 P w) 249 f1 fd1 ["lines","middle","reader","first"] (y9p f2 Ct))(u6n:FnOk P w K mg base (CX1 P w) 127 f5 fd5 ["form"] (x8t CT CN Ct)):FnOk P w K mg base (CX1 P w) 250 f fd ["rows"] (x1x CT CN Ct):=by
 have u5c:=x5f (P:=P) (w:=w) (base:=base) u1a T u0d;refine u1n.F.okX u4x (fun vs H Q E h=>?_) (fun cdv A outer s H vs Q E hr h=>?_)
 ·obtain⟨_,_,rfl,_⟩:=h;rfl
 ·obtain⟨rows,l,rfl,hl,hn,ok,q1,q2,q3⟩:=h;have hu:=z4s hr;have sz:=z0y;refine⟨_,(z0u (z2t (i:=1) u4x.nd rfl (Or.inl rfl) (z8s (y1e (pv 0) (fun _=>rfl)) (x8q plainAttrs_str slot_str_partition type_str_partition y9h (z5r z1t (pv 0) z2q (fun _ _=>rfl)) (z0i z3b z0p)) (y2i (z0i z3b (z0i z3b (z0i z3b z0p))))))
   (z0u (z5g (PW.pt (x6v (z2b z7h (z5r z1d (pv 1) z2q (fun _ _=>rfl)) z3b (z0k _)) (y7c (y5m (z5x (z6s u5c u1a (z0i (z5r z1d (pv 1) z2q (fun _ _=>rfl)) z0p))))))) (z0v (z8q Y.x_NoText (hr.mono (by omega)) rfl (z0i z2q z0p))) z2i)
   (z0u (z2t (i:=2) u4x.nd rfl (Or.inl rfl) (y2i (z0i (z5r z1d (pv 1) z2q (fun _ _=>rfl)) (z0i (z7f u4o (hr.mono (by omega)) rfl u1k.g u1k.F.kp u1k.b .nil q1h (z0i (y0y q4z (pv 0) (y9y z2q) x6z) (z0i z3b (z0i (y6i (v:=.ref _) rfl u0m.g rfl) (z0i z2q z0p))))) z0p))))
   (z0u (z4q (z7f u6n (hr.mono (by omega)) rfl u5m.g u5m.F.kp u5m.b .nil q1h (z0i (pv 2) z0p)))
   (z0v (z4u (pv 2))))))),?_⟩
  walk_at "rs";generalize hW:tIfS _ _ _ _=W;have go:∀(a m c:Str)(p:Addr)(H1:Hp)(s0:Str)(r:List Str),(z7l rows=if a = "form"/\isNm (csS c)=true then(match z3a 1 r with
   |.inl k=>.inl k
   |.inr rules=>.inr (c,rules)) else .inl 0)->c.length<=100000->r.length<=19->(∀s∈r,LnOk (csS s))->(a = "form"->H l=some (.lst (.str s0::r.map .str)))->H1 p=some (.tup [.str a,.str m,.str c])->Same H H1->W [some (.ref l),some (.ref p),none] H1:=by
   intro a m c p H1 s0 r hf hlc hrl okr hl0 hp1 s1;rw[<-hW];unfold tIfS;walk_at "rs";refine⟨_,hp1,_,rfl,by trivial,?_⟩;by_cases ha:a = "form"
   ·subst ha;refine⟨false,by simp,?_⟩;rw[if_neg (by simp)];refine⟨_,hp1,_,rfl,?_⟩;refine z5f (ds:=[.str c]) (Qd:=fun _ d _=>d=.bl (isNm (csS c))) ⟨_,[],rfl,rfl,rfl⟩ ⟨c,rfl,by omega,rfl⟩ fun b d δ' v H2 s2 ed r2=>?_;subst ed;cases(show v=.bl (isNm (csS c)) from r2);refine⟨_,rfl,?_⟩;have h12:=s1.trans s2;cases hc:isNm (csS c) with
    |false =>
     rw[if_pos rfl];have wx:=q3 0 (by rw[hf,if_neg (by simp[hc])]);exact fun x dx n1 n2 n3=>wx x dx _ (z8z h12 n1 n2) z0g (by rw[z0j n3,z0g];rfl)
    |true =>
     rw[if_pos ⟨rfl,hc⟩]at hf;rw[if_neg (by simp)];refine⟨_,s2 _ _ hp1,_,rfl,_,h12 _ _ (hl0 rfl),fun l2 hl2=>?_⟩;rw[q3c];refine⟨r,l2,rfl,z0g,by omega,okr,fun rules er a' us F' H3 na s3 ha' sF fa ru=>⟨by omega,fun t ht=>?_⟩,fun k2 e2=>(q3 k2 (by rw[hf,e2])).mono (h12.trans (Same.of_new hl2))⟩;rw[er]at hf;obtain⟨y1,y2⟩:=z8p er okr;have fx:FormX rules:=⟨by omega,y2⟩;have s4:Same H H3:=h12.trans ((Same.of_new hl2).trans s3);have nl2:H a' = none:=h12.free (by have:=na;rw[z2y]at this;exact this.2);have fat:FormAt c rules H (upd H3 t (.tup [.str c,.ref a'])) t:=⟨a',us,F',nl2,z0g,by rw[z0j (z0s ha' ht)];exact ha',sF.upd (sF.free ht),fa,ru⟩;have s5:Same H (upd H3 t (.tup [.str c,.ref a'])):=s4.upd (s4.free ht);generalize upd H3 t (.tup [.str c,.ref a'])=H4 at fat s5;refine⟨c,rules,_,rfl,fat.rep,fx,fun cc nm hd=>(q2 c rules cc nm hf hd).mono s5,fun hd H5 s6=>?_⟩;obtain⟨a2,us',F2,x1,x2,x3,x4,x5,x6⟩:=fat
     exact q1 c rules hf hd t H5 (s5.trans s6) ⟨a2,us',F2,x1,s6 _ _ x2,s6 _ _ x3,x4.trans s6,x5,x6⟩
   ·have wx:=q3 0 (by rw[hf,if_neg (fun z=>ha z.1)]);refine⟨true,by simp[ha],?_⟩;rw[if_pos rfl];exact fun x dx n1 n2 n3=>wx x dx _ (z8z s1 n1 n2) z0g (by rw[z0j n3,z0g];rfl)
  cases rows with
  |nil =>
   refine⟨false,.inl ⟨_,SqL.of hl,rfl⟩,?_⟩;rw[if_neg (by simp)];exact⟨by omega,fun p hp=>go "" "" "" p _ "" [] rfl (by decide) (by simp) (by simp) (fun z=>absurd z (by decide)) z0g (Same.of_new hp)⟩
  |cons s0 r =>
   have hl0:H l=some (.lst (.str s0::r.map .str)):=hl;have ok0:=ok s0 mem_cons_self;have hln:=ok0.len;rw[z1u]at hln;refine⟨true,.inl ⟨_,SqL.of hl0,by simp⟩,?_⟩;rw[if_pos rfl];refine⟨_,hl0,.str s0,atI0,by trivial,_,rfl,by decide,by omega,fun p hp=>go _ _ _ p _ s0 r (by rw[z7l]) ?_ (by simp at hn;omega) (fun s hs=>ok s (mem_cons_of_mem _ hs)) (fun _=>hl0) z0g (Same.of_new hp)⟩;have hsum:=partition_sum s0 " ";generalize partition s0 (Str.ofString " ")=pt at hsum ⊢;obtain⟨a,m,c⟩:=pt;dsimp only at hsum ⊢;have okk:LnOk (csS a++csS m++csS c):=by rw[<-z2r,<-z2r,hsum];exact ok0
   have hlc:=okk.sub.2.len;rw[z1u]at hlc;omega
theorem ifS {c:TT}{t u:TS}{D:Ends}{σ:L2.St}{H:Hp}(h:c σ H fun b H1=>if b=true then t D σ H1 else u D σ H1):tIfS c t u D σ H:=h
theorem u5k:FnScope ["_law_rows","_law_caught","e"] ["_law_rows"] (z0f u3i):=by walk_at "s"
noncomputable def Kd.att:Kd->Str
 |.tw=>"name"
 |.nn=>"name"
 |.st=>"row"
def Kd.pay:Kd->V->Prop
 |.st,z=>∃i,z=.int i
 |_,z=>∃s,z=.str s
noncomputable def dueV:Option (Kd×V)->List V
 |none=>[]
 |some (c,z)=>[.str c.str,z]
theorem XR.xc (Y:XR K mg CF CT CN CS Ct Cp Ck)(c:Kd):∃fI,xcIn K (c.cls CT CN Ct) (.ref CF::mroV) fI=true:=by
 cases c with
 |tw=>obtain⟨fI,_,_,_,q,_⟩:=Y.i_Twice;exact⟨fI,q⟩
 |nn=>obtain⟨fI,_,_,_,q,_⟩:=Y.i_NoName;exact⟨fI,q⟩
 |st=>obtain⟨fI,_,_,_,q,_⟩:=Y.i_NoText;exact⟨fI,q⟩
theorem z2p {v c:V}{cv ty:Value}{b:Bool}{t u:TS}{D:Ends}{σ:L2.St}{H:Hp}(h0:σ[0]? = some (some v))(hc:(∃T,c=.ty T/\cv=.type T) \/ ∃C2,c=.ref C2/\cv=.ref C2)
  (hx:(v=.non/\ty=.type "NoneType") \/ ∃y C dx bm fI,v=.ref y/\H y=some (XO C dx y)/\xcIn K C bm fI=true/\ty=.ref C)(hk:kitOne K ty cv=some b)(h:if b=true then t D σ H else u D σ H):tIfS (tB (tCB (rIsX K) (z8y (tVar 0) (z8y (tC c) tNil)))) t u D σ H :=
 ifS ⟨v,h0,v,c,cv,ty,b,rfl,hc,hx,hk,b,rfl,h⟩
def x6h (CT CN CS:Addr):Sp:=fun vs H Q _=>∃(v:V)(o:Option (Kd×V)),vs=[v]/\(match o with|none=>v=.non|some (c,z)=>∃x dx,v=.ref x/\H x=some (XO (c.cls CT CN CS) dx x)/\H dx=some (.xd [(c.att,z)])/\c.pay z) /\
 ∀l H',H l=none->Same H H'->H' l=some (.lst (dueV o))->Q (.ref l) H'
theorem j1z (Y:XR K mg CF CT CN CS Ct Cp Ck)(u2n:Ent K mg "_law_kind" u3v ["_law_error"] f fd)(T:Zs K mg):FnOk P w K mg base CX0 1 f fd ["_law_error"] (x6h CT CN Ct):=by
 refine u2n.F.ok u1s (fun vs H Q E h=>?_) (fun cdv A outer s H vs Q E hr h=>?_)
 ·obtain⟨_,_,rfl,_⟩:=h;rfl
 ·obtain⟨v,o,rfl,hv,q⟩:=h;have hu:=z4s hr;refine⟨_,(z0u (z2t (i:=1) u1s.nd rfl (Or.inl rfl) (z4v z0p))
   (z0u (z5g (z5x (z3h z6e rfl T.z_isinstance boot_isinstance (z0i (pv 0) (z0i (y4y rfl Y.g_Twice) z0p)))) (z0v (z2t (i:=1) u1s.nd rfl (Or.inl rfl) (x0l z2m (pv 1) (z4v (z0i z3b (z0i (z9e (by simp) (pv 0) rfl) z0p)))))) z2i)
   (z0u (z5g (z5x (z3h z6e rfl T.z_isinstance boot_isinstance (z0i (pv 0) (z0i (y4y rfl Y.g_NoName) z0p)))) (z0v (z2t (i:=1) u1s.nd rfl (Or.inl rfl) (x0l z2m (pv 1) (z4v (z0i z3b (z0i (z9e (by simp) (pv 0) rfl) z0p)))))) z2i)
   (z0u (z5g (z5x (z3h z6e rfl T.z_isinstance boot_isinstance (z0i (pv 0) (z0i (y4y rfl Y.g_Stars) z0p)))) (z0v (z2t (i:=1) u1s.nd rfl (Or.inl rfl) (x0l z2m (pv 1) (z4v (z0i z3b (z0i (z9e (by simp) (pv 0) rfl) z0p)))))) z2i)
   (z0u (z5g (z5x (z3h z6e rfl T.z_isinstance boot_isinstance (z0i (pv 0) (z0i (y4y rfl Y.g_NoText) z0p)))) (z0v (z2t (i:=1) u1s.nd rfl (Or.inl rfl) (x0l z2m (pv 1) (z4v (z0i z3b (z0i (q0z (by simp) (pv 0) rfl) z0p)))))) z2i)
   (z0u (z5g (z5x (z3h z6e rfl T.z_isinstance boot_isinstance (z0i (pv 0) (z0i (y4y rfl Y.g_NoPort) z0p)))) (z0v (z2t (i:=1) u1s.nd rfl (Or.inl rfl) (x0l z2m (pv 1) (z4v (z0i z3b (z0i (z9e (by simp) (pv 0) rfl) z0p)))))) z2i)
   (z0u (z5g (z5x (z3h z6e rfl T.z_isinstance boot_isinstance (z0i (pv 0) (z0i (y4y rfl Y.g_Taken) z0p)))) (z0v (z2t (i:=1) u1s.nd rfl (Or.inl rfl) (x0l z2m (pv 1) (z4v (z0i z3b (z0i (z9e (by simp) (pv 0) rfl) z0p)))))) z2i)
   (z0u (z5g (PW.pt (y4f (z2b y9c (pv 0) z6v (z0k _)) (z8n (y5m (z5x (z3h z6e rfl T.z_isinstance boot_isinstance (z0i (pv 0) (z0i (x6e (v:=.ty "ValueError") rfl Y.z_ValueError j1v rfl) z0p)))))))) (z0v (z4q (y4l PySem.F.slot_list_append PySem.F.type_list_append z1m (pv 1) (z0i z3b z0p)))) z2i)
   (z0v (z4u (pv 1))))))))))),?_⟩
  have sz:=z0y;have cr:∀C:Addr,(∃T,V.ref C=.ty T/\Value.ref C=.type T) \/ ∃C2,V.ref C=.ref C2/\Value.ref C=.ref C2:=fun C=>.inr ⟨C,rfl,rfl⟩;cases o with
  |none =>
   subst hv;have hx:∀H1:Hp,((V.non=.non/\tyK CT CN Ct none=.type "NoneType") \/ ∃y C dx bm fI,V.non=.ref y/\H1 y=some (XO C dx y)/\xcIn K C bm fI=true/\tyK CT CN Ct none=.ref C):=fun _=>.inl ⟨rfl,rfl⟩;walk_at "rs";refine⟨by omega,fun l hl=>z2p rfl (cr _) (hx _) (Y.n_Twice _) (iteF ?_)⟩;walk_at "rs";refine z2p rfl (cr _) (hx _) (Y.n_NoName _) (iteF ?_);walk_at "rs";refine z2p rfl (cr _) (hx _) (Y.n_Stars _) (iteF ?_);walk_at "rs";refine z2p rfl (cr _) (hx _) (Y.n_NoText _) (iteF ?_);walk_at "rs";refine z2p rfl (cr _) (hx _) (Y.n_NoPort _) (iteF ?_);walk_at "rs";refine z2p rfl (cr _) (hx _) (Y.n_Taken _) (iteF ?_);walk_at "rs";refine ifS ?_;walk_at "rd";exact⟨false,by simp,iteF (q l _ hl (Same.of_new hl) z0g)⟩
  |some o =>
   obtain⟨c,z⟩:=o;obtain⟨x,dx,rfl,hx,hdx,hz⟩:=hv;obtain⟨fI,hxc⟩:=Y.xc c;have sx:∀{l:Addr},H l=none->Same H (upd H l (.lst [])):=fun h=>Same.of_new h;have ix:∀H1:Hp,Same H H1->((V.ref x=.non/\tyK CT CN Ct (some c)=.type "NoneType") \/ ∃y C dx bm fI,V.ref x=.ref y/\H1 y=some (XO C dx y)/\xcIn K C bm fI=true/\tyK CT CN Ct (some c)=.ref C):=fun H1 s=>.inr ⟨x,_,dx,_,fI,rfl,s _ _ hx,hxc,rfl⟩;cases c with
   |tw =>
    obtain⟨nm,rfl⟩:=hz;walk_at "rs";refine⟨by omega,fun l hl=>z2p rfl (cr _) (ix _ (sx hl)) (Y.n_Twice _) (iteT ?_)⟩;walk_at "rs";refine⟨_,dx,sx hl _ _ hx,_,sx hl _ _ hdx,_,fI,hxc,⟨nm,rfl⟩,by omega,fun p np hp=>⟨[],by rw[z0j (Ne.symm np),z0g],by show 0+2<=sizeLine;omega,fun p1 n1 n2 hp1=>?_⟩⟩;have s3:∀{a b:HO},Same H (upd (upd (upd H l (.lst [])) p a) p1 b):=((sx hl).upd hp).upd hp1;refine z2p rfl (cr _) (ix _ s3) (Y.n_NoName _) (iteF ?_);walk_at "rs";refine z2p rfl (cr _) (ix _ s3) (Y.n_Stars _) (iteF ?_);walk_at "rs";refine z2p rfl (cr _) (ix _ s3) (Y.n_NoText _) (iteF ?_);walk_at "rs";refine z2p rfl (cr _) (ix _ s3) (Y.n_NoPort _) (iteF ?_);walk_at "rs";refine z2p rfl (cr _) (ix _ s3) (Y.n_Taken _) (iteF ?_);walk_at "rs";refine ifS ?_;walk_at "rd";exact⟨true,by simp,iteT ⟨_,⟨_,dx,s3 _ _ hx,_,fI,hxc,rfl⟩,_,Y.n_ValueError (some _),by rw[if_neg (by simp)];exact q p1 _ hp1 s3 z0g⟩⟩
   |nn =>
    obtain⟨nm,rfl⟩:=hz;walk_at "rs";refine⟨by omega,fun l hl=>z2p rfl (cr _) (ix _ (sx hl)) (Y.n_Twice _) (iteF ?_)⟩;walk_at "rs";refine z2p rfl (cr _) (ix _ (sx hl)) (Y.n_NoName _) (iteT ?_);walk_at "rs";refine⟨_,dx,sx hl _ _ hx,_,sx hl _ _ hdx,_,fI,hxc,⟨nm,rfl⟩,by omega,fun p np hp=>⟨[],by rw[z0j (Ne.symm np),z0g],by show 0+2<=sizeLine;omega,fun p1 n1 n2 hp1=>?_⟩⟩;have s3:∀{a b:HO},Same H (upd (upd (upd H l (.lst [])) p a) p1 b):=((sx hl).upd hp).upd hp1;refine z2p rfl (cr _) (ix _ s3) (Y.n_Stars _) (iteF ?_);walk_at "rs";refine z2p rfl (cr _) (ix _ s3) (Y.n_NoText _) (iteF ?_);walk_at "rs";refine z2p rfl (cr _) (ix _ s3) (Y.n_NoPort _) (iteF ?_);walk_at "rs";refine z2p rfl (cr _) (ix _ s3) (Y.n_Taken _) (iteF ?_);walk_at "rs";refine ifS ?_;walk_at "rd";exact⟨true,by simp,iteT ⟨_,⟨_,dx,s3 _ _ hx,_,fI,hxc,rfl⟩,_,Y.n_ValueError (some _),by rw[if_neg (by simp)];exact q p1 _ hp1 s3 z0g⟩⟩
   |st =>
    obtain⟨nm,rfl⟩:=hz;walk_at "rs";refine⟨by omega,fun l hl=>z2p rfl (cr _) (ix _ (sx hl)) (Y.n_Twice _) (iteF ?_)⟩;walk_at "rs";refine z2p rfl (cr _) (ix _ (sx hl)) (Y.n_NoName _) (iteF ?_);walk_at "rs";refine z2p rfl (cr _) (ix _ (sx hl)) (Y.n_Stars _) (iteF ?_);walk_at "rs";refine z2p rfl (cr _) (ix _ (sx hl)) (Y.n_NoText _) (iteT ?_);walk_at "rs";refine⟨_,dx,sx hl _ _ hx,_,sx hl _ _ hdx,_,fI,hxc,⟨nm,rfl⟩,by omega,fun p np hp=>⟨[],by rw[z0j (Ne.symm np),z0g],by show 0+2<=sizeLine;omega,fun p1 n1 n2 hp1=>?_⟩⟩;have s3:∀{a b:HO},Same H (upd (upd (upd H l (.lst [])) p a) p1 b):=((sx hl).upd hp).upd hp1;refine z2p rfl (cr _) (ix _ s3) (Y.n_NoPort _) (iteF ?_);walk_at "rs";refine z2p rfl (cr _) (ix _ s3) (Y.n_Taken _) (iteF ?_);walk_at "rs";refine ifS ?_;walk_at "rd";exact⟨true,by simp,iteT ⟨_,⟨_,dx,s3 _ _ hx,_,fI,hxc,rfl⟩,_,Y.n_ValueError (some _),by rw[if_neg (by simp)];exact q p1 _ hp1 s3 z0g⟩⟩
def z2u (rows:List Str):Option (Kd×V):=match z7l rows with
 |.inl k=>some (.st,.int k)
 |.inr (root,rules)=>(z1y root rules).map fun o=>(o.1,.str o.2)
theorem x4a {root:Str}{rules:List (Str×Pat)}{c:Kd}{nm:Str}(h:z1y root rules=some (c,nm)):c≠.st:=by
 unfold z1y at h;split at h
 ·cases h;intro z;cases z
 ·split at h
  ·obtain⟨s,_,e⟩:=map_eq_some_iff.mp h;cases e;intro z;cases z
  ·cases h;intro z;cases z
def y4v:Sp:=fun vs H Q _=>∃(rows:List Str)(l:Addr),vs=[.ref l]/\H l=some (.lst (rows.map .str))/\rows.length<=20/\(∀s∈rows,LnOk (csS s)) /\
 ∀l H',H l=none->Same H H'->H' l=some (.lst (dueV (z2u rows)))->Q (.ref l) H'
theorem x3h {f1 f2:Addr}{fd1 fd2:FuncData}(Y:XR K mg CF CT CN CS Ct Cp Ck)(u2i:Ent K mg "_law_refused" u3i ["_law_rows"] f fd)(T:Zs K mg)(u1n:Ent K mg "read_form" u3t ["rows"] f1 fd1)(u2n:Ent K mg "_law_kind" u3v ["_law_error"] f2 fd2)(u4e:FnOk P w K mg base (CX1 P w) 250 f1 fd1 ["rows"] (x1x CT CN Ct)):FnOk P w K mg base CX0 251 f fd ["_law_rows"] y4v:=by
 have u6o:=j1z (P:=P) (w:=w) (base:=base) Y u2n T;refine u2i.F.ok u5k (fun vs H Q E h=>?_) (fun cdv A outer s H vs Q E hr h=>?_)
 ·obtain⟨_,_,rfl,_⟩:=h;rfl
 ·obtain⟨rows,l,rfl,hl,hn,ok,q⟩:=h;refine⟨_,(z0u (z2t (i:=1) u5k.nd rfl (Or.inl rfl) z6v)
   (z0u (j6p (ie:=2) (iy:=1) u4e (hr.mono (by decide)) rfl u1n.g u1n.F.kp u1n.b (z0i (pv 0) z0p) ⟨rfl,rfl⟩ rfl u5k.nd rfl rfl rfl (Or.inl rfl) (Or.inl rfl) rfl Y.g_FerryError Y.q_FerryError)
   (z0v (z4u (z6s u6o u2n (z0i (pv 1) z0p)))))),?_⟩
  walk_at "rs";refine⟨rows,l,rfl,hl,hn,ok,fun root rules hf hd t H1 s1 _=>?_,fun root rules c nm hf hd x dx H1 s1 hx hdx=>?_,fun k hf x dx H1 s1 hx hdx=>?_⟩
  ·have e0:z2u rows=none:=by unfold z2u;rw[hf];simp[hd]
   exact⟨.non,none,rfl,rfl,fun l H' n s e=>q l H' (s1.free n) (s1.trans s) (by rw[e0];exact e)⟩
  ·have e0:z2u rows=some (c,.str nm):=by unfold z2u;rw[hf];simp[hd]
   obtain⟨fI,hxc⟩:=Y.xc c;refine⟨x,rfl,?_⟩;have ns:=x4a hd;have ea:c.att = "name":=by cases c<;>first|rfl|exact absurd rfl ns
   have ep:c.pay (.str nm):=by cases c<;>first|exact⟨nm,rfl⟩|exact absurd rfl ns
   refine⟨_,dx,rfl,hx,⟨_,fI,hxc,by simp⟩,.ref x,some (c,.str nm),rfl,⟨x,dx,rfl,hx,by rw[ea];exact hdx,ep⟩,fun l H' n s e=>q l H' (s1.free n) (s1.trans s) (by rw[e0];exact e)⟩
  ·have e0:z2u rows=some (.st,.int k):=by unfold z2u;rw[hf]
   obtain⟨fI,hxc⟩:=Y.xc .st;refine⟨x,rfl,?_⟩;refine⟨_,dx,rfl,hx,⟨_,fI,hxc,by simp⟩,.ref x,some (.st,.int k),rfl,⟨x,dx,rfl,hx,hdx,_,rfl⟩,fun l H' n s e=>q l H' (s1.free n) (s1.trans s) (by rw[e0];exact e)⟩
theorem indC (b e n:Nat):Builtin.Str.strSliceIndices (some (b:Int)) (some (e:Int)) 1 n=Builtin.Str.strSliceIndices (some ((min b n:Nat):Int)) (some ((min e n:Nat):Int)) 1 n:=by
 have e1:max (0:Int) (min (b:Int) (n:Int))=max 0 (min ((min b n:Nat):Int) (n:Int)):=by omega
 have e2:max (0:Int) (min (e:Int) (n:Int))=max 0 (min ((min e n:Nat):Int) (n:Int)):=by omega
 have n1:¬((b:Int)<0):=by omega
 have n2:¬((e:Int)<0):=by omega
 have n3:¬(((min b n:Nat):Int)<0):=by omega
 have n4:¬(((min e n:Nat):Int)<0):=by omega
 unfold Builtin.Str.strSliceIndices;simp only[gt_iff_lt,Int.zero_lt_one,if_true,if_neg n1,if_neg n2,if_neg n3,if_neg n4,e1,e2]
theorem y0g {l:Cs}{b e:Nat}(h:b<=e):Txt.slice (strC l) (some (b:Int)) (some (e:Int))=strC ((l.drop b).take (e - b)):=by
 have hl:=z0t l;have e0:Txt.slice (strC l) (some (b:Int)) (some (e:Int))=Txt.slice (strC l) (some ((min b l.length:Nat):Int)) (some ((min e l.length:Nat):Int)):=by
  unfold Txt.slice;rw[indC,hl]
 rw[e0,x8g (by omega) (by omega)];congr 1;by_cases hb:b<=l.length
 ·rw[min_eq_left hb];by_cases he:e<=l.length
  ·rw[min_eq_left he]
  ·rw[min_eq_right (by omega),take_of_length_le (by rw[length_drop];omega),take_of_length_le (by rw[length_drop];omega)]
 ·rw[min_eq_right (by omega),min_eq_right (by omega),drop_of_length_le (le_refl _),drop_of_length_le (by omega)];simp
theorem y8m (l:Cs)(b:Nat):Txt.slice (strC l) (some (b:Int)) (some ((b:Int)+1))=strC ((l.drop b).take 1):=by
 have:=y0g (l:=l) (b:=b) (e:=b+1) (by omega);rw[show b+1 - b=1 by omega]at this
 exact_mod_cast this
theorem q6i (l:Cs)(b:Nat):Txt.slice (strC l) (some (b:Int)) (some ((b:Int)+3))=strC ((l.drop b).take 3):=by
 have:=y0g (l:=l) (b:=b) (e:=b+3) (by omega);rw[show b+3 - b=3 by omega]at this
 exact_mod_cast this
theorem z7u {a b:Cs}(h:strC a=strC b):a=b:=by
 have:=congrArg csS h;rwa [z5u,z5u]at this
theorem x6n (x:Str)(c:Nat):(!(Builtin.Str.occurrences x ⟨#[c]⟩ 0 x.length 1).isEmpty)=decide (c∈csS x):=by
 rcases occ_head x ⟨#[c]⟩ 1 (le_refl 1) with ⟨h0,hn⟩|⟨i,r,h0,hi,_⟩
 ·rw[h0];show false=_;symm;rw[decide_eq_false_iff_not];intro hc;obtain⟨i,hi,e⟩:=List.getElem_of_mem hc;refine hn i ⟨?_,?_⟩
  ·rw[z1u]at hi;show i+1<=_;omega
  ·rw[subAt_eq];show(((csS x).drop i).take 1 == [c])=true;rw[drop_eq_getElem_cons hi,e];simp
 ·rw[h0];show true=_;symm;rw[decide_eq_true_eq];have h2:=hi.2;rw[subAt_eq]at h2;have h3:((csS x).drop i).take 1=[c]:=eq_of_beq h2;have:c∈((csS x).drop i).take 1:=by rw[h3];simp
  exact mem_of_mem_drop (mem_of_mem_take this)
theorem q8d (c:Nat):decide (c∈csS ("abcdefghijklmnopqrstuvwxyz":Str))=isL c:=by
 have e:csS ("abcdefghijklmnopqrstuvwxyz":Str)=(range 26).map (· + 97):=by decide +kernel
 rw[e];unfold isL;rw[<-Bool.decide_and];refine decide_eq_decide.mpr ⟨fun h=>?_,fun⟨h1,h2⟩=>?_⟩
 ·obtain⟨k,hk,rfl⟩:=mem_map.mp h;have:=mem_range.mp hk;omega
 ·exact mem_map.mpr ⟨c - 97,mem_range.mpr (by omega),by omega⟩
def z9v (l:Cs)(b:Nat):Nat:=b+((l.drop b).takeWhile isL).length
def x8l:RD:=fun δ Q=>∃(l:Cs)(b:Nat),δ=[.fz (.str (strC l)),.fz (.int b)]/\b<=l.length/\l.length<=100000/\Q false (.int (z9v l b)) [.no,.no]
theorem x6p (u0c:Ent K mg "_law_name_end" u0z ["_law_line","_law_at"] f fd)(T:Zs K mg):FnOk P w K mg base CX0 1 f fd ["_law_line","_law_at"] (spD x8l):=by
 refine VL.Fun.dok u0c.F u4s (fun δ Qd h=>?_) (by decide) (fun cdv A outer s H E δ Qd hr h=>?_)
 ·obtain⟨_,_,rfl,_⟩:=h;rfl
 ·obtain⟨l,b,rfl,hb,hl,q⟩:=h;refine⟨_,(z0b (z6b PassesOwn.never (dt_w (y0c (z0r z8j z7h (z0z (dv 0) (z0o (dv 1)) (z0o (z0l z1c z1b (dv 1) z0c))) z0h (z0k _)) (z7g (z0r x6x x5a (z0m z9r z8c (pv 0) (dv 1) (fun _ _=>rfl)) z0h rfl)))) (z0e (dq 1 u4s.nd (z0l z1c z1b (dv 1) z0c))))
   (z0e (z0n (dm 1)))),?_⟩
  have sz:=z0y;walk_at "vd";have tl:((l.drop b).takeWhile isL).length<=(l.drop b).length:=(takeWhile_sublist _).length_le;rw[length_drop]at tl;refine⟨[],fun δ=>∃k:Nat,k<=((l.drop b).takeWhile isL).length/\δ=[.fz (.str (strC l)),.fz (.int ((b+k:Nat):Int))],fun δ=>l.length - inAt 1 δ,⟨0,zero_le _,by simp[fgt]⟩,?_⟩;rintro δ ⟨k,hk,rfl⟩;walk_at "vd";have hcl:(strC l).cps.toList=l:=z5u l;have fin:k=((l.drop b).takeWhile isL).length->Qd false (.int ((b+k:Nat):Int)) [.no,.no]:=fun e=>by unfold z9v at q;rw[<-e]at q;exact q
  refine⟨by rw[z0t];omega,?_⟩;rw[y8m];by_cases hlt:b+k<l.length
  ·obtain⟨d,hd⟩:∃d,l[b+k]? = some d:=⟨_,getElem?_eq_getElem hlt⟩;have e1:(l.drop (b+k)).take 1=[d]:=by
    rw[drop_eq_getElem_cons hlt];have:=getElem?_eq_getElem hlt;rw[hd]at this;rw[<-Option.some.inj this];rfl
   have st:=tw_step (d:=l.drop b) hk (by rw[List.getElem?_drop];exact hd);rw[e1,if_pos (decide_eq_false fun z=>by have:=z7u (b:=[]) z;cases this)];refine⟨by rw[z0t];omega,d,by rw[hcl];exact z2w hd,_,_,rfl,rfl,?_⟩;rw[x6n,q8d];show if isL d=true then _ else _
   cases hD:isL d with
   |true =>
    rw[if_pos rfl];exact⟨⟨k+1,st.1 hD,by push_cast;rfl⟩,by omega⟩
   |false =>
    rw[if_neg (by simp)];exact fin (st.2 hD)
  ·have e1:(l.drop (b+k)).take 1=[]:=by rw[drop_of_length_le (by omega)];rfl
   rw[e1,if_neg (by decide)];exact fin (by omega)
def eE (p:Pat):Cs:=brk (z1z p) (txt p)
def bB (p:Pat):Cs:=brk (z6j p) (txt p)
noncomputable def sepS:Bool->Cs
 |false=>[32]
 |true=>[32,124,32]
def tT:Bool->Pat->Cs
 |false=>eE
 |true=>bB
theorem x9w (ps:List Pat):txt (.row ps)=z1s (sepS false) (ps.map (tT false)):=by rw[txt,z9h];rfl
theorem j1q (ps:List Pat):txt (.any ps)=z1s (sepS true) (ps.map (tT true)):=by rw[txt,z8v];rfl
theorem x5x (k:Wk)(p:Pat):eE (.wrap k p)=eE p++[mkC k]:=by
 show txt (.wrap k p)=_;rw[txt];rfl
noncomputable def tlS (s:Bool):List Pat->Cs
 | []=>[]
 |q::qs=>sepS s++tT s q++tlS s qs
theorem y5z (s:Bool):∀(q:Pat)(qs:List Pat),z1s (sepS s) ((q::qs).map (tT s))=tT s q++tlS s qs
 |q,[]=>by simp[z1s,tlS]
 |q,r::qs=>by
  have:=y5z s r qs;rw[map_cons,map_cons,z1s,<-map_cons,this,tlS];simp
def Fol1 (r:Cs):Prop:=∀c,r.head? = some c->isL c=false/\c≠63/\c≠42/\c≠43
def FolS:Bool->Cs->Prop
 |false,r=>r=[]\/r.head? = some 41\/r.take 3=[32,124,32]
 |true,r=>r=[]\/r.head? = some 41
theorem FolS.one {s:Bool}{r:Cs}(h:FolS s r):Fol1 r:=by
 intro c hc;cases s with
 |false =>
  rcases h with rfl|h|h
  ·simp at hc
  ·rw[h]at hc;cases hc;decide
  ·cases r with
   |nil=>simp at h
   |cons a r =>
    simp at hc h;rw[<-hc,h.1];decide
 |true =>
  rcases h with rfl|h
  ·simp at hc
  ·rw[h]at hc;cases hc;decide
theorem FolS.up {r:Cs}(h:FolS true r):FolS false r:=by
 rcases h with h|h
 ·exact .inl h
 ·exact .inr (.inl h)
def Beg (c:Nat):Prop:=c≠32/\c≠124/\c≠41/\c≠63/\c≠42/\c≠43
theorem x7h {s:Cs}(h:s=[35]\/isNm s=true):∃c r,s=c::r/\Beg c/\c≠40/\c≠45:=by
 rcases h with rfl|h
 ·exact⟨35,[],rfl,by unfold Beg;decide,by decide,by decide⟩
 ·unfold isNm at h;rw[and_eq_true,decide_eq_true_eq,all_eq_true]at h;cases s with
  |nil=>exact absurd rfl h.1
  |cons c r =>
   have hc:=h.2 c mem_cons_self;refine⟨c,r,rfl,?_,?_,?_⟩
   ·unfold Beg isL at *
    simp at hc;omega
   ·rintro rfl;exact absurd hc (by decide)
   ·rintro rfl;exact absurd hc (by decide)
mutual
theorem x0f:∀p:Pat,okT p=true->∃c r,eE p=c::r/\Beg c
 |.none,_=>⟨45,[],by simp[eE,z1z,brk,txt],by unfold Beg;decide⟩
 |.one s,h=>by
  simp only[okT,or_eq_true,decide_eq_true_eq]at h;obtain⟨c,r,e,b,_⟩:=x7h h;exact⟨c,r,by simp[eE,z1z,brk,txt,e],b⟩
 |.row ps,_=>⟨40,_,by simp only[eE,z1z,brk,if_true];rfl,by unfold Beg;decide⟩
 |.any ps,_=>⟨40,_,by simp only[eE,z1z,brk,if_true];rfl,by unfold Beg;decide⟩
 |.wrap k p,h=>by
  simp only[okT]at h;obtain⟨c,r,e,b⟩:=x0f p h;exact⟨c,r++[mkC k],by rw[x5x,e];rfl,b⟩
end
theorem j9t {p:Pat}(h:okT p=true):∃c r,bB p=c::r/\Beg c:=by
 cases p with
 |row ps =>
  have h':=h;simp only[okT,and_eq_true,decide_eq_true_eq]at h'
  match ps,h' with
  |q::qs,h' =>
   have hq:okT q=true:=by have:=h'.2;rw[okTs,and_eq_true]at this;exact this.1
   obtain⟨c,r,e,b⟩:=x0f q hq;refine⟨c,r++tlS false qs,?_,b⟩;show txt (.row (q::qs))=_;rw[x9w,y5z];show eE q++_=_;rw[e];rfl
  | [],h'=>exact absurd h'.1 (by decide)
 |none=>exact x0f .none h
 |one s=>exact x0f (.one s) h
 |any ps=>exact x0f (.any ps) h
 |wrap k p=>exact x0f (.wrap k p) h
theorem beg_t {s:Bool}{p:Pat}(h:okT p=true):∃c r,tT s p=c::r/\Beg c:=by
 cases s with
 |false=>exact x0f p h
 |true=>exact j9t h
def z6g:List Wk->Pat->Pat
 | [],p=>p
 |k::ks,p=>z6g ks (.wrap k p)
theorem x3a:∀(ks:List Wk)(p:Pat),eE (z6g ks p)=eE p++ks.map mkC
 | [],p=>by simp[z6g]
 |k::ks,p=>by rw[z6g,x3a ks,x5x];simp
theorem y8i:∀(ks:List Wk)(p:Pat),okT (z6g ks p)=okT p
 | [],p=>rfl
 |k::ks,p=>by rw[z6g,y8i ks];simp only[okT]
theorem x4e (ks:List Wk)(k:Wk)(p:Pat):z6g (ks++[k]) p=.wrap k (z6g ks p):=by
 induction ks generalizing p with
 |nil=>rfl
 |cons j ks ih=>rw[cons_append,z6g,z6g,ih]
noncomputable def isW:Pat->Bool
 |.wrap _ _=>true
 |_=>false
theorem q5x:∀p:Pat,∃ks b,p=z6g ks b/\isW b=false
 |.wrap k p=>by
  obtain⟨ks,b,e,h⟩:=q5x p;exact⟨ks++[k],b,by rw[x4e,<-e],h⟩
 |.none=>⟨[],.none,rfl,rfl⟩
 |.one s=>⟨[],.one s,rfl,rfl⟩
 |.row ps=>⟨[],.row ps,rfl,rfl⟩
 |.any ps=>⟨[],.any ps,rfl,rfl⟩
structure Snd (l:Cs)(b e:Nat)(p:Pat)(m:Nat):Prop where
 ok:okT p=true
 lt:b<e
 le:e<=l.length
 wt:wtP p<=13 * (e - b)
 dp:dpP p<=2 * cntD ((l.drop b).take (e - b))+m
def Can1 (l:Cs)(b:Nat)(q:Pat)(rest:Cs):Prop:=okT q=true/\l.drop b=eE q++rest/\Fol1 rest
def CanS (l:Cs)(b:Nat)(q:Pat)(rest:Cs):Prop:=okT q=true/\l.drop b=bB q++rest/\FolS false rest
def CanA (l:Cs)(b:Nat)(q:Pat)(rest:Cs):Prop:=okT q=true/\l.drop b=txt q++rest/\FolS true rest
def ResP (l:Cs)(b m:Nat)(Can:Pat->Cs->Prop)(d:D):Prop:=(d=.non/\∀q rest,Can q rest->False) \/ ∃p,∃e:Nat,d=.tup [patD p,.int e]/\Snd l b e p m/\∀q rest,Can q rest->q=p/\rest=l.drop e
noncomputable def c40 (l:Cs):Nat:=(l.filter fun c=>decide (c=40)).length
theorem y1c (l:Cs)(i j:Nat)(h:i<=j):c40 (l.drop j)<=c40 (l.drop i):=by
 have e:l.drop j=(l.drop i).drop (j - i):=by rw[drop_drop];congr 1;omega
 rw[e];exact((List.drop_sublist _ _).filter _).length_le
theorem j4 {l:Cs}{b:Nat}(h:(l.drop b).take 1=[40]):c40 (l.drop (b+1))+1=c40 (l.drop b):=by
 cases e:l.drop b with
 |nil=>rw[e]at h;cases h
 |cons c r =>
  rw[e]at h;have hc:c=40:=by simpa using h
  have e2:l.drop (b+1)=r:=by rw[<-drop_drop,e];rfl
  rw[e2,hc];simp[c40]
theorem z9a {l:Cs}{b e f:Nat}(h1:b<=e)(h2:e<=f):cntD ((l.drop b).take (f - b))=cntD ((l.drop b).take (e - b))+cntD ((l.drop e).take (f - e)):=by
 have e1:f - b=(e - b)+(f - e):=by omega
 rw[e1,List.take_add,z1q,drop_drop];congr 3;congr 1;omega
end
section
theorem Can1.base {l:Cs}{b:Nat}{q:Pat}{rest:Cs}(h:Can1 l b q rest):∃ks b0,q=z6g ks b0/\isW b0=false/\okT b0=true/\l.drop b=eE b0++(ks.map mkC++rest)/\Fol1 rest:=by
 obtain⟨h1,h2,h3⟩:=h;obtain⟨ks,b0,rfl,hw⟩:=q5x q;rw[y8i]at h1;rw[x3a,append_assoc]at h2;exact⟨ks,b0,rfl,hw,h1,h2,h3⟩
theorem x8i {ks:List Wk}{rest:Cs}(h:Fol1 rest):Nl (ks.map mkC++rest):=by
 intro c hc;cases ks with
 |nil=>exact(h c hc).1
 |cons k ks =>
  have:c=mkC k:=by simpa using hc.symm
  rw[this];cases k<;>decide
theorem j1g {a b:Wk}(h:mkC a=mkC b):a=b:=by cases a<;>cases b<;>first|rfl|cases h
noncomputable def idxK:Wk->Nat
 |.maybe=>0
 |.many=>1
 |.some=>2
theorem q0j (k:Wk):∃r,Builtin.Str.occurrences ("?*+":Str) ⟨#[mkC k]⟩ 0 ("?*+":Str).length 1=idxK k::r:=by
 cases k<;>exact⟨[],by decide +kernel⟩
theorem z5w {l:Cs}{b:Nat}{c:Nat}(h:(l.drop b).take 1=[c]):b<l.length/\l.drop b=c::l.drop (b+1):=by
 cases e:l.drop b with
 |nil=>rw[e]at h;cases h
 |cons d r =>
  rw[e]at h;have hd:d=c:=by simpa using h
  have hb:b<l.length:=by
   have:=congrArg List.length e;rw[length_drop,length_cons]at this;omega
  refine⟨hb,?_⟩;have e2:l.drop (b+1)=r:=by rw[<-drop_drop,e];rfl
  rw[e2,hd]
theorem tw_app {w r:Cs}(hw:∀c∈w,isL c=true)(hr:Nl r):(w++r).takeWhile isL=w:=by
 rw[List.takeWhile_append_of_pos hw];have:r.takeWhile isL=[]:=by
  cases r with
  |nil=>rfl
  |cons d r=>rw[takeWhile_cons,if_neg (by rw[hr d rfl];simp)]
 rw[this,append_nil]
variable {P:Program}{w:World}{K:W.Frag}{mg:Str->Option Value}{base:Heap}{f:Addr}{fd:FuncData}{aM aK:Addr}
def y4t (m:Nat)(Can:Cs->Nat->Pat->Cs->Prop)(n:Nat):RD:=fun δ Q=>∃(l:Cs)(b:Nat),δ=[.fz (.str (strC l)),.fz (.int b)]/\b<=l.length/\l.length<=1900/\c40 (l.drop b)<n/\∀d,ResP l b m (Can l b) d->Q false d [.no,.no]
theorem j4f {n:Nat}{f1 f2:Addr}{fd1 fd2:FuncData}(u0g:Ent K mg "_law_one_in" u1b ["_law_line","_law_at"] f fd)(T:Zs K mg)(u0c:Ent K mg "_law_name_end" u0z ["_law_line","_law_at"] f1 fd1)(u0l:Ent K mg "_law_any_in" u1g ["_law_line","_law_at"] f2 fd2)(u4p:FnOk P w K mg base CX0 (5 * n+1) f2 fd2 ["_law_line","_law_at"] (spD (y4t 2 CanA n))):FnOk P w K mg base CX0 (5 * n+2) f fd ["_law_line","_law_at"] (spD (y4t 0 Can1 (n+1))):=by
 have u2z:=x6p (P:=P) (w:=w) (base:=base) u0c T;refine VL.Fun.dok u0g.F u0y (fun δ Qd h=>?_) (by decide) (fun cdv A outer s H E δ Qd hr h=>?_)
 ·obtain⟨_,_,rfl,_⟩:=h;rfl
 ·obtain⟨l,b,rfl,hb,hl,hc,q⟩:=h;have hu:=z4s hr;refine⟨_,(z0b (dq 2 u0y.nd (z1x u2z u0c (z0a (dv 0) (z0a (dv 1) z0d))))
   (z0b (dq 3 u0y.nd (z1j (z0a (z1j (z0a z0h (z0a (z0z (dv 0) (z0o (dv 1)) (z0o (dv 2))) z0d))) (z0a (dv 2) z0d))))
   (z0b (z1k (z0r z2j z1v (z0z (dv 0) (z0o (dv 1)) (z0o (z0l z1c z1b (dv 1) z0c))) z0h (z0k _)) (z0e (dq 3 u0y.nd (z1j (z0a (z1j (z0a z0h z0d)) (z0a (z0l z1c z1b (dv 1) z0c) z0d))))) (z0e (z1k (z0r z2j z1v (z0z (dv 0) (z0o (dv 1)) (z0o (z0l z1c z1b (dv 1) z0c))) z0h (z0k _)) (z0e (dq 3 u0y.nd (z1j (z0a (z1j (z0a z0h (z0a z0h z0d))) (z0a (z0l z1c z1b (dv 1) z0c) z0d))))) (z0e (z1k (z0r z2j z1v (z0z (dv 0) (z0o (dv 1)) (z0o (z0l z1c z1b (dv 1) z0c))) z0h (z0k _)) (z0b (dq 3 u0y.nd (z1x u4p u0l (z0a (dv 0) (z0a (z0l z1c z1b (dv 1) z0c) z0d))))
   (z0b (z1k (dt_w (z7y (z0r y3s z9y (dv 3) z4a (z0k _)) (z8a (z0r z8j z7h (z0z (dv 0) (z0o (z0m z0w z1d (pv 3) z0c (fun _ _=>rfl))) (z0o (z0l z1c z1b (z0m z0w z1d (pv 3) z0c (fun _ _=>rfl)) z0c))) z0h (z0k _))))) (z0e (z0n z4a)) z0q)
   (z0e (dq 3 u0y.nd (z1j (z0a (z0m z0w z1d (pv 3) z0c (fun _ _=>rfl)) (z0a (z0l z1c z1b (z0m z0w z1d (pv 3) z0c (fun _ _=>rfl)) z0c) z0d))))))) (z0e (z1k (z0r z2j z1v (dv 2) (dv 1) (z0k _)) (z0e (z0n z4a)) z0q)))))))
   (z0b (z6b PassesOwn.never (dt_w (y0c (z0r z8j z7h (z0z (dv 0) (z0o (z0m z0w z1d (pv 3) z0c (fun _ _=>rfl))) (z0o (z0l z1c z1b (z0m z0w z1d (pv 3) z0c (fun _ _=>rfl)) z0c))) z0h (z0k _)) (z7g (z0r x6x x5a (z0m z9r z8c (pv 0) (z0m z0w z1d (pv 3) z0c (fun _ _=>rfl)) (fun _ _=>rfl)) z0h rfl)))) (z0b (dq 4 u0y.nd (x0s z2f z1t (z1a (z0a z0h (z0a z0h (z0a z0h z0d)))) (q8q z0h (z0m z9r z8c (pv 0) (z0m z0w z1d (pv 3) z0c (fun _ _=>rfl)) (fun _ _=>rfl))) (fun _ _=>rfl)))
   (z0e (dq 3 u0y.nd (z1j (z0a (z1j (z0a (dv 4) (z0a (z0m z0w z1d (pv 3) z0c (fun _ _=>rfl)) z0d))) (z0a (z0l z1c z1b (z0m z0w z1d (pv 3) z0c (fun _ _=>rfl)) z0c) z0d)))))))
   (z0e (z0n (dm 3))))))),?_⟩
  have sz:=z0y;walk_at "vd";refine⟨l,b,rfl,hb,by omega,?_⟩;walk_at "vd";generalize hW:x8s _ _ _=W;have loop:∀(p:Pat)(e:Nat),Snd l b e p 0->(∀q rest,Can1 l b q rest->∃ks,q=z6g ks p/\l.drop e=ks.map mkC++rest)->W [.fz (.str (strC l)),.fz (.int b),.fz (.int (z9v l b)),.fz (.tup [patD p,.int e]),.no]:=by
   intro p e s0 c0;rw[<-hW];refine⟨[4],fun δ=>∃(p:Pat)(e:Nat),Snd l b e p 0/\(∀q rest,Can1 l b q rest->∃ks,q=z6g ks p/\l.drop e=ks.map mkC++rest)/\δ=[.fz (.str (strC l)),.fz (.int b),.fz (.int (z9v l b)),.fz (.tup [patD p,.int e]),.no],fun δ=>l.length - inAt 3 δ,⟨p,e,s0,c0,by simp[fgt]⟩,?_⟩;rintro δ ⟨p,e,s0,c0,rfl⟩;walk_at "vd";have hcl:(strC l).cps.toList=l:=z5u l;have he:=s0.le;have hlt0:=s0.lt;have hwt:=s0.wt;have hdp:=s0.dp;have exit:(∀c,(l.drop e).head? = some c->c≠63/\c≠42/\c≠43)->Qd false (.tup [patD p,.int e]) [.no,.no]:=fun hx=>q _ (.inr ⟨p,e,rfl,s0,fun q' rest cn=>by
    obtain⟨ks,e1,e2⟩:=c0 q' rest cn;cases ks with
    |nil=>exact⟨e1,by simpa using e2.symm⟩
    |cons k ks =>
     have:=hx (mkC k) (by rw[e2];rfl);cases k<;>simp[mkC]at this⟩)
   refine⟨by rw[z0t];omega,?_⟩;rw[y8m];by_cases hlt:e<l.length
   ·obtain⟨c,hc'⟩:∃c,l[e]? = some c:=⟨_,getElem?_eq_getElem hlt⟩;have e1:(l.drop e).take 1=[c]:=by
     rw[drop_eq_getElem_cons hlt];have:=getElem?_eq_getElem hlt;rw[hc']at this;rw[<-Option.some.inj this];rfl
    have ed:=(z5w e1).2;have cm:csS ("?*+":Str)=[63,42,43]:=by decide
    rw[e1,if_pos (decide_eq_false fun z=>by have:=z7u (b:=[]) z;cases this)];refine⟨by rw[z0t];omega,c,by rw[hcl];exact z2w hc',_,_,rfl,rfl,?_⟩;rw[x6n];show if decide (c∈csS ("?*+":Str))=true then _ else _
    by_cases hm:c∈csS ("?*+":Str)
    ·rw[decide_eq_true hm,if_pos rfl];rw[cm]at hm;obtain⟨k,rfl⟩:∃k,c=mkC k:=by
      simp only[mem_cons,not_mem_nil,or_false]at hm;rcases hm with rfl|rfl|rfl
      ·exact⟨.maybe,rfl⟩
      ·exact⟨.many,rfl⟩
      ·exact⟨.some,rfl⟩
     obtain⟨r,ho⟩:=q0j k;have hD:cntD [mkC k]=1:=by cases k<;>decide
     refine⟨by omega,by rw[z0t];omega,_,by rw[hcl];exact z2w hc',_,r,ho,.str k.str,by cases k<;>rfl,by omega,by omega,⟨.wrap k p,e+1,⟨by simp only[okT];exact s0.ok,by omega,by omega,by simp only[wtP];omega,?_⟩,fun q' rest cn=>?_,?_⟩,by omega⟩
     ·have h3:=z9a (l:=l) (b:=b) (e:=e) (f:=e+1) (by omega) (by omega);rw[show e+1 - e=1 by omega,e1,hD]at h3;simp only[dpP];omega
     ·obtain⟨ks,e2,e3⟩:=c0 q' rest cn;cases ks with
      |nil =>
       have:=cn.2.2 (mkC k) (by rw[map_nil,nil_append]at e3;rw[<-e3,ed];rfl);cases k<;>simp[mkC]at this
      |cons k' ks =>
       rw[ed,map_cons,cons_append]at e3;obtain⟨e4,e5⟩:=List.cons.inj e3;have:=j1g e4;subst this;exact⟨ks,e2,e5⟩
     ·simp only[patD];push_cast;rfl
    ·rw[decide_eq_false hm,if_neg (by simp)];refine exit fun c' h'=>?_;rw[ed]at h';have:c' = c:=by simpa using h'.symm
     subst this;rw[cm]at hm;simpa using hm
   ·have e1:l.drop e=[]:=drop_of_length_le (by omega);rw[e1,List.take_nil,if_neg (by decide)];exact exit fun c h=>by rw[e1]at h;simp at h
  have c1:((b+1:Nat):Int)=(b:Int)+1:=by push_cast;rfl
  have l0:(strC l).length<=sizeLine:=by rw[z0t];omega
  refine⟨l0,by omega,by omega,l0,?_⟩;rw[y8m];have e45:(strC ((l.drop b).take 1)=("-":Str))↔(l.drop b).take 1=[45]:=sC (by decide);have e35:(strC ((l.drop b).take 1)=("#":Str))↔(l.drop b).take 1=[35]:=sC (by decide);have e40:(strC ((l.drop b).take 1)=("(":Str))↔(l.drop b).take 1=[40]:=sC (by decide);by_cases h45:(l.drop b).take 1=[45]
  ·rw[if_pos (e45.mpr h45)];obtain⟨hlt,ed⟩:=z5w h45;have:=loop .none (b+1) ⟨rfl,by omega,by omega,by simp only[wtP];omega,by simp[dpP]⟩ fun q' rest cn=>by
    obtain⟨ks,b0,rfl,hw,ok0,e1,fl⟩:=cn.base;rw[ed]at e1;cases b0 with
    |none=>exact⟨ks,rfl,by simpa[eE,z1z,brk,txt] using e1⟩
    |one s =>
     simp only[okT,or_eq_true,decide_eq_true_eq]at ok0;obtain⟨c,r,ec,_,_,n45⟩:=x7h ok0;have:eE (.one s)=csS s:=by simp[eE,z1z,brk,txt]
     rw[this,ec]at e1;exact absurd (List.cons.inj e1).1.symm n45
    |row ps=>simp[eE,z1z,brk]at e1
    |any ps=>simp[eE,z1z,brk]at e1
    |wrap k p=>cases hw
   rw[c1]at this;exact⟨by omega,by omega,this⟩
  rw[if_neg (fun z=>h45 (e45.mp z))];refine⟨l0,?_⟩;by_cases h35:(l.drop b).take 1=[35]
  ·rw[if_pos (e35.mpr h35)];obtain⟨hlt,ed⟩:=z5w h35;have:=loop (.one "#") (b+1) ⟨by decide,by omega,by omega,by simp only[wtP];have:("#":Str).length=1:=(by decide);omega,by simp[dpP]⟩ fun q' rest cn=>by
    obtain⟨ks,b0,rfl,hw,ok0,e1,fl⟩:=cn.base;rw[ed]at e1;cases b0 with
    |none=>simp[eE,z1z,brk,txt]at e1
    |one s =>
     simp only[okT,or_eq_true,decide_eq_true_eq]at ok0;have es:eE (.one s)=csS s:=by simp[eE,z1z,brk,txt]
     rw[es]at e1;rcases ok0 with h|h
     ·rw[h]at e1;have:s = "#":=by rw[<-z2v s,h];decide
      subst this;exact⟨ks,rfl,by simpa using e1⟩
     ·obtain⟨hn,hc'⟩:=(show csS s≠[]/\∀c∈csS s,isL c=true by
       unfold isNm at h;rw[and_eq_true,decide_eq_true_eq,all_eq_true]at h;exact h)
      cases ec:csS s with
      |nil=>exact absurd ec hn
      |cons c r =>
       rw[ec]at e1 hc';have h1:=(List.cons.inj e1).1;have h2:=hc' c mem_cons_self;rw[<-h1]at h2;exact absurd h2 (by decide)
    |row ps=>simp[eE,z1z,brk]at e1
    |any ps=>simp[eE,z1z,brk]at e1
    |wrap k p=>cases hw
   rw[c1]at this;exact⟨by omega,by omega,this⟩
  rw[if_neg (fun z=>h35 (e35.mp z))];refine⟨l0,?_⟩;by_cases h40:(l.drop b).take 1=[40]
  ·rw[if_pos (e40.mpr h40)];obtain⟨hlt,ed⟩:=z5w h40;have h40c:=j4 h40;have inner:∀q' rest,Can1 l b q' rest->∃ks b0,q' = z6g ks b0/\CanA l (b+1) b0 (41::(ks.map mkC++rest)):=fun q' rest cn=>by
    obtain⟨ks,b0,rfl,hw,ok0,e1,fl⟩:=cn.base;rw[ed]at e1;have fin:(∃t,eE b0=40::(t++[41])/\txt b0=t)->∃ks' b0',z6g ks b0=z6g ks' b0'/\CanA l (b+1) b0' (41::(ks'.map mkC++rest)):=by
     rintro⟨t,h1,h2⟩;rw[h1]at e1;exact⟨ks,b0,rfl,ok0,by rw[h2];simpa using(List.cons.inj e1).2,.inr rfl⟩
    cases b0 with
    |none=>simp[eE,z1z,brk,txt]at e1
    |one s =>
     simp only[okT,or_eq_true,decide_eq_true_eq]at ok0;obtain⟨c,r,ec,_,n40,_⟩:=x7h ok0;have:eE (.one s)=csS s:=by simp[eE,z1z,brk,txt]
     rw[this,ec]at e1;exact absurd (List.cons.inj e1).1.symm n40
    |row ps=>exact fin ⟨_,rfl,rfl⟩
    |any ps=>exact fin ⟨_,rfl,rfl⟩
    |wrap k p=>cases hw
   refine⟨l,b+1,by rw[c1],by omega,hl,by omega,fun d hd=>?_⟩;rcases hd with ⟨rfl,no⟩|⟨p,e,rfl,sn,un⟩
   ·walk_at "vd";refine q _ (.inl ⟨rfl,fun q' rest cn=>?_⟩);obtain⟨ks,b0,_,ca⟩:=inner q' rest cn;exact no _ _ ca
   ·have y1:=sn.lt;have y2:=sn.le;have y3:=sn.wt;have y4:=sn.dp;walk_at "vd";refine⟨l0,?_⟩;rw[y8m];have e41:(strC ((l.drop e).take 1)=(")":Str))↔(l.drop e).take 1=[41]:=sC (by decide);have nx:∀q' rest,Can1 l b q' rest->∃ks,q' = z6g ks p/\l.drop e=41::(ks.map mkC++rest):=fun q' rest cn=>by
     obtain⟨ks,b0,e1,ca⟩:=inner q' rest cn;obtain⟨rfl,e2⟩:=un _ _ ca;exact⟨ks,e1,e2.symm⟩
    by_cases h41:(l.drop e).take 1=[41]
    ·obtain⟨hlt2,ed2⟩:=z5w h41;rw[if_neg (by rw[decide_eq_true (e41.mpr h41)];simp),hW];refine⟨by omega,?_⟩;have k1:=z9a (l:=l) (b:=b) (e:=b+1) (f:=e+1) (by omega) (by omega);have k2:=z9a (l:=l) (b:=b+1) (e:=e) (f:=e+1) (by omega) (by omega);rw[show b+1 - b=1 by omega,h40,show cntD [40]=1 by decide]at k1;have:=loop p (e+1) ⟨sn.ok,by omega,by omega,by omega,by omega⟩ fun q' rest cn=>by
      obtain⟨ks,e1,e2⟩:=nx q' rest cn;rw[ed2]at e2;exact⟨ks,e1,(List.cons.inj e2).2⟩
     rw[show((e+1:Nat):Int)=(e:Int)+1 by push_cast;rfl]at this;exact this
    ·rw[if_pos (decide_eq_false fun z=>h41 (e41.mp z))];refine q _ (.inl ⟨rfl,fun q' rest cn=>?_⟩);obtain⟨ks,_,e2⟩:=nx q' rest cn;exact h41 (by rw[e2];rfl)
  rw[if_neg (fun z=>h40 (e40.mp z))];have hne:z9v l b=b+((l.drop b).takeWhile isL).length:=rfl;have tl:((l.drop b).takeWhile isL).length<=(l.drop b).length:=(takeWhile_sublist _).length_le;rw[length_drop]at tl;have nm:∀q' rest,Can1 l b q' rest->∃ks,∃s:Str,q' = z6g ks (.one s)/\isNm (csS s)=true/\l.drop b=csS s++(ks.map mkC++rest)/\(l.drop b).takeWhile isL=csS s:=fun q' rest cn=>by
   obtain⟨ks,b0,rfl,hw,ok0,e1,fl⟩:=cn.base;cases b0 with
   |none=>exact absurd (by rw[e1];rfl) h45
   |one s =>
    simp only[okT,or_eq_true,decide_eq_true_eq]at ok0;have es:eE (.one s)=csS s:=by simp[eE,z1z,brk,txt]
    rw[es]at e1;rcases ok0 with h|h
    ·exact absurd (by rw[e1,h];rfl) h35
    ·have hall:∀c∈csS s,isL c=true:=by
      unfold isNm at h;rw[and_eq_true,all_eq_true]at h;exact h.2
     exact⟨ks,s,rfl,h,e1,by rw[e1];exact tw_app hall (x8i fl)⟩
   |row ps=>exact absurd (by rw[e1];rfl) h40
   |any ps=>exact absurd (by rw[e1];rfl) h40
   |wrap k p=>cases hw
  by_cases hz:((l.drop b).takeWhile isL).length=0
  ·rw[if_pos (by rw[hne,hz];rfl)];refine q _ (.inl ⟨rfl,fun q' rest cn=>?_⟩);obtain⟨ks,s,_,h,_,e2⟩:=nm q' rest cn;rw[e2]at hz;rw[eq_nil_of_length_eq_zero hz]at h;simp[isNm]at h
  ·rw[if_neg (by rw[hne];omega),y0g (by omega)];have ew:(l.drop b).take (z9v l b - b)=(l.drop b).takeWhile isL:=by
    rw[hne,Nat.add_sub_cancel_left];have:=List.take_left' (l₁:=(l.drop b).takeWhile isL) (l₂:=(l.drop b).dropWhile isL) rfl;rwa [List.takeWhile_append_dropWhile]at this
   rw[ew];have okw:isNm ((l.drop b).takeWhile isL)=true:=by
    unfold isNm;rw[and_eq_true,decide_eq_true_eq,all_eq_true];refine⟨fun z=>hz (by rw[z];rfl),fun c hc'=>?_⟩;exact all_eq_true.mp List.all_takeWhile c hc'
   have:=loop (.one (strC ((l.drop b).takeWhile isL))) (z9v l b) ⟨by simp only[okT,z5u,okw];simp,by omega,by omega,by simp only[wtP,z0t];omega,by simp[dpP]⟩ fun q' rest cn=>by
    obtain⟨ks,s,rfl,h,e1,e2⟩:=nm q' rest cn;refine⟨ks,by rw[e2,z2v],?_⟩;rw[hne,<-drop_drop,e2,e1,drop_left]
   exact this
noncomputable def mS:Bool->Nat
 |false=>0
 |true=>1
def CanE:Bool->Cs->Nat->Pat->Cs->Prop
 |false=>Can1
 |true=>CanS
structure SndL (l:Cs)(b e:Nat)(s:Bool)(ps:List Pat):Prop where
 ne:ps≠[]
 ok:∀p∈ps,okT p=true/\dpP p<=2 * cntD ((l.drop b).take (e - b))+mS s
 lt:b<e
 le:e<=l.length
 wt:wtPs ps+13 * ps.length<=13 * (e - b)+13
theorem SndL.start {l:Cs}{b e:Nat}{s:Bool}{p:Pat}(h:Snd l b e p (mS s)):SndL l b e s [p]:=⟨by simp,fun x hx=>by rw[mem_singleton.mp hx];exact⟨h.ok,h.dp⟩,h.lt,h.le,by have:=h.wt;simp only[wtPs,length_singleton];omega⟩
theorem SndL.add {l:Cs}{b a a' e:Nat}{s:Bool}{ps:List Pat}{p:Pat}(h:SndL l b a s ps)(ha:a<a')(hp:Snd l a' e p (mS s)):SndL l b e s (ps++[p]):=by
 have h1:=h.lt;have h2:=hp.lt;have h3:=h.wt;have h4:=hp.wt;have c1:=z9a (l:=l) (b:=b) (e:=a) (f:=e) (by omega) (by omega);have c2:=z9a (l:=l) (b:=a) (e:=a') (f:=e) (by omega) (by omega);refine⟨by simp,fun x hx=>?_,by omega,hp.le,?_⟩
 ·rcases mem_append.mp hx with hx|hx
  ·obtain⟨k1,k2⟩:=h.ok x hx;exact⟨k1,by omega⟩
  ·rw[mem_singleton.mp hx];have:=hp.dp;exact⟨hp.ok,by omega⟩
 ·have:=y1a ps [p];simp only[wtPs]at this;rw[this,length_append,length_singleton];omega
theorem SndL.len {l:Cs}{b e:Nat}{s:Bool}{ps:List Pat}(h:SndL l b e s ps):ps.length<=l.length+1:=by
 have h1:=h.wt;have h2:=h.le;omega
def CanL (l:Cs)(b:Nat)(s:Bool)(qs:List Pat)(rest:Cs):Prop:=qs≠[]/\(∀q∈qs,okT q=true)/\l.drop b=z1s (sepS s) (qs.map (tT s))++rest/\FolS s rest
def ResL (l:Cs)(b:Nat)(s:Bool)(d:D):Prop:=(d=.non/\∀qs rest,CanL l b s qs rest->False) \/ ∃ps,∃e:Nat,d=.tup [.lst (ps.map patD),.int e]/\SndL l b e s ps/\∀qs rest,CanL l b s qs rest->qs=ps/\rest=l.drop e
theorem canE {l:Cs}{a:Nat}{s:Bool}{q:Pat}{qs:List Pat}{rest:Cs}(ok:okT q=true)(e:l.drop a=tT s q++(tlS s qs++rest))(fl:FolS s rest):CanE s l a q (tlS s qs++rest):=by
 cases s with
 |false =>
  refine⟨ok,e,?_⟩;cases qs with
  |nil=>exact fl.one
  |cons r qs =>
   intro c hc;have:c=32:=by simpa[tlS,sepS] using hc.symm
   rw[this];decide
 |true =>
  refine⟨ok,e,?_⟩;cases qs with
  |nil=>exact fl.up
  |cons r qs=>exact .inr (.inr (by simp[tlS,sepS]))
def Pre (l:Cs)(b a:Nat)(s:Bool)(ps:List Pat):Prop:=∀qs rest,CanL l b s qs rest->∃qs2,qs=ps++qs2/\(ps≠[]->l.drop a=tlS s qs2++rest)
theorem pre0 (l:Cs)(b:Nat)(s:Bool):Pre l b b s []:=fun qs rest _=>⟨qs,rfl,fun h=>absurd rfl h⟩
theorem Pre.stop {l:Cs}{b a:Nat}{s:Bool}{ps:List Pat}(h:Pre l b a s ps)(hne:ps≠[])(hn:(l.drop a).take (sepS s).length≠sepS s\/(s=false/\(l.drop a).take 3=[32,124,32])):∀qs rest,CanL l b s qs rest->qs=ps/\rest=l.drop a:=fun qs rest cn=>by
 obtain⟨qs2,e1,e2⟩:=h qs rest cn;have e2:=e2 hne;cases qs2 with
 |nil=>exact⟨by simpa using e1,by simpa[tlS] using e2.symm⟩
 |cons q qs2 =>
  exfalso;have ok:okT q=true:=cn.2.1 q (by rw[e1];simp);obtain⟨c,r,eb,bg⟩:=beg_t (s:=s) ok;rw[tlS,eb]at e2;rcases hn with hn|⟨rfl,hn⟩
  ·exact hn (by rw[e2];cases s<;>rfl)
  ·rw[e2]at hn;simp[sepS]at hn;exact bg.2.1 hn.1
theorem Pre.step {l:Cs}{b a a' e:Nat}{s:Bool}{ps:List Pat}{p:Pat}(h:Pre l b a s ps)(h0:ps=[]->a=b/\a' = b)(h1:ps≠[]->a' = a+(sepS s).length/\(l.drop a).take (sepS s).length=sepS s/\(s=false->(l.drop a).take 3≠[32,124,32]))
  (un:∀q rest,CanE s l a' q rest->q=p/\rest=l.drop e):Pre l b e s (ps++[p]):=fun qs rest cn=>by
 obtain⟨qs2,e1,e2⟩:=h qs rest cn;have fl:=cn.2.2.2;cases hp:ps with
 |nil =>
  obtain⟨z1,z2⟩:=h0 hp;rw[hp,nil_append]at e1;subst e1;cases qs with
  |nil=>exact absurd rfl cn.1
  |cons q qs =>
   have ee:=cn.2.2.1;rw[y5z,append_assoc]at ee;obtain⟨rfl,e4⟩:=un q _ (canE (cn.2.1 q mem_cons_self) (by rw[z2];exact ee) fl);exact⟨qs,rfl,fun _=>e4.symm⟩
 |cons p0 ps0 =>
  have hne:ps≠[]:=by rw[hp];simp
  obtain⟨z1,z2,z3⟩:=h1 hne;have e2:=e2 hne;rw[<-hp];cases qs2 with
  |nil =>
   exfalso;rw[tlS,nil_append]at e2;rw[e2]at z2 z3;cases s with
   |false =>
    rcases fl with rfl|fl|fl
    ·cases z2
    ·cases rest with
     |nil=>cases z2
     |cons c r =>
      have h1:c=41:=by simpa using fl
      have h2:c=32:=by simpa[sepS] using z2
      rw[h1]at h2;cases h2
    ·exact z3 rfl fl
   |true =>
    rcases fl with rfl|fl
    ·cases z2
    ·cases rest with
     |nil=>cases z2
     |cons c r =>
      have h1:c=41:=by simpa using fl
      have h2:c=32:=by have:=congrArg List.head? z2;simpa[sepS] using this
      rw[h1]at h2;cases h2
  |cons q qs2 =>
   have ok:okT q=true:=cn.2.1 q (by rw[e1];simp);have e3:l.drop a' = tT s q++(tlS s qs2++rest):=by
    rw[z1,<-drop_drop,e2,tlS,append_assoc,append_assoc,drop_left]
   obtain⟨rfl,e4⟩:=un q _ (canE ok e3 fl);exact⟨qs2,by rw[e1];simp,fun _=>e4.symm⟩
theorem Pre.none {l:Cs}{b a a':Nat}{s:Bool}{ps:List Pat}(h:Pre l b a s ps)(h0:ps=[]->a=b/\a' = b)(h1:ps≠[]->a' = a+(sepS s).length/\(l.drop a).take (sepS s).length=sepS s/\(s=false->(l.drop a).take 3≠[32,124,32]))
  (no:∀q rest,CanE s l a' q rest->False):∀qs rest,CanL l b s qs rest->False:=fun qs rest cn=>by
 have h2:=h.step (p:=.none) (e:=0) h0 h1 fun q rest c=>(no q rest c).elim;obtain⟨qs2,e1,e2⟩:=h qs rest cn;have fl:=cn.2.2.2;cases hp:ps with
 |nil =>
  obtain⟨z1,z2⟩:=h0 hp;cases qs with
  |nil=>exact absurd rfl cn.1
  |cons q qs =>
   have ee:=cn.2.2.1;rw[y5z,append_assoc]at ee;exact no q _ (canE (cn.2.1 q mem_cons_self) (by rw[z2];exact ee) fl)
 |cons p0 ps0 =>
  have hne:ps≠[]:=by rw[hp];simp
  obtain⟨z1,z2,z3⟩:=h1 hne;have e2:=e2 hne;obtain⟨qs3,e5,_⟩:=h2 qs rest cn;cases qs2 with
  |nil =>
   rw[append_nil]at e1;rw[e1]at e5;have:=congrArg List.length e5;simp at this
  |cons q qs2 =>
   have ok:okT q=true:=cn.2.1 q (by rw[e1];simp);have e3:l.drop a' = tT s q++(tlS s qs2++rest):=by
    rw[z1,<-drop_drop,e2,tlS,append_assoc,append_assoc,drop_left]
   exact no q _ (canE ok e3 fl)
def x2b (s:Bool)(n:Nat):RD:=fun δ Q=>∃(l:Cs)(b:Nat),δ=[.fz (.str (strC l)),.fz (.int b),.fz (.bl s)]/\b<=l.length/\l.length<=1900/\c40 (l.drop b)<n/\∀d,ResL l b s d->Q false d [.no,.no,.no]
theorem q3f {n k:Nat}{f1 f2:Addr}{fd1 fd2:FuncData}(u0b:Ent K mg "_law_list_in" u0o ["_law_line","_law_at","_law_strokes"] f fd)(T:Zs K mg)(u0g:Ent K mg "_law_one_in" u1b ["_law_line","_law_at"] f1 fd1)(u0e:Ent K mg "_law_some_in" u0w ["_law_line","_law_at"] f2 fd2)(u4q:FnOk P w K mg base CX0 k f1 fd1 ["_law_line","_law_at"] (spD (y4t 0 Can1 n))):FnOk P w K mg base CX0 (k+1) f fd ["_law_line","_law_at","_law_strokes"] (spD (x2b false n)):=by
 have u4i:FnOk P w K mg base CX0 k f2 fd2 ["_law_line","_law_at"] (spD fun _ _=>False):=z7c fun δ Q h=>h;refine VL.Fun.dok u0b.F u0j (fun δ Qd h=>?_) (by decide) (fun cdv A outer s H E δ Qd hr h=>?_)
 ·obtain⟨_,_,rfl,_⟩:=h;rfl
 ·obtain⟨l,b,rfl,hb,hl,hc,q⟩:=h;have hu:=z4s hr;refine⟨_,(z0b (dq 3 u0j.nd (z1a z0d))
   (z0b (z6b PassesOwn.never (dt_w (z7y (z5p (y1h hu) z4p (pv 3) (z1a z0d) (z0k _)) (z7y (z0r z2j z1v (z0z (dv 0) (z0o (dv 1)) (z0o (z0l z1c z1b (dv 1) z0c))) z0h (z0k _)) (z8a (dt_w (y0c (y6x (z6i (dv 2))) (z7g (z0r z2j z1v (z0z (dv 0) (z0o (dv 1)) (z0o (z0l z1c z1b (dv 1) z0c))) z0h (z0k _))))))))) (z0b (z1k (dt_w (y0c (z5p (x2f hu) z5v (pv 3) (z1a z0d) (z0k _)) (z7g (z0r z8j z7h (y5a z2j z1v (z0z (dv 0) (z0o (dv 1)) (z0o (z0l z1c z1b (dv 1) z0c))) z0h (z0k _)) (dv 2) (z0k _))))) (z0e (z0n (z1j (z0a (dv 3) (z0a (dv 1) z0d))))) z0q)
   (z0b (z1k (z5p (x2f hu) z5v (pv 3) (z1a z0d) (z0k _)) (z0e (dq 1 u0j.nd (z0l z1c z1b (z0l z1c z1b (dv 1) z0c) (z0l z6q z6m z0c (z7m x9i y2c rfl T.z_int boot_int (z0a (dv 2) z0d)))))) z0q)
   (z0b (z1k (z6i (dv 2)) (z0e (dq 4 u0j.nd (z1x u4i u0e (z0a (dv 0) (z0a (dv 1) z0d))))) (z0e (dq 4 u0j.nd (z1x u4q u0g (z0a (dv 0) (z0a (dv 1) z0d))))))
   (z0b (z1k (z0r y3s z9y (dv 4) z4a (z0k _)) (z0e (z0n z4a)) z0q)
   (z0b (z5e (y3p z3f PySem.F.slot_list_append PySem.F.type_list_append z1m (pv 3) (z0a (z0m z0w z1d (pv 4) z0c (fun _ _=>rfl)) z0d)))
   (z0e (dq 1 u0j.nd (z0m z0w z1d (pv 4) z0c (fun _ _=>rfl))))))))))
   (z0e (z0n (z1j (z0a (dv 3) (z0a (dv 1) z0d))))))),?_⟩
  have sz:=z0y;walk_at "vd";refine⟨by omega,[4],fun δ=>∃(ps:List Pat)(a:Nat),((ps=[]/\a=b)\/SndL l b a false ps)/\a<=l.length/\b<=a/\Pre l b a false ps/\ps.length<=2000/\δ=[.fz (.str (strC l)),.fz (.int a),.fz (.bl false),.ob false (.lst (ps.map patD)),.no],fun δ=>l.length - inAt 1 δ,⟨[],b,.inl ⟨rfl,rfl⟩,hb,le_refl _,pre0 _ _ _,by simp,by simp[fgt]⟩,?_⟩;rintro δ ⟨ps,a,hst,ha,hba,pre,hpl,rfl⟩;have l0:(strC l).length<=sizeLine:=by rw[z0t];omega
  rcases hst with ⟨rfl,rfl⟩|hs
  ·have h0:([]:List Pat)=[]->a=a/\a=a:=fun _=>⟨rfl,rfl⟩;have h1:([]:List Pat)≠[]->a=a+(sepS false).length/\(l.drop a).take (sepS false).length=sepS false/\(false=false->(l.drop a).take 3≠[32,124,32]):=fun h=>absurd rfl h;walk_at "vd";refine⟨by omega,by omega,by omega,l,a,rfl,hb,hl,hc,fun d hd=>?_⟩;rcases hd with ⟨rfl,no⟩|⟨p,e,rfl,sn,un⟩
   ·walk_at "vd";exact q _ (.inl ⟨rfl,pre.none h0 h1 no⟩)
   ·have y1:=sn.lt;have y2:=sn.le;walk_at "vd";have sl:SndL l a e false ([]++[p]):=SndL.start sn;have:=sl.len;refine⟨by first|omega|(simp;omega),⟨_,e,.inr sl,by omega,by omega,pre.step h0 h1 un,by omega,by simp⟩,by omega⟩
  ·have hne:=hs.ne;have e3:(strC ((l.drop a).take 3)=(" | ":Str))↔(l.drop a).take 3=[32,124,32]:=⟨fun z=>z7u (b:=[32,124,32]) (z.trans (by decide)),fun z=>by rw[z];decide⟩;have he:(ps.map patD).isEmpty=false:=by
    cases ps with
    |nil=>exact absurd rfl hne
    |cons x y=>rfl
   have h0:∀a',ps=[]->a=b/\a' = b:=fun _ h=>absurd h hne;walk_at "vd";rw[he];simp only[Bool.false_eq_true,if_false,if_true];refine⟨by omega,l0,?_⟩;rw[q6i];by_cases h3:(l.drop a).take 3=[32,124,32]
   ·rw[if_pos (e3.mpr h3)];refine⟨by omega,l0,?_⟩;rw[if_pos (by rw[decide_eq_true (e3.mpr h3)];decide)];exact⟨by omega,q _ (.inr ⟨ps,a,rfl,hs,pre.stop hne (.inr ⟨rfl,h3⟩)⟩)⟩
   rw[if_neg (fun z=>h3 (e3.mp z))];refine⟨l0,?_⟩;rw[y8m];have e1:(strC ((l.drop a).take 1)=(" ":Str))↔(l.drop a).take 1=[32]:=sC (by decide);by_cases h32:(l.drop a).take 1=[32]
   ·obtain⟨hlt,ed⟩:=z5w h32;have h1:ps≠[]->a+1=a+(sepS false).length/\(l.drop a).take (sepS false).length=sepS false/\(false=false->(l.drop a).take 3≠[32,124,32]):=fun _=>⟨rfl,h32,fun _=>h3⟩;have hc2:=y1c l a (a+1) (by omega);have hc3:=y1c l b a hba;rw[if_pos (e1.mpr h32)];refine⟨by omega,l0,?_⟩;rw[if_neg (by rw[decide_eq_false (fun z=>h3 (e3.mp z))];decide)];refine⟨by omega,.inl ⟨by decide,by decide⟩,l,a+1,by have:((a:Int)+1+2 * 0)=((a+1:Nat):Int):=(by push_cast;omega);rw[this],by omega,hl,by omega,fun d hd=>?_⟩;rcases hd with ⟨rfl,no⟩|⟨p,e,rfl,sn,un⟩
    ·walk_at "vd";exact q _ (.inl ⟨rfl,pre.none (h0 _) h1 no⟩)
    ·have y1:=sn.lt;have y2:=sn.le;walk_at "vd";have sl:SndL l b e false (ps++[p]):=hs.add (by omega) sn;have:=sl.len;refine⟨by first|omega|(simp;omega),⟨_,e,.inr sl,by omega,by omega,pre.step (h0 _) h1 un,by omega,by simp⟩,by omega⟩
   ·rw[if_neg (fun z=>h32 (e1.mp z))];exact⟨by omega,q _ (.inr ⟨ps,a,rfl,hs,pre.stop hne (.inl h32)⟩)⟩
theorem q0o {n k:Nat}{f1 f2:Addr}{fd1 fd2:FuncData}(u0b:Ent K mg "_law_list_in" u0o ["_law_line","_law_at","_law_strokes"] f fd)(T:Zs K mg)(u0g:Ent K mg "_law_one_in" u1b ["_law_line","_law_at"] f1 fd1)(u0e:Ent K mg "_law_some_in" u0w ["_law_line","_law_at"] f2 fd2)(u4i:FnOk P w K mg base CX0 k f2 fd2 ["_law_line","_law_at"] (spD (y4t 1 CanS n))):FnOk P w K mg base CX0 (k+1) f fd ["_law_line","_law_at","_law_strokes"] (spD (x2b true n)):=by
 have u4q:FnOk P w K mg base CX0 k f1 fd1 ["_law_line","_law_at"] (spD fun _ _=>False):=z7c fun δ Q h=>h;refine VL.Fun.dok u0b.F u0j (fun δ Qd h=>?_) (by decide) (fun cdv A outer s H E δ Qd hr h=>?_)
 ·obtain⟨_,_,rfl,_⟩:=h;rfl
 ·obtain⟨l,b,rfl,hb,hl,hc,q⟩:=h;have hu:=z4s hr;refine⟨_,(z0b (dq 3 u0j.nd (z1a z0d))
   (z0b (z6b PassesOwn.never (dt_w (z7y (z5p (y1h hu) z4p (pv 3) (z1a z0d) (z0k _)) (z7y (z0r z2j z1v (z0z (dv 0) (z0o (dv 1)) (z0o (z0l z1c z1b (dv 1) z0c))) z0h (z0k _)) (z8a (dt_w (y0c (y6x (z6i (dv 2))) (z7g (z0r z2j z1v (z0z (dv 0) (z0o (dv 1)) (z0o (z0l z1c z1b (dv 1) z0c))) z0h (z0k _))))))))) (z0b (z1k (dt_w (y0c (z5p (x2f hu) z5v (pv 3) (z1a z0d) (z0k _)) (z7g (z0r z8j z7h (y5a z2j z1v (z0z (dv 0) (z0o (dv 1)) (z0o (z0l z1c z1b (dv 1) z0c))) z0h (z0k _)) (dv 2) (z0k _))))) (z0e (z0n (z1j (z0a (dv 3) (z0a (dv 1) z0d))))) z0q)
   (z0b (z1k (z5p (x2f hu) z5v (pv 3) (z1a z0d) (z0k _)) (z0e (dq 1 u0j.nd (z0l z1c z1b (z0l z1c z1b (dv 1) z0c) (z0l z6q z6m z0c (z7m x9i y2c rfl T.z_int boot_int (z0a (dv 2) z0d)))))) z0q)
   (z0b (z1k (z6i (dv 2)) (z0e (dq 4 u0j.nd (z1x u4i u0e (z0a (dv 0) (z0a (dv 1) z0d))))) (z0e (dq 4 u0j.nd (z1x u4q u0g (z0a (dv 0) (z0a (dv 1) z0d))))))
   (z0b (z1k (z0r y3s z9y (dv 4) z4a (z0k _)) (z0e (z0n z4a)) z0q)
   (z0b (z5e (y3p z3f PySem.F.slot_list_append PySem.F.type_list_append z1m (pv 3) (z0a (z0m z0w z1d (pv 4) z0c (fun _ _=>rfl)) z0d)))
   (z0e (dq 1 u0j.nd (z0m z0w z1d (pv 4) z0c (fun _ _=>rfl))))))))))
   (z0e (z0n (z1j (z0a (dv 3) (z0a (dv 1) z0d))))))),?_⟩
  have sz:=z0y;walk_at "vd";refine⟨by omega,[4],fun δ=>∃(ps:List Pat)(a:Nat),((ps=[]/\a=b)\/SndL l b a true ps)/\a<=l.length/\b<=a/\Pre l b a true ps/\ps.length<=2000/\δ=[.fz (.str (strC l)),.fz (.int a),.fz (.bl true),.ob false (.lst (ps.map patD)),.no],fun δ=>l.length - inAt 1 δ,⟨[],b,.inl ⟨rfl,rfl⟩,hb,le_refl _,pre0 _ _ _,by simp,by simp[fgt]⟩,?_⟩;rintro δ ⟨ps,a,hst,ha,hba,pre,hpl,rfl⟩;have l0:(strC l).length<=sizeLine:=by rw[z0t];omega
  rcases hst with ⟨rfl,rfl⟩|hs
  ·have h0:([]:List Pat)=[]->a=a/\a=a:=fun _=>⟨rfl,rfl⟩;have h1:([]:List Pat)≠[]->a=a+(sepS true).length/\(l.drop a).take (sepS true).length=sepS true/\(true=false->(l.drop a).take 3≠[32,124,32]):=fun h=>absurd rfl h;walk_at "vd";refine⟨by omega,by omega,by omega,l,a,rfl,hb,hl,hc,fun d hd=>?_⟩;rcases hd with ⟨rfl,no⟩|⟨p,e,rfl,sn,un⟩
   ·walk_at "vd";exact q _ (.inl ⟨rfl,pre.none h0 h1 no⟩)
   ·have y1:=sn.lt;have y2:=sn.le;walk_at "vd";have sl:SndL l a e true ([]++[p]):=SndL.start sn;have:=sl.len;refine⟨by first|omega|(simp;omega),⟨_,e,.inr sl,by omega,by omega,pre.step h0 h1 un,by omega,by simp⟩,by omega⟩
  ·have hne:=hs.ne;have e3:(strC ((l.drop a).take 3)=(" | ":Str))↔(l.drop a).take 3=[32,124,32]:=⟨fun z=>z7u (b:=[32,124,32]) (z.trans (by decide)),fun z=>by rw[z];decide⟩;have he:(ps.map patD).isEmpty=false:=by
    cases ps with
    |nil=>exact absurd rfl hne
    |cons x y=>rfl
   have h0:∀a',ps=[]->a=b/\a' = b:=fun _ h=>absurd h hne;walk_at "vd";rw[he];simp only[Bool.false_eq_true,if_false,if_true];refine⟨by omega,l0,?_⟩;rw[q6i];by_cases h3:(l.drop a).take 3=[32,124,32]
   ·have h1:ps≠[]->a+3=a+(sepS true).length/\(l.drop a).take (sepS true).length=sepS true/\(true=false->(l.drop a).take 3≠[32,124,32]):=fun _=>⟨rfl,h3,fun z=>by cases z⟩;have hlen:3<=(l.drop a).length:=by
     have:=congrArg List.length h3;rw[length_take]at this;simp at this ⊢;omega
    rw[length_drop]at hlen;have hc2:=y1c l a (a+3) (by omega);have hc3:=y1c l b a hba;rw[if_pos (e3.mpr h3)];refine⟨by omega,l0,?_⟩;rw[if_neg (by rw[decide_eq_true (e3.mpr h3)];decide)];refine⟨by omega,.inl ⟨by decide,by decide⟩,l,a+3,by have:((a:Int)+1+2 * 1)=((a+3:Nat):Int):=(by push_cast;omega);rw[this],by omega,hl,by omega,fun d hd=>?_⟩;rcases hd with ⟨rfl,no⟩|⟨p,e,rfl,sn,un⟩
    ·walk_at "vd";exact q _ (.inl ⟨rfl,pre.none (h0 _) h1 no⟩)
    ·have y1:=sn.lt;have y2:=sn.le;walk_at "vd";have sl:SndL l b e true (ps++[p]):=hs.add (by omega) sn;have:=sl.len;refine⟨by first|omega|(simp;omega),⟨_,e,.inr sl,by omega,by omega,pre.step (h0 _) h1 un,by omega,by simp⟩,by omega⟩
   ·rw[if_neg (fun z=>h3 (e3.mp z))];exact⟨by omega,q _ (.inr ⟨ps,a,rfl,hs,pre.stop hne (.inl h3)⟩)⟩
noncomputable def prt:Bool->Pat->List Pat
 |false,.row ps=>ps
 |true,.any ps=>ps
 |_,q=>[q]
noncomputable def mkJ:Bool->List Pat->Pat
 |false=>.row
 |true=>.any
def CanJ:Bool->Cs->Nat->Pat->Cs->Prop
 |false=>CanS
 |true=>CanA
theorem CanJ.l {s:Bool}{l:Cs}{b:Nat}{q:Pat}{rest:Cs}(h:CanJ s l b q rest):CanL l b s (prt s q) rest:=by
 have one:∀x:Cs,z1s (sepS s) ([q].map (tT s))=tT s q:=fun _=>by simp[z1s]
 cases s with
 |false =>
  obtain⟨h1,h2,h3⟩:=h;cases q with
  |row ps =>
   have h1':=h1;simp only[okT,and_eq_true,decide_eq_true_eq]at h1';refine⟨fun z=>?_,(z9o _).mp h1'.2,?_,h3⟩
   ·have:ps=[]:=z;rw[this]at h1';exact absurd h1'.1 (by decide)
   ·rw[h2];show txt (.row ps)++_=_;rw[x9w];rfl
  |none=>exact⟨by simp[prt],fun x hx=>by rw[mem_singleton.mp hx];exact h1,by rw[h2];simp[prt,z1s];rfl,h3⟩
  |one z=>exact⟨by simp[prt],fun x hx=>by rw[mem_singleton.mp hx];exact h1,by rw[h2];simp[prt,z1s];rfl,h3⟩
  |any ps=>exact⟨by simp[prt],fun x hx=>by rw[mem_singleton.mp hx];exact h1,by rw[h2];simp[prt,z1s];rfl,h3⟩
  |wrap k p=>exact⟨by simp[prt],fun x hx=>by rw[mem_singleton.mp hx];exact h1,by rw[h2];simp[prt,z1s];rfl,h3⟩
 |true =>
  obtain⟨h1,h2,h3⟩:=h;cases q with
  |any ps =>
   have h1':=h1;simp only[okT,and_eq_true,decide_eq_true_eq]at h1';refine⟨fun z=>?_,(z9o _).mp h1'.2,?_,h3⟩
   ·have:ps=[]:=z;rw[this]at h1';exact absurd h1'.1 (by decide)
   ·rw[h2,j1q];rfl
  |none=>exact⟨by simp[prt],fun x hx=>by rw[mem_singleton.mp hx];exact h1,by rw[h2];simp[prt,z1s];rfl,h3⟩
  |one z=>exact⟨by simp[prt],fun x hx=>by rw[mem_singleton.mp hx];exact h1,by rw[h2];simp[prt,z1s];rfl,h3⟩
  |row ps=>exact⟨by simp[prt],fun x hx=>by rw[mem_singleton.mp hx];exact h1,by rw[h2];simp[prt,z1s];rfl,h3⟩
  |wrap k p=>exact⟨by simp[prt],fun x hx=>by rw[mem_singleton.mp hx];exact h1,by rw[h2];simp[prt,z1s];rfl,h3⟩
theorem CanJ.ok {s:Bool}{l:Cs}{b:Nat}{q:Pat}{rest:Cs}(h:CanJ s l b q rest):okT q=true:=by
 cases s<;>exact h.1
theorem x0z {s:Bool}{q:Pat}(h:1<(prt s q).length):q=mkJ s (prt s q):=by
 cases s<;>cases q<;>first|rfl|(simp[prt]at h)
theorem x6f {s:Bool}{q p:Pat}(ok:okT q=true)(h:prt s q=[p]):q=p:=by
 have two:∀ps:List Pat,2<=ps.length->ps=[p]->False:=fun ps h1 h2=>by rw[h2]at h1;simp at h1
 cases s with
 |false =>
  cases q with
  |row ps=>simp only[okT,and_eq_true,decide_eq_true_eq]at ok;exact(two ps ok.1 h).elim
  |none=>exact(List.cons.inj h).1
  |one z=>exact(List.cons.inj h).1
  |any ps=>exact(List.cons.inj h).1
  |wrap k r=>exact(List.cons.inj h).1
 |true =>
  cases q with
  |any ps=>simp only[okT,and_eq_true,decide_eq_true_eq]at ok;exact(two ps ok.1 h).elim
  |none=>exact(List.cons.inj h).1
  |one z=>exact(List.cons.inj h).1
  |row ps=>exact(List.cons.inj h).1
  |wrap k r=>exact(List.cons.inj h).1
theorem SndL.many {l:Cs}{b e:Nat}{s:Bool}{ps:List Pat}(h:SndL l b e s ps)(hm:1<ps.length):Snd l b e (mkJ s ps) (mS s+1):=by
 have h1:okTs ps=true:=(z9o _).mpr fun p hp=>(h.ok p hp).1;have h2:dpPs ps<=_:=x7z fun p hp=>(h.ok p hp).2;have h3:=h.wt;have h4:=h.lt;cases s with
 |false=>exact⟨by simp only[mkJ,okT,h1,Bool.and_true,decide_eq_true_eq];omega,h.lt,h.le,by simp only[mkJ,wtP];omega,by simp only[mkJ,dpP];omega⟩
 |true=>exact⟨by simp only[mkJ,okT,h1,Bool.and_true,decide_eq_true_eq];omega,h.lt,h.le,by simp only[mkJ,wtP];omega,by simp only[mkJ,dpP];omega⟩
theorem SndL.one {l:Cs}{b e:Nat}{s:Bool}{p:Pat}(h:SndL l b e s [p]):Snd l b e p (mS s+1):=by
 have h3:=h.wt;obtain⟨h1,h2⟩:=h.ok p (by simp);exact⟨h1,h.lt,h.le,by simp only[wtPs,length_singleton]at h3;omega,by omega⟩
theorem q9c {n k:Nat}{f1:Addr}{fd1:FuncData}(u0e:Ent K mg "_law_some_in" u0w ["_law_line","_law_at"] f fd)(T:Zs K mg)(u0b:Ent K mg "_law_list_in" u0o ["_law_line","_law_at","_law_strokes"] f1 fd1)(u4j:FnOk P w K mg base CX0 k f1 fd1 ["_law_line","_law_at","_law_strokes"] (spD (x2b false n))):FnOk P w K mg base CX0 (k+1) f fd ["_law_line","_law_at"] (spD (y4t (mS false+1) (CanJ false) n)):=by
 refine VL.Fun.dok u0e.F u4y (fun δ Qd h=>?_) (by decide) (fun cdv A outer s H E δ Qd hr h=>?_)
 ·obtain⟨_,_,rfl,_⟩:=h;rfl
 ·obtain⟨l,b,rfl,hb,hl,hc,q⟩:=h;have hu:=z4s hr;refine⟨_,(z0b (dq 2 u4y.nd (z1x u4j u0b (z0a (dv 0) (z0a (dv 1) (z0a x0r z0d)))))
   (z0b (z1k (dt_w (z7y (z0r y3s z9y (dv 2) z4a (z0k _)) (z8a (z0r q1t q0u (z3m z4c z1e rfl T.z_len PySem.boot_len (z0a (z0m z0w z1d (pv 2) z0c (fun _ _=>rfl)) z0d)) z0c (z0k _))))) (z0e (z0n (x7o (dv 2) (y8n (z1j (z0a (z1j (z0a z0h (z0a (z0m z0w z1d (pv 2) z0c (fun _ _=>rfl)) z0d))) (z0a (z0m z0w z1d (pv 2) z0c (fun _ _=>rfl)) z0d))))))) z0q)
   (z0e (z0n (z1j (z0a (x0s z2f z1t (z0m z0w z1d (pv 2) z0c (fun _ _=>rfl)) z0c (fun _ _=>rfl)) (z0a (z0m z0w z1d (pv 2) z0c (fun _ _=>rfl)) z0d))))))),?_⟩
  have sz:=z0y;walk_at "vd";refine⟨l,b,rfl,hb,hl,hc,fun d hd=>?_⟩;rcases hd with ⟨rfl,no⟩|⟨ps,e,rfl,sn,un⟩
  ·walk_at "vd";exact .inl (q _ (.inl ⟨rfl,fun q' rest cn=>no _ _ cn.l⟩))
  ·have hpl:=sn.len;have hne:=sn.ne;walk_at "vd";by_cases hm:1<ps.length
   ·rw[if_pos (by simp;omega)];refine .inr ⟨_,_,rfl,by omega,by omega,q _ (.inr ⟨_,e,?_,sn.many hm,fun q' rest cn=>?_⟩)⟩
    ·simp only[mkJ,patD,z2a]
    ·obtain⟨e1,e2⟩:=un _ _ cn.l;have:=x0z (by rw[e1];exact hm);rw[e1]at this;exact⟨this,e2⟩
   ·rw[if_neg (by simp;omega)];cases ps with
    |nil=>exact absurd rfl hne
    |cons p ps =>
     cases ps with
     |cons a r=>exact absurd (by simp) hm
     |nil=>exact⟨_,atI0,by omega,q _ (.inr ⟨p,e,rfl,sn.one,fun q' rest cn=>⟨x6f cn.ok (un _ _ cn.l).1,(un _ _ cn.l).2⟩⟩)⟩
theorem j3m {n k:Nat}{f1:Addr}{fd1:FuncData}(u0l:Ent K mg "_law_any_in" u1g ["_law_line","_law_at"] f fd)(T:Zs K mg)(u0b:Ent K mg "_law_list_in" u0o ["_law_line","_law_at","_law_strokes"] f1 fd1)(u4j:FnOk P w K mg base CX0 k f1 fd1 ["_law_line","_law_at","_law_strokes"] (spD (x2b true n))):FnOk P w K mg base CX0 (k+1) f fd ["_law_line","_law_at"] (spD (y4t (mS true+1) (CanJ true) n)):=by
 refine VL.Fun.dok u0l.F u5e (fun δ Qd h=>?_) (by decide) (fun cdv A outer s H E δ Qd hr h=>?_)
 ·obtain⟨_,_,rfl,_⟩:=h;rfl
 ·obtain⟨l,b,rfl,hb,hl,hc,q⟩:=h;have hu:=z4s hr;refine⟨_,(z0b (dq 2 u5e.nd (z1x u4j u0b (z0a (dv 0) (z0a (dv 1) (z0a x0r z0d)))))
   (z0b (z1k (dt_w (z7y (z0r y3s z9y (dv 2) z4a (z0k _)) (z8a (z0r q1t q0u (z3m z4c z1e rfl T.z_len PySem.boot_len (z0a (z0m z0w z1d (pv 2) z0c (fun _ _=>rfl)) z0d)) z0c (z0k _))))) (z0e (z0n (x7o (dv 2) (y8n (z1j (z0a (z1j (z0a z0h (z0a (z0m z0w z1d (pv 2) z0c (fun _ _=>rfl)) z0d))) (z0a (z0m z0w z1d (pv 2) z0c (fun _ _=>rfl)) z0d))))))) z0q)
   (z0e (z0n (z1j (z0a (x0s z2f z1t (z0m z0w z1d (pv 2) z0c (fun _ _=>rfl)) z0c (fun _ _=>rfl)) (z0a (z0m z0w z1d (pv 2) z0c (fun _ _=>rfl)) z0d))))))),?_⟩
  have sz:=z0y;walk_at "vd";refine⟨l,b,rfl,hb,hl,hc,fun d hd=>?_⟩;rcases hd with ⟨rfl,no⟩|⟨ps,e,rfl,sn,un⟩
  ·walk_at "vd";exact .inl (q _ (.inl ⟨rfl,fun q' rest cn=>no _ _ cn.l⟩))
  ·have hpl:=sn.len;have hne:=sn.ne;walk_at "vd";by_cases hm:1<ps.length
   ·rw[if_pos (by simp;omega)];refine .inr ⟨_,_,rfl,by omega,by omega,q _ (.inr ⟨_,e,?_,sn.many hm,fun q' rest cn=>?_⟩)⟩
    ·simp only[mkJ,patD,z2a]
    ·obtain⟨e1,e2⟩:=un _ _ cn.l;have:=x0z (by rw[e1];exact hm);rw[e1]at this;exact⟨this,e2⟩
   ·rw[if_neg (by simp;omega)];cases ps with
    |nil=>exact absurd rfl hne
    |cons p ps =>
     cases ps with
     |cons a r=>exact absurd (by simp) hm
     |nil=>exact⟨_,atI0,by omega,q _ (.inr ⟨p,e,rfl,sn.one,fun q' rest cn=>⟨x6f cn.ok (un _ _ cn.l).1,(un _ _ cn.l).2⟩⟩)⟩
theorem j1u (l:Cs):c40 l<=cntD l:=by
 induction l with
 |nil=>simp[c40]
 |cons c l ih =>
  rw[y4i];unfold c40 at ih ⊢;rw[filter_cons];by_cases h:c=40
  ·subst h;have:isD 40=true:=by decide
   rw[if_pos (by simp),if_pos this,length_cons];omega
  ·rw[if_neg (by simp[h])];omega
theorem y8v {l:Cs}{p:Pat}(h:z5c l=some p):CanA l 0 p []:=by
 obtain⟨h1,h2⟩:=readR_iff.mp h;exact⟨h1,by rw[drop_zero,append_nil,h2],.inl rfl⟩
theorem q7v {f1 f2 f3 f4:Addr}{fd1 fd2 fd3 fd4:FuncData}(u0l:Ent K mg "_law_any_in" u1g ["_law_line","_law_at"] f fd)(T:Zs K mg)(u0g:Ent K mg "_law_one_in" u1b ["_law_line","_law_at"] f1 fd1)(u0c:Ent K mg "_law_name_end" u0z ["_law_line","_law_at"] f2 fd2)(u0b:Ent K mg "_law_list_in" u0o ["_law_line","_law_at","_law_strokes"] f3 fd3)(u0e:Ent K mg "_law_some_in" u0w ["_law_line","_law_at"] f4 fd4):∀n,FnOk P w K mg base CX0 (5 * n+1) f fd ["_law_line","_law_at"] (spD (y4t 2 CanA n)):=by
 intro n;induction n with
 |zero=>exact z7c fun δ Q h=>by obtain⟨_,_,_,_,_,h,_⟩:=h;exact not_lt_zero _ h
 |succ n ih =>
  have g1:=j4f u0g T u0c u0l ih;have g2:=q3f u0b T u0g u0e g1;have g3:FnOk P w K mg base CX0 (5 * n+4) f4 fd4 ["_law_line","_law_at"] (spD (y4t 1 CanS (n+1))):=q9c u0e T u0b g2;have g4:=q0o u0b T u0g u0e g3;have g5:FnOk P w K mg base CX0 (5 * n+6) f fd ["_law_line","_law_at"] (spD (y4t 2 CanA (n+1))):=j3m u0l T u0b g4;rw[show 5 * (n+1)+1=5 * n+6 by omega];exact g5
def x5d:RD:=fun δ Q=>∃l:Cs,δ=[.fz (.str (strC l))]/\LnOk l/\Q false (optP (z5c l)) [.no]
theorem q2x {f1 f2 f3 f4 f5 f6 f7:Addr}{fd1 fd2 fd3 fd4 fd5 fd6 fd7:FuncData}(u0v:Ent K mg "_law_pattern_in" u1r ["_law_text"] f fd)(T:Zs K mg)(u0l:Ent K mg "_law_any_in" u1g ["_law_line","_law_at"] f5 fd5)(u0g:Ent K mg "_law_one_in" u1b ["_law_line","_law_at"] f1 fd1)(u0c:Ent K mg "_law_name_end" u0z ["_law_line","_law_at"] f2 fd2)(u0b:Ent K mg "_law_list_in" u0o ["_law_line","_law_at","_law_strokes"] f3 fd3)(u0e:Ent K mg "_law_some_in" u0w ["_law_line","_law_at"] f4 fd4)(u0a:Ent K mg "_law_pattern_text" u0i ["_law_pattern_here"] f6 fd6)(u0h:Ent K mg "_law_between" u1l ["_law_pattern_here","_law_kinds"] f7 fd7):FnOk P w K mg base CX0 307 f fd ["_law_text"] (spD x5d):=by
 have u4p:=q7v (P:=P) (w:=w) (base:=base) u0l T u0g u0c u0b u0e 61;have u0s:=x1w (P:=P) (w:=w) (base:=base) u0a T u0h 123;refine VL.Fun.dok u0v.F u4d (fun δ Qd h=>?_) (by decide) (fun cdv A outer s H E δ Qd hr h=>?_)
 ·obtain⟨_,rfl,_⟩:=h;rfl
 ·obtain⟨l,rfl,ok,q⟩:=h;have hu:=z4s hr;refine⟨_,(z0b (dq 1 u4d.nd (z1x u4p u0l (z0a (dv 0) (z0a z0c z0d))))
   (z0b (z1k (dt_w (z7y (z0r y3s z9y (dv 1) z4a (z0k _)) (z7y (z0r z8j z7h (z0m z0w z1d (pv 1) z0c (fun _ _=>rfl)) (z1i z6r z2e rfl T.z_len PySem.boot_len (pv 0)) (z0k _)) (z8a (z0r z8j z7h (z1x u0s u0a (z0a (z0m z0w z1d (pv 1) z0c (fun _ _=>rfl)) z0d)) (dv 0) (z0k _)))))) (z0e (z0n z4a)) z0q)
   (z0e (z0n (z0m z0w z1d (pv 1) z0c (fun _ _=>rfl)))))),?_⟩
  have sz:=z0y;have hl:=ok.len;have hc:=ok.cnt;have h40:=j1u l;walk_at "vd";refine⟨l,0,rfl,zero_le _,by omega,by rw[drop_zero];omega,fun d hd=>?_⟩;rcases hd with ⟨rfl,no⟩|⟨p,e,rfl,sn,un⟩
  ·walk_at "vd";have er:z5c l=none:=by
    cases er:z5c l with
    |none=>rfl
    |some p=>exact(no _ _ (y8v er)).elim
   rw[er]at q;exact q
  ·have y1:=sn.le;have y2:=sn.wt;have y3:=sn.dp;have un':∀p',z5c l=some p'->p' = p/\e=l.length:=fun p' h=>by
    obtain⟨h1,h2⟩:=un _ _ (y8v h);refine⟨h1,?_⟩;have:=congrArg List.length h2;rw[length_drop,length_nil]at this;omega
   have none':¬(e=l.length/\txt p=l)->z5c l=none:=fun hn=>by
    cases er:z5c l with
    |none=>rfl
    |some p' =>
     obtain⟨h1,h2⟩:=un' p' er;rw[h1]at er;exact(hn ⟨h2,(readR_iff.mp er).2⟩).elim
   walk_at "vd";refine⟨by rw[z0t];omega,?_⟩;rw[z0t];by_cases he:e=l.length
   ·have hcd:cntD ((l.drop 0).take (e - 0))<=cntD l:=by
     rw[drop_zero,sub_zero];exact((List.take_sublist _ _).filter _).length_le
    rw[if_neg (by rw[decide_eq_true (by rw[he])];simp)];refine⟨p,rfl,by omega,by omega,?_⟩;walk_at "vd";by_cases ht:txt p=l
    ·rw[if_neg (by rw[ht];simp)];have:z5c l=some p:=readR_iff.mpr ⟨sn.ok,ht⟩;rw[this]at q;exact q
    ·rw[if_pos (decide_eq_false fun z=>ht (z7u z))];rw[none' fun z=>ht z.2]at q;exact q
   ·rw[if_pos (decide_eq_false fun z=>he (by exact_mod_cast z))];rw[none' fun z=>he z.1]at q;exact q
theorem x1o {a b:Str}(h:csS a=csS b):a=b:=by rw[<-z2v a,h,z2v]
theorem x8o (x y:Str)(i:Nat):Builtin.Str.subAt x y i=(((csS x).drop i).take y.length == csS y):=subAt_eq x y i
theorem x0y (x:Str)(i j:Nat):Builtin.Str.strSub x i j=strC (((csS x).drop i).take (j - i)):=x1o (by rw[z5u];exact StrLaws.strSub_toList x i j)
theorem j1e {nm mid rest:Str}{c:Nat}{m:Cs}(hn:∀c∈csS nm,isL c=true)(hm:csS mid=c::m)(hc:isL c=false):partition (nm++mid++rest) mid=(nm,mid,rest):=by
 have e0:csS (nm++mid++rest)=csS nm++(csS mid++csS rest):=by rw[z2r,z2r,append_assoc]
 have ln:=z1u nm;have lm:=z1u mid;have lr:=z1u rest;have lx:=z1u (nm++mid++rest);rw[e0,length_append,length_append]at lx;have hat:StrLaws.At (nm++mid++rest) mid (nm++mid++rest).length nm.length:=by
  refine⟨by omega,?_⟩;rw[x8o,e0,<-ln,drop_left,<-lm,List.take_left];simp
 have hno:∀k,k<nm.length->¬StrLaws.At (nm++mid++rest) mid (nm++mid++rest).length k:=by
  rintro k hk ⟨_,h⟩;rw[x8o,e0]at h;have h:=eq_of_beq h;rw[List.drop_append_of_le_length (by omega)]at h;have hk':k<(csS nm).length:=by omega
  rw[drop_eq_getElem_cons hk',hm]at h;have l2:mid.length=m.length+1:=by rw[<-lm,hm];rfl
  rw[l2,cons_append,List.take_succ_cons]at h;have:=(List.cons.inj h).1;have h3:=hn _ (getElem_mem hk');rw[this,hc]at h3;cases h3
 unfold partition;rcases occ_head (nm++mid++rest) mid 1 (le_refl 1) with ⟨_,hn'⟩|⟨i,r,h0,hi,hn'⟩
 ·exact absurd hat (hn' _)
 ·have ei:i=nm.length:=by
   rcases Nat.lt_trichotomy i nm.length with z|z|z
   ·exact absurd hi (hno i z)
   ·exact z
   ·exact absurd hat (hn' _ z)
  subst ei;rw[h0];have e1:Builtin.Str.strSub (nm++mid++rest) 0 nm.length=nm:=by
   rw[x0y,e0,drop_zero,sub_zero,<-ln,List.take_left,z2v]
  have e2:Builtin.Str.strSub (nm++mid++rest) (nm.length+mid.length) (nm++mid++rest).length=rest:=by
   rw[x0y,e0,<-ln,<-lm,<-drop_drop,drop_left,drop_left,take_of_length_le (by omega),z2v]
  dsimp only;rw[e1,e2]
theorem x7e (root:Str):partition ("form "++root) " " = (("form":Str),(" ":Str),root):=by
 have e:("form ":Str)++root = "form"++" "++root:=by
  rw[show("form ":Str) = "form"++" " by decide]
 rw[e];exact j1e (c:=32) (m:=[]) (by decide) (by decide) (by decide)
theorem x2o (s:Str)(e:Nat):Txt.slice s none (some (e:Int))=strC ((csS s).take e):=by
 have h:Txt.slice s none (some (e:Int))=Txt.slice (strC (csS s)) (some ((0:Nat):Int)) (some (e:Int)):=by
  rw[z2v];unfold Txt.slice Builtin.Str.strSliceIndices;have h1:¬(((0:Nat):Int)<0):=by omega
  have h2:max (0:Int) (min ((0:Nat):Int) (s.length:Int))=0:=by omega
  simp only[gt_iff_lt,Int.zero_lt_one,if_true,if_neg h1,h2]
 rw[h,y0g (zero_le _),drop_zero,sub_zero]
theorem y1d (s:Str)(b:Nat):Txt.slice s (some (b:Int)) none=strC ((csS s).drop b):=by
 have hl:=z1u s;have h:Txt.slice s (some (b:Int)) none=Txt.slice (strC (csS s)) (some (b:Int)) (some ((max b s.length:Nat):Int)):=by
  rw[z2v];unfold Txt.slice Builtin.Str.strSliceIndices;have h1:¬(((max b s.length:Nat):Int)<0):=by omega
  have h2:max (0:Int) (min ((max b s.length:Nat):Int) (s.length:Int))=s.length:=by omega
  simp only[gt_iff_lt,Int.zero_lt_one,if_true,if_neg h1,h2]
 rw[h,y0g (by omega),take_of_length_le (by rw[length_drop];omega)]
theorem x2x (x y:Str):(partition x y).2.1=y\/((partition x y).2.1 = ""/\(partition x y).2.2 = ""):=by
 unfold partition;split
 ·exact .inl rfl
 ·exact .inr ⟨rfl,rfl⟩
theorem y6h:isNm []=false:=by decide
theorem tw_all (l:Cs):(l.takeWhile isL).length=l.length↔l.all isL=true:=by
 induction l with
 |nil=>simp
 |cons c l ih =>
  rw[takeWhile_cons,all_cons];cases h:isL c with
  |true=>rw[if_pos rfl,Bool.true_and,<-ih];simp
  |false=>rw[if_neg (by simp)];simp
theorem x4x (l:Cs)(h:l≠[]):(z9v l 0=l.length)↔isNm l=true:=by
 unfold z9v isNm;rw[drop_zero,Nat.zero_add,decide_eq_true h,Bool.true_and];exact tw_all l
theorem q1v {s:Str}(h:(csS s).take 5=csS "form "):partition s " " = (("form":Str),(" ":Str),strC ((csS s).drop 5)):=by
 have e:s = "form "++strC ((csS s).drop 5):=x1o (by rw[z2r,z5u,<-h,take_append_drop]);have:=x7e (strC ((csS s).drop 5));rw[<-e]at this;exact this
theorem q9n {s:Str}(h:(csS s).take 5≠csS "form "):¬((partition s " ").1 = "form"/\isNm (csS (partition s " ").2.2)=true):=by
 rintro⟨h1,h2⟩;rcases x2x s " " with e|⟨_,e⟩
 ·have hs:=partition_sum s " ";rw[h1,e]at hs;refine h ?_;rw[<-hs,z2r,z2r];rfl
 ·rw[e]at h2;rw[show csS "" = [] from rfl,y6h]at h2;cases h2
theorem x9g:z5c []=none:=by
 cases h:z5c [] with
 |none=>rfl
 |some p =>
  obtain⟨h1,h2⟩:=readR_iff.mp h;have:=sz_txt p h1;rw[h2]at this;simp at this
theorem y9u (s:Str):y4j s=if (partition s " = ").1 = "" \/ z9v (csS (partition s " = ").1) 0≠(partition s " = ").1.length\/(partition s " = ").2.1 = "" \/ z5c (csS (partition s " = ").2.2)=none then none else(z5c (csS (partition s " = ").2.2)).map fun p=>((partition s " = ").1,p):=by
 have hp:=x2x s " = ";unfold y4j;generalize partition s " = " = t at hp;obtain⟨a,m,c⟩:=t;dsimp only at hp ⊢;by_cases ha:a = ""
 ·subst ha;rw[if_pos (Or.inl rfl),if_neg (by rw[show csS "" = [] from rfl,y6h];simp)]
 ·have hn:csS a≠[]:=fun z=>ha (x1o (by rw[z];rfl));have hi:=x4x _ hn;rw[z1u]at hi;by_cases h1:isNm (csS a)=true
  ·rw[if_pos h1];split
   ·next h =>
    rcases h with h|h|h|h
    ·exact(ha h).elim
    ·exact(h (hi.mpr h1)).elim
    ·rcases hp with e|⟨_,e⟩
     ·rw[e]at h;exact absurd h (by decide)
     ·rw[e,show csS "" = [] from rfl,x9g];rfl
    ·rw[h];rfl
   ·rfl
  ·rw[if_neg h1,if_pos (.inr (.inl fun z=>h1 (hi.mp z)))]
theorem x9 (p:Pat):isNon (optP (some p))=false:=by cases p<;>rfl
noncomputable def x4h (rows:List Str):D:=match z7l rows with
 |.inl k=>.tup [.lst [.str "text",.int k],.non]
 |.inr (root,rules)=>.tup [.lst ((dueS (z1y root rules)).map .str),y0q root rules]
def q5i:RD:=fun δ Q=>∃rows:List Str,δ=[.fz (.lst (rows.map .str))]/\rows.length<=20/\(∀s∈rows,LnOk (csS s))/\Q false (x4h rows) [.no]
theorem q9t {f1 f2 f3 f4 f5 f6 f7 f8 f9 f0:Addr}{fd1 fd2 fd3 fd4 fd5 fd6 fd7 fd8 fd9 fd0:FuncData}(u3z:Ent K mg "_law_read" u4m ["_law_rows"] f fd)(T:Zs K mg)(u0v:Ent K mg "_law_pattern_in" u1r ["_law_text"] f8 fd8)(u0l:Ent K mg "_law_any_in" u1g ["_law_line","_law_at"] f5 fd5)(u0g:Ent K mg "_law_one_in" u1b ["_law_line","_law_at"] f1 fd1)(u0c:Ent K mg "_law_name_end" u0z ["_law_line","_law_at"] f2 fd2)(u0b:Ent K mg "_law_list_in" u0o ["_law_line","_law_at","_law_strokes"] f3 fd3)(u0e:Ent K mg "_law_some_in" u0w ["_law_line","_law_at"] f4 fd4)(u0a:Ent K mg "_law_pattern_text" u0i ["_law_pattern_here"] f6 fd6)(u0h:Ent K mg "_law_between" u1l ["_law_pattern_here","_law_kinds"] f7 fd7)(u3e:Ent K mg "_law_due" u4k ["_law_form_here"] f9 fd9)(u0k:Ent K mg "_law_signs_of" u1q ["_law_pattern_here"] f0 fd0):FnOk P w K mg base CX0 308 f fd ["_law_rows"] (spD q5i):=by
 have u5o:=q2x (P:=P) (w:=w) (base:=base) u0v T u0l u0g u0c u0b u0e u0a u0h;have u2z:=x6p (P:=P) (w:=w) (base:=base) u0c T;have u6y:=j6e (P:=P) (w:=w) (base:=base) u3e T u0k;refine VL.Fun.dok u3z.F u1t (fun δ Qd h=>?_) (by decide) (fun cdv A outer s H E δ Qd hr h=>?_)
 ·obtain⟨_,rfl,_⟩:=h;rfl
 ·obtain⟨rows,rfl,hn,ok,q⟩:=h;have hu:=z4s hr;refine⟨_,(z0b (z1k (dt_w (z7y (z5p (y1h hu) z4p (pv 0) (z1a z0d) (z0k _)) (z7y (z0r z8j z7h (z0z (z0m z2f z1t (pv 0) z0c (fun _ _=>rfl)) z1n (z0o z0c)) z0h (z0k _)) (z8a (z0r z2j z1v (z0m z2f z1t (pv 0) z0c (fun _ _=>rfl)) z0h (z0k _)))))) (z0e (z0n (z1j (z0a (z1a (z0a z0h (z0a z0c z0d))) (z0a z4a z0d))))) z0q)
   (z0b (dq 1 u1t.nd (z0z (z0m z2f z1t (pv 0) z0c (fun _ _=>rfl)) (z0o z0c) z1n))
   (z0b (z1k (z0r z8j z7h (z1x u2z u0c (z0a (dv 1) (z0a z0c z0d))) (z1i z6r z2e rfl T.z_len PySem.boot_len (pv 1)) (z0k _)) (z0e (z0n (z1j (z0a (z1a (z0a z0h (z0a z0c z0d))) (z0a z4a z0d))))) z0q)
   (z0b (dq 2 u1t.nd (z1a z0d))
   (z0b (z8e PassesOwn.never rfl (x5q rfl T.z_range (z0a z0c (z0a (z1i z4c z1e rfl T.z_len PySem.boot_len (pv 0)) z0d))) (dn 3 u1t.nd) (z0b (q4o (q7x (z0m z2f z1t (pv 0) (dv 3) (fun _ _=>rfl)) z0h) (x1h (n:=3) rfl (z4y (dn 4 u1t.nd) (z4y (dn 5 u1t.nd) (z4y (dn 6 u1t.nd) y6q)))))
   (z0b (dq 7 u1t.nd (z1x u5o u0v (z0a (dv 6) z0d)))
   (z0b (z1k (dt_w (z7y (z0r z2j z1v (dv 4) z0h (z0k _)) (z7y (z0r z8j z7h (z1x u2z u0c (z0a (dv 4) (z0a z0c z0d))) (z1i z6r z2e rfl T.z_len PySem.boot_len (pv 4)) (z0k _)) (z7y (z0r z2j z1v (dv 5) z0h (z0k _)) (z8a (z0r y3s z9y (dv 7) z4a (z0k _))))))) (z0e (z0n (z1j (z0a (z1a (z0a z0h (z0a (dv 3) z0d))) (z0a z4a z0d))))) z0q)
   (z0e (z5e (y3p z3f PySem.F.slot_list_append PySem.F.type_list_append z1m (pv 2) (z0a (z1j (z0a (dv 4) (z0a (dv 7) z0d))) z0d))))))))
   (z0e (z0n (z1j (z0a (z1x u6y u3e (z0a (z1j (z0a (dv 1) (z0a (dv 2) z0d))) z0d)) (z0a (z1j (z0a (dv 1) (z0a (dv 2) z0d))) z0d)))))))))),?_⟩
  have sz:=z0y;cases rows with
  |nil =>
   walk_at "vd";exact⟨by omega,by omega,by omega,q⟩
  |cons s0 r =>
   have ok0:=ok s0 mem_cons_self;have okr:∀s∈r,LnOk (csS s):=fun s hs=>ok s (mem_cons_of_mem _ hs);have hln:=ok0.len;have hls:=z1u s0;have hrl:r.length<=19:=by simp at hn;omega
   have er:x4h (s0::r)=(if (csS s0).take 5=csS "form "/\isNm ((csS s0).drop 5)=true then(match z3a 1 r with
     |.inl k=>.tup [.lst [.str "text",.int k],.non]
     |.inr rules=>.tup [.lst ((dueS (z1y (strC ((csS s0).drop 5)) rules)).map .str),y0q (strC ((csS s0).drop 5)) rules]) else .tup [.lst [.str "text",.int 0],.non]):=by
    unfold x4h;rw[z7l];by_cases h5:(csS s0).take 5=csS "form "
    ·rw[q1v h5];dsimp only;rw[z5u];by_cases hm:isNm ((csS s0).drop 5)=true
     ·rw[if_pos ⟨rfl,hm⟩,if_pos ⟨h5,hm⟩];cases z3a 1 r<;>rfl
     ·rw[if_neg (fun z=>hm z.2),if_neg (fun z=>hm z.2)];rfl
    ·rw[if_neg (q9n h5),if_neg (fun z=>h5 z.1)];rfl
   rw[er]at q;walk_at "vd";rw[show(5:Int)=((5:Nat):Int) from rfl,x2o];refine⟨by omega,by omega,?_⟩;by_cases h5:(csS s0).take 5=csS "form "
   ·rw[if_neg (by rw[h5,z2v];simp)];by_cases hf:s0 = "form "
    ·rw[if_pos hf];refine⟨by omega,by omega,?_⟩;have:(csS s0).drop 5=[]:=by rw[hf];rfl
     rw[if_neg (by rw[this,y6h];simp)]at q;exact q
    ·rw[if_neg hf];rw[y1d];have hne:(csS s0).drop 5≠[]:=fun z=>hf (x1o (by rw[<-take_append_drop 5 (csS s0),h5,z,append_nil]));have hd5:((csS s0).drop 5).length<=1900:=by rw[length_drop];omega
     have hnd:=x4x _ hne;refine⟨by omega,_,0,rfl,zero_le _,by omega,?_⟩;walk_at "vd";rw[z0t];by_cases hm:isNm ((csS s0).drop 5)=true
     ·rw[if_neg (by rw[decide_eq_true (by rw[hnd.mpr hm])];simp)];rw[if_pos ⟨h5,hm⟩]at q;generalize (csS s0).drop 5=rt at q hd5 ⊢;refine⟨by omega,by omega,?_⟩;unfold q4g;walk_at "vd";rw[length_map];refine⟨1,_,rfl,by omega,?_⟩;rw[show(((r.length+1:Nat):Int) - 1).toNat=r.length by omega];refine x4w [3,4,5,6,7] (fun i δ=>∃rules:List (Str×Pat),rules.length=i/\preR rules (z3a (1+i) (r.drop i))=z3a 1 r/\δ=[.fz (.lst (.str s0::r.map .str)),.fz (.str (strC rt)),.ob false (.lst (rules.map z5a)),.no,.no,.no,.no,.no]) ⟨[],rfl,x2z _,rfl⟩ ?_ ?_
      ·rintro i δ hi ⟨rules,hrl2,hpr,rfl⟩;rw[drop_eq_getElem_cons hi]at hpr;have hat:atI (D.str s0::r.map D.str) (1+(i:Int))=some (.str r[i]):=by
        rw[show(1+(i:Int))=((i+1:Nat):Int) by push_cast;omega];exact z2w (by rw[List.getElem?_cons_succ,getElem?_map,getElem?_eq_getElem hi];rfl)
       have oki:=okr _ (getElem_mem hi);generalize r[i]=si at hpr hat oki;have hsl:=oki.len;rw[z1u]at hsl;have hsum:=partition_sum si " = ";have hru:=y9u si;walk_at "vd";refine⟨_,hat,?_⟩;walk_at "vd";generalize partition si (Str.ofString " = ")=pt at hsum hru ⊢;obtain⟨a,m,c⟩:=pt;dsimp only at hsum hru ⊢;have okk:LnOk (csS a++csS m++csS c):=by rw[<-z2r,<-z2r,hsum];exact oki
       obtain⟨oka,okc⟩:=okk.sub;have hla:=oka.len;refine⟨by decide,by omega,csS c,by rw[z2v],okc,?_⟩;have bad:y4j si=none->Qd false (D.tup [D.lst [D.str "text",D.int (1+(i:Int))],D.non]) [.no]:=fun e=>by
        rw[z3a,e]at hpr;rw[<-hpr]at q;have:=q;simp only[preR]at this;rw[show(((1+i:Nat)):Int)=1+(i:Int) by push_cast;rfl]at this;exact this
       walk_at "vd";refine ite2 (fun ha=>⟨by omega,by omega,bad (hru.trans (if_pos (.inl ha)))⟩) fun ha=>⟨csS a,0,by rw[z2v];rfl,zero_le _,by omega,?_⟩;have hla':=z1u a;cases hrd:z5c (csS c) with
       |none =>
        have hb:=bad (hru.trans (if_pos (.inr (.inr (.inr hrd)))));unfold optP;walk_at "vd";exact⟨by omega,ite2 (fun _=>⟨by omega,by omega,hb⟩) fun _=>ite2 (fun _=>⟨by omega,by omega,hb⟩) fun _=>⟨by omega,by omega,hb⟩⟩
       |some p =>
        walk_at "vd";have hdn:z9v (csS a) 0≠a.length->decide (((z9v (csS a) 0:Nat):Int)=(a.length:Int))=false:=fun z=>decide_eq_false fun y=>z (by exact_mod_cast y);refine⟨by omega,ite2 (fun hne=>⟨by omega,by omega,bad (hru.trans (if_pos (.inr (.inl (fun z=>of_decide_eq_false hne (by rw[z])))))) ⟩) fun hne=>ite2 (fun hm=>⟨by omega,by omega,bad (hru.trans (if_pos (.inr (.inr (.inl hm)))))⟩) fun hm'=>?_⟩
        ·have hne':z9v (csS a) 0=a.length:=by
          by_cases z:z9v (csS a) 0=a.length
          ·exact z
          ·exact(hne (hdn z)).elim
         rw[if_neg (by rintro(z|z|z|z);exact ha z;exact z hne';exact hm' z;rw[hrd]at z;cases z),hrd]at hru;rw[if_neg (by have:=x9 p;rw[this];simp)];rw[z3a,hru]at hpr;refine⟨by omega,by rw[length_map];omega,rules++[(a,p)],by simp[hrl2],?_,by rw[map_append];rfl⟩;rw[<-hpr,y8w,show 1+(i+1)=1+i+1 by omega];rfl
      ·rintro δ ⟨rules,hrl2,hpr,rfl⟩;rw[drop_length]at hpr;have hpr':z3a 1 r=.inr rules:=by rw[<-hpr];simp[z3a,preR]
       obtain⟨y1,y2⟩:=z8p hpr' okr;rw[hpr']at q;walk_at "vd";refine⟨by omega,strC rt,rules,rfl,⟨by omega,y2⟩,?_⟩;walk_at "vd";exact⟨by omega,by omega,q⟩
     ·rw[if_pos (decide_eq_false fun z=>hm (hnd.mp (by exact_mod_cast z)))];rw[if_neg (fun z=>hm z.2)]at q;exact⟨by omega,by omega,by omega,q⟩
   ·rw[if_pos (decide_eq_false fun z=>h5 (z7u (by rw[z,z2v])))];rw[if_neg (fun z=>h5 z.1)]at q;exact⟨by omega,by omega,q⟩
theorem noQ.app {a b:Cs}(h1:noQ a)(h2:noQ b):noQ (a++b):=fun c hc=>(mem_append.mp hc).elim (h1 c) (h2 c)
theorem y9l {b:Bool}{s:Cs}(h:noQ s):noQ (brk b s):=by
 unfold brk;split
 ·intro c hc;rcases mem_cons.mp hc with rfl|hc
  ·decide
  ·rcases mem_append.mp hc with hc|hc
   ·exact h c hc
   ·rw[mem_singleton.mp hc];decide
 ·exact h
theorem y6r {sep:Cs}(hs:noQ sep):∀{l:List Cs},(∀x∈l,noQ x)->noQ (z1s sep l)
 | [],_=>fun c hc=>by simp[z1s]at hc
 | [x],h=>by rw[z1s];exact h x (by simp)
 |x::y::r,h=>by
  rw[z1s];exact((h x (by simp)).app hs).app (y6r hs fun z hz=>h z (mem_cons_of_mem _ hz))
theorem y2b {sep:Cs}(hs:cntD sep=0):∀l:List Cs,cntD (z1s sep l)=(l.map cntD).sum
 | []=>by simp[z1s,cntD]
 | [x]=>by simp[z1s]
 |x::y::r=>by
  have h:=y2b hs (y::r);rw[map_cons,sum_cons,<-h,z1s,z1q,z1q,hs];omega
theorem y6b (b:Bool)(s:Cs):cntD (brk b s)=cntD s+(if b=true then 1 else 0):=by
 unfold brk;cases b with
 |true =>
  rw[if_pos rfl,if_pos rfl,y4i,z1q,if_pos (by decide)];have:cntD [41]=0:=by decide
  omega
 |false=>rw[if_neg (by simp),if_neg (by simp)];omega
structure SgOk (s:Str):Prop where
 len:s.length<=20
 nq:noQ (csS s)
 cnt:cntD (csS s)=0
structure TxOk (p:Pat):Prop where
 wt:wtP p<=26 * szP p
 nq:noQ (txt p)
 cnt:cntD (txt p)+(if z1z p=true then 1 else 0)<=szP p
theorem q0p (p:Pat):(if z6j p=true then 1 else 0)<=(if z1z p=true then 1 else 0):=by cases p<;>simp[z6j,z1z]
mutual
theorem txOk:∀p:Pat,(∀s∈z0x p,SgOk s)->TxOk p
 |.none,_=>⟨by simp[wtP,szP],by rw[txt];intro c hc;rw[mem_singleton.mp hc];decide,by rw[txt,szP,show cntD [45]=0 by decide];simp[z1z]⟩
 |.one s,h=>by
  have h1:=h s (by simp[z0x]);have:=h1.len;exact⟨by simp only[wtP,szP];omega,by rw[txt];exact h1.nq,by rw[txt,szP,h1.cnt];simp[z1z]⟩
 |.row ps,h=>by
  obtain⟨h1,h2,h3⟩:=j6r ps (by simpa[z0x] using h);refine⟨by simp only[wtP,szP];omega,?_,?_⟩
  ·rw[txt];exact y6r (fun c hc=>by rw[mem_singleton.mp hc];decide) h2
  ·rw[txt,szP,y2b (by decide)];simp only[z1z,if_true];omega
 |.any ps,h=>by
  obtain⟨h1,h2,h3⟩:=j2n ps (by simpa[z0x] using h);refine⟨by simp only[wtP,szP];omega,?_,?_⟩
  ·rw[txt];exact y6r (fun c hc=>by simp at hc;rcases hc with rfl|rfl|rfl<;>decide) h2
  ·rw[txt,szP,y2b (by decide)];simp only[z1z,if_true];omega
 |.wrap k p,h=>by
  obtain⟨h1,h2,h3⟩:=txOk p (by simpa[z0x] using h);refine⟨by simp only[wtP,szP];omega,?_,?_⟩
  ·rw[txt];exact(y9l h2).app fun c hc=>by rw[mem_singleton.mp hc];cases k<;>decide
  ·rw[txt,szP,z1q,y6b];have:cntD [mkC k]<=1:=by cases k<;>decide
   have hw:(if z1z (.wrap k p)=true then 1 else 0)=0:=rfl;rw[hw];omega
theorem j6r:∀ps:List Pat,(∀s∈z1f ps,SgOk s)->wtPs ps<=26 * szPs ps/\(∀x∈txtA ps,noQ x)/\((txtA ps).map cntD).sum<=szPs ps
 | [],_=>⟨by simp[wtPs,szPs],fun x hx=>by simp[txtA]at hx,by simp[txtA,szPs]⟩
 |p::ps,h=>by
  simp only[z1f,mem_append]at h;obtain⟨h1,h2,h3⟩:=txOk p fun s hs=>h s (.inl hs);obtain⟨h4,h5,h6⟩:=j6r ps fun s hs=>h s (.inr hs);refine⟨by simp only[wtPs,szPs];omega,fun x hx=>?_,?_⟩
  ·rw[txtA]at hx;rcases mem_cons.mp hx with rfl|hx
   ·exact y9l h2
   ·exact h5 x hx
  ·rw[txtA,map_cons,sum_cons,y6b,szPs];omega
theorem j2n:∀ps:List Pat,(∀s∈z1f ps,SgOk s)->wtPs ps<=26 * szPs ps/\(∀x∈txtB ps,noQ x)/\((txtB ps).map cntD).sum<=szPs ps
 | [],_=>⟨by simp[wtPs,szPs],fun x hx=>by simp[txtB]at hx,by simp[txtB,szPs]⟩
 |p::ps,h=>by
  simp only[z1f,mem_append]at h;obtain⟨h1,h2,h3⟩:=txOk p fun s hs=>h s (.inl hs);obtain⟨h4,h5,h6⟩:=j2n ps fun s hs=>h s (.inr hs);have hb:=q0p p;refine⟨by simp only[wtPs,szPs];omega,fun x hx=>?_,?_⟩
  ·rw[txtB]at hx;rcases mem_cons.mp hx with rfl|hx
   ·exact y9l h2
   ·exact h5 x hx
  ·rw[txtB,map_cons,sum_cons,y6b,szPs];omega
end
structure LnR (l:Cs):Prop where
 len:l.length<=1800
 cnt:cntD l<=55
 nq:noQ l
theorem LnR.ok {l:Cs}(h:LnR l):LnOk l:=⟨by have:=h.len;omega,by have:=h.cnt;omega,h.nq⟩
theorem ltr0 {s:Str}(h:∀c∈csS s,97<=c/\c<=122):noQ (csS s)/\cntD (csS s)=0:=by
 refine⟨fun c hc z=>by have:=h c hc;omega,?_⟩;unfold cntD;rw[List.length_eq_zero_iff,List.filter_eq_nil_iff];intro c hc;have:=h c hc;unfold isD;simp;omega
theorem AbcS.sg {s:Str}(h:AbcS s):SgOk s:=⟨h.1,(ltr0 h.2.2).1,(ltr0 h.2.2).2⟩
structure Bnt (l l':Cs):Prop where
 len:l'.length<=l.length+1
 cnt:cntD l' <= cntD l+1
 nq:noQ l->noQ l'
theorem Bnt.ok {l l':Cs}(h:Bnt l l')(r:LnR l):LnOk l':=⟨by have:=h.len;have:=r.len;omega,by have:=h.cnt;have:=r.cnt;omega,h.nq r.nq⟩
theorem y0e (l:Cs)(i:Nat):cntD (l.take i)+cntD (l.drop i)=cntD l:=by rw[<-z1q,take_append_drop]
theorem x2j (l:Cs)(i:Nat):cntD (l.drop (i+1))<=cntD (l.drop i):=by
 have:l.drop (i+1)=(l.drop i).drop 1:=by rw[drop_drop]
 rw[this];exact((List.drop_sublist _ _).filter _).length_le
theorem x7a (c:Nat):cntD [c]<=1:=by rw[y4i];split<;>simp[cntD]
theorem bnt0 (l:Cs)(i c:Nat)(hc:c≠34):Bnt l (l.take i++[c]++l.drop i):=by
 have h1:=y0e l i;have h2:=x7a c;refine⟨by simp only[length_append,length_take,length_drop,length_singleton];omega,by rw[z1q,z1q];omega,fun h x hx=>?_⟩;rcases mem_append.mp hx with hx|hx
 ·rcases mem_append.mp hx with hx|hx
  ·exact h x (mem_of_mem_take hx)
  ·rw[mem_singleton.mp hx];exact hc
 ·exact h x (mem_of_mem_drop hx)
theorem bnt1 (l:Cs)(i c:Nat)(hc:c≠34):Bnt l (l.take i++[c]++l.drop (i+1)):=by
 have h1:=y0e l i;have h2:=x7a c;have h3:=x2j l i;refine⟨by simp only[length_append,length_take,length_drop,length_singleton];omega,by rw[z1q,z1q];omega,fun h x hx=>?_⟩;rcases mem_append.mp hx with hx|hx
 ·rcases mem_append.mp hx with hx|hx
  ·exact h x (mem_of_mem_take hx)
  ·rw[mem_singleton.mp hx];exact hc
 ·exact h x (mem_of_mem_drop hx)
theorem bnt2 (l:Cs)(i:Nat):Bnt l (l.take i++l.drop (i+1)):=by
 have h1:=y0e l i;have h3:=x2j l i;refine⟨by simp only[length_append,length_take,length_drop];omega,by rw[z1q];omega,fun h x hx=>?_⟩;rcases mem_append.mp hx with hx|hx
 ·exact h x (mem_of_mem_take hx)
 ·exact h x (mem_of_mem_drop hx)
theorem bnt3 (l:Cs)(i:Nat):Bnt l (l.take i++((l.drop (i+1)).take 1++(l.drop i).take 1)++l.drop (i+2)):=by
 have h1:=y0e l i;have h2:=y0e (l.drop i) 1;have h3:=y0e (l.drop (i+1)) 1;rw[drop_drop]at h2 h3;rw[show i+1+1=i+2 by omega]at h3;refine⟨by simp only[length_append,length_take,length_drop];omega,by rw[z1q,z1q,z1q];omega,fun h x hx=>?_⟩;rcases mem_append.mp hx with hx|hx
 ·rcases mem_append.mp hx with hx|hx
  ·exact h x (mem_of_mem_take hx)
  ·rcases mem_append.mp hx with hx|hx
   ·exact h x (mem_of_mem_drop (mem_of_mem_take hx))
   ·exact h x (mem_of_mem_drop (mem_of_mem_take hx))
 ·exact h x (mem_of_mem_drop hx)
noncomputable def chkD:D->Bool
 |.str s=>decide ((csS s).length<=1900)&&decide (cntD (csS s)<=60)&&(csS s).all (· != 34)
 |_=>false
theorem q4l {xs:List D}{i:Int}{Q:D->Prop}(hx:xs.all chkD=true)(h0:0<=i)(h1:i<xs.length)(q:∀s,LnOk (csS s)->Q (.str s)):∃d,atI xs i=some d/\Q d:=by
 obtain⟨d,hd,e⟩:=x1b h0 h1;have hc:=all_eq_true.mp hx d hd;refine⟨d,e,?_⟩;cases d with
 |str s =>
  simp only[chkD,and_eq_true,decide_eq_true_eq,all_eq_true,bne_iff_ne]at hc;exact q s ⟨hc.1.1,hc.1.2,hc.2⟩
 |_=>cases hc
theorem x5n (s:Str){b e:Nat}(h:b<=e):Txt.slice s (some (b:Int)) (some (e:Int))=strC (((csS s).drop b).take (e - b)):=by
 have:=y0g (l:=csS s) h;rwa [z2v]at this
def j3y:RD:=fun δ Q=>∃n:Int,δ=[.fz (.int n)]/\∀s:Str,LnOk (csS s)->Q false (.str s) [.no]
theorem j2m (u3g:Ent K mg "_law_odd" u4l ["_law_number"] f fd)(T:Zs K mg):FnOk P w K mg base CX0 1 f fd ["_law_number"] (spD j3y):=by
 refine VL.Fun.dok u3g.F u3w (fun δ Qd h=>?_) (by decide) (fun cdv A outer s H E δ Qd hr h=>?_)
 ·obtain⟨_,rfl,_⟩:=h;rfl
 ·obtain⟨n,rfl,q⟩:=h;refine⟨_,(z0b (dq 1 u3w.nd (z1a (z0a z0h (z0a z0h (z0a z0h (z0a z0h (z0a z0h (z0a z0h (z0a z0h (z0a z0h (z0a z0h (z0a z0h z0d))))))))))))
   (z0b (dq 1 u3w.nd (z0l z3r z2m (dv 1) (z1a (z0a z0h (z0a z0h (z0a z0h (z0a z0h (z0a z0h (z0a z0h z0d)))))))))
   (z0b (dq 1 u3w.nd (z0l z3r z2m (dv 1) (z1a (z0a z0h (z0a z0h (z0a z0h (z0a z0h (z0a z0h (z0a z0h (z0a z0h (z0a z0h (z0a z0h z0d))))))))))))
   (z0b (dq 1 u3w.nd (z0l z3r z2m (dv 1) (z1a (z0a z0h (z0a z0h (z0a z0h (z0a z0h (z0a z0h (z0a z0h (z0a z0h (z0a z0h (z0a z0h z0d))))))))))))
   (z0e (z0n (z0m z2f z1t (pv 1) (z0l z1p z1o (dv 0) (z1i z4c z1e rfl T.z_len PySem.boot_len (pv 1))) (fun _ _=>rfl)))))))),?_⟩
  have sz:=z0y;walk_at "vd";exact⟨by omega,by omega,by omega,by omega,by omega,by omega,by omega,by decide,q4l (by decide +kernel) (emod_nonneg _ (by decide)) (emod_lt_of_pos n (by decide)) q⟩
def x0v:RD:=fun δ Q=>∃(s:Str)(n:Int),δ=[.fz (.str s),.fz (.int n)]/\s.length<=1800/\∀l',Bnt (csS s) l'->Q false (.str (strC l')) [.no,.no]
theorem x9v (u1w:Ent K mg "_law_signed" u2u ["_law_row","_law_number"] f fd)(T:Zs K mg):FnOk P w K mg base CX0 1 f fd ["_law_row","_law_number"] (spD x0v):=by
 refine VL.Fun.dok u1w.F u2h (fun δ Qd h=>?_) (by decide) (fun cdv A outer s H E δ Qd hr h=>?_)
 ·obtain⟨_,_,rfl,_⟩:=h;rfl
 ·obtain⟨s,n,rfl,hs,q⟩:=h;refine⟨_,(z0b (dq 2 u2h.nd z0h)
   (z0b (dq 3 u2h.nd (z0m z9r z8c (pv 2) (z0l z1p z1o (z0l z3k z2g (dv 1) z0c) (z1i z6r z2e rfl T.z_len PySem.boot_len (pv 2))) (fun _ _=>rfl)))
   (z0b (dq 4 u2h.nd (z0l z1p z1o (z0l z3k z2g (dv 1) z0c) (z0l z1c z1b (z1i z6r z2e rfl T.z_len PySem.boot_len (pv 0)) z0c)))
   (z0b (z1k (z0r z2j z1v (z0l z1p z1o (dv 1) z0c) z0c (z0k _)) (z0e (z0n (z0l z2l z1h (z0l z2l z1h (z0z (dv 0) z1n (z0o (dv 4))) (dv 3)) (z0z (dv 0) (z0o (dv 4)) z1n)))) z0q)
   (z0b (z1k (z0r z2j z1v (z0l z1p z1o (dv 1) z0c) z0c (z0k _)) (z0e (z0n (z0l z2l z1h (z0l z2l z1h (z0z (dv 0) z1n (z0o (dv 4))) (dv 3)) (z0z (dv 0) (z0o (z0l z1c z1b (dv 4) z0c)) z1n)))) z0q)
   (z0b (z1k (z0r z2j z1v (z0l z1p z1o (dv 1) z0c) z0c (z0k _)) (z0e (z0n (z0l z2l z1h (z0z (dv 0) z1n (z0o (dv 4))) (z0z (dv 0) (z0o (z0l z1c z1b (dv 4) z0c)) z1n)))) z0q)
   (z0b (dq 5 u2h.nd (z0l z2l z1h (z0z (dv 0) (z0o (z0l z1c z1b (dv 4) z0c)) (z0o (z0l z1c z1b (dv 4) z0c))) (z0z (dv 0) (z0o (dv 4)) (z0o (z0l z1c z1b (dv 4) z0c)))))
   (z0e (z0n (z0l z2l z1h (z0l z2l z1h (z0z (dv 0) z1n (z0o (dv 4))) (dv 5)) (z0z (dv 0) (z0o (z0l z1c z1b (dv 4) z0c)) z1n))))))))))),?_⟩
  have sz:=z0y;walk_at "vd";have hl:=z1u s;have h0:(0:Int)<(s.length:Int)+1:=by omega
  have hlit:(Str.ofString "()|?*+-# =ab~1A").length=15:=by decide +kernel
  obtain⟨c,hc,ec⟩:=x1b (xs:=(Str.ofString "()|?*+-# =ab~1A").cps.toList) (i:=n / 3 % ((Str.ofString "()|?*+-# =ab~1A").length:Int)) (emod_nonneg _ (by rw[hlit];decide)) (by
   have h1:(Str.ofString "()|?*+-# =ab~1A").cps.toList.length=15:=by decide +kernel
   rw[h1,hlit];exact emod_lt_of_pos _ (by decide))
  have hc34:c≠34:=(by decide +kernel:∀c∈(Str.ofString "()|?*+-# =ab~1A").cps.toList,c≠34) c hc;have hsC:({ cps:=#[c] }:Str)=strC [c]:=rfl;obtain⟨i,hi⟩:∃i:Nat,n / 48 % ((s.length:Int)+1)=(i:Int):=⟨_,(Int.toNat_of_nonneg (emod_nonneg _ (by omega))).symm⟩;have hiL:i<=s.length:=by have:=emod_lt_of_pos (n / 48) h0;omega
  refine⟨⟨by decide,by decide⟩,by omega,by omega,by omega,c,ec,?_⟩;rw[hi,hsC,show(i:Int)+1=((i+1:Nat):Int) by push_cast;rfl,show(i:Int)+2=((i+2:Nat):Int) by push_cast;rfl,x2o,y1d,y1d,y1d,x5n s (show i+1<=i+2 by omega),x5n s (show i<=i+1 by omega),show i+2 - (i+1)=1 by omega,show i+1 - i=1 by omega];simp only[z4x,z0t,length_append,length_take,length_drop,length_singleton];refine⟨⟨by decide,by decide⟩,by omega,by omega,by decide,ite2 (fun _=>⟨by omega,by omega,by omega,by omega,q _ (bnt0 _ _ _ hc34)⟩) fun _=>⟨by decide,ite2 (fun _=>⟨by omega,by omega,by omega,by omega,q _ (bnt1 _ _ _ hc34)⟩) fun _=>⟨by decide,ite2 (fun _=>⟨by omega,by omega,by omega,q _ (bnt2 _ _)⟩) fun _=>⟨by omega,by omega,by omega,by omega,by omega,by omega,by omega,q _ (bnt3 _ _)⟩⟩⟩⟩
def x8z:RD:=fun δ Q=>∃(rows:List Str)(a b c:Int),δ=[.fz (.lst (rows.map .str)),.fz (.lst [.int a,.int b,.int c])]/\rows.length<=10/\(∀s∈rows,LnR (csS s))/\∀(bb:Bool)(rows':List Str),rows'.length<=11->(∀s∈rows',LnOk (csS s))->Q bb (.lst (rows'.map .str)) [.no,.no]
theorem q2e {f1 f2:Addr}{fd1 fd2:FuncData}(u1x:Ent K mg "_law_bent_rows" u2j ["_law_rows","_law_draws_here"] f fd)(T:Zs K mg)(u1w:Ent K mg "_law_signed" u2u ["_law_row","_law_number"] f1 fd1)(u3g:Ent K mg "_law_odd" u4l ["_law_number"] f2 fd2):FnOk P w K mg base CX0 2 f fd ["_law_rows","_law_draws_here"] (spD x8z):=by
 have u6e:=x9v (P:=P) (w:=w) (base:=base) u1w T;have u6z:=j2m (P:=P) (w:=w) (base:=base) u3g T;refine VL.Fun.dok u1x.F u3d (fun δ Qd h=>?_) (by decide) (fun cdv A outer s H E δ Qd hr h=>?_)
 ·obtain⟨_,_,_,_,rfl,_⟩:=h;rfl
 ·obtain⟨rows,a,b,c,rfl,hn,ok,q⟩:=h;have hu:=z4s hr;refine⟨_,(z0b (dq 2 u3d.nd (z0l z1p z1o (z0m z2f z1t (pv 1) z0c (fun _ _=>rfl)) z0c))
   (z0b (z1k (dt_w (z7y (z5p (y1h hu) z4p (pv 0) (z1a z0d) (z0k _)) (z8a (z0r z2j z1v (dv 2) z0c (z0k _))))) (z0e (z0n (dm 0))) z0q)
   (z0b (dq 3 u3d.nd (z0l z1p z1o (z0m z2f z1t (pv 1) z0c (fun _ _=>rfl)) (z1i z4c z1e rfl T.z_len PySem.boot_len (pv 0))))
   (z0b (z1k (z0r y7o y5x (dv 2) z0c (z0k _)) (z0e (z0n (z0l z3r z2m (z0l z3r z2m (z1l (pv 0) z1n (z0o (dv 3))) (z1a (z0a (z1x u6e u1w (z0a (z0m z2f z1t (pv 0) (dv 3) (fun _ _=>rfl)) (z0a (z0m z2f z1t (pv 1) z0c (fun _ _=>rfl)) z0d))) z0d))) (z1l (pv 0) (z0o (z0l z1c z1b (dv 3) z0c)) z1n)))) z0q)
   (z0b (z1k (z0r z2j z1v (dv 2) z0c (z0k _)) (z0e (z0n (z0l z3r z2m (z0l z3r z2m (z1l (pv 0) z1n (z0o (dv 3))) (z1a (z0a (z1x u6z u3g (z0a (z0m z2f z1t (pv 1) z0c (fun _ _=>rfl)) z0d)) z0d))) (z1l (pv 0) (z0o (z0l z1c z1b (dv 3) z0c)) z1n)))) z0q)
   (z0b (z1k (z0r z2j z1v (dv 2) z0c (z0k _)) (z0e (z0n (z0l z3r z2m (z1l (pv 0) z1n (z0o (dv 3))) (z1l (pv 0) (z0o (z0l z1c z1b (dv 3) z0c)) z1n)))) z0q)
   (z0b (z1k (z0r z2j z1v (dv 2) z0c (z0k _)) (z0e (z0n (z0l z3r z2m (z0l z3r z2m (z1l (pv 0) z1n (z0o (dv 3))) (z1a (z0a (z0m z2f z1t (pv 0) (dv 3) (fun _ _=>rfl)) z0d))) (z1l (pv 0) (z0o (dv 3)) z1n)))) z0q)
   (z0e (z0n (z0l z3r z2m (z0l z3r z2m (z1l (pv 0) z1n (z0o (dv 3))) (z1a (z0a (x0s z2f z1t (z1a (z0a z0h (z0a z0h (z0a z0h z0d)))) (z0l z1p z1o (z0m z2f z1t (pv 1) z0c (fun _ _=>rfl)) z0c) (fun _ _=>rfl)) z0d))) (z1l (pv 0) (z0o (dv 3)) z1n))))))))))),?_⟩
  have sz:=z0y;walk_at "vd";have okk:∀s∈rows,LnOk (csS s):=fun s hs=>(ok s hs).ok;have fin0:Qd false (D.lst (rows.map D.str)) [.no,.no]:=q _ rows (by omega) okk;refine⟨by decide,by omega,ite2 (fun _=>fin0) fun he=>ite2 (fun _=>fin0) fun _=>?_⟩;have hpos:0<rows.length:=by
   cases rows with
   |nil=>exact absurd rfl he
   |cons x r=>simp
  rw[length_map];obtain⟨i,hi⟩:∃i:Nat,b % (rows.length:Int)=(i:Int):=⟨_,(Int.toNat_of_nonneg (emod_nonneg _ (by omega))).symm⟩;have hiL:i<rows.length:=by have:=emod_lt_of_pos b (show(0:Int)<rows.length by omega);omega
  have hsi:atI (rows.map D.str) (i:Int)=some (.str rows[i]):=z2w (by rw[getElem?_map,getElem?_eq_getElem hiL];rfl);have oki:=ok _ (getElem_mem hiL);generalize rows[i]=si at hsi oki;have hsl:=oki.len;rw[z1u]at hsl;have tk:∀k,(rows.map D.str).take k=(rows.take k).map D.str:=fun k=>by rw[map_take]
  have dk:∀k,(rows.map D.str).drop k=(rows.drop k).map D.str:=fun k=>by rw[map_drop]
  have e1:((i:Int)+1)=((i+1:Nat):Int):=by push_cast;rfl
  have inn:∀(s:Str)(k:Nat),k=i\/k=i+1->LnOk (csS s)->(rows.take i++[s]++rows.drop k).length<=11/\∀x∈rows.take i++[s]++rows.drop k,LnOk (csS x):=fun s k hk hs=>⟨by simp only[length_append,length_take,length_drop,length_singleton];omega,fun x hx=>by
   rcases mem_append.mp hx with hx|hx
   ·rcases mem_append.mp hx with hx|hx
    ·exact okk x (mem_of_mem_take hx)
    ·rw[mem_singleton.mp hx];exact hs
   ·exact okk x (mem_of_mem_drop hx)⟩
  have fin1:∀(s:Str)(k:Nat),k=i\/k=i+1->LnOk (csS s)->Qd true (D.lst ((rows.take i).map D.str++[D.str s]++(rows.drop k).map D.str)) [.no,.no]:=fun s k hk hs=>by
   have:=q true _ (inn s k hk hs).1 (inn s k hk hs).2;rw[map_append,map_append]at this;exact this
  rw[hi];refine⟨by omega,ite2 (fun _=>⟨_,hsi,si,c,rfl,by omega,fun l' hb=>?_⟩) fun _=>ite2 (fun _=>⟨c,rfl,fun s hs=>?_⟩) fun _=>ite2 (fun _=>?_) fun _=>ite2 (fun _=>⟨_,hsi,by omega,?_⟩) fun _=>⟨by omega,by decide,q4l (by decide +kernel) (emod_nonneg _ (by decide)) (emod_lt_of_pos c (by decide)) fun s hs=>⟨by omega,?_⟩⟩⟩
  ·walk_at "vd";rw[e1,z3t,z4i,tk,dk];simp only[length_append,length_map,length_take,length_drop,length_singleton];exact⟨by omega,by omega,by omega,fin1 _ _ (.inr rfl) (by rw[z5u];exact hb.ok oki)⟩
  ·walk_at "vd";rw[e1,z3t,z4i,tk,dk];simp only[length_append,length_map,length_take,length_drop,length_singleton];exact⟨by omega,by omega,by omega,fin1 _ _ (.inr rfl) hs⟩
  ·rw[e1,z3t,z4i,tk,dk];simp only[length_map,length_take,length_drop];refine⟨by omega,?_⟩;have:=q true (rows.take i++rows.drop (i+1)) (by simp only[length_append,length_take,length_drop];omega) fun x hx=>by
    rcases mem_append.mp hx with hx|hx
    ·exact okk x (mem_of_mem_take hx)
    ·exact okk x (mem_of_mem_drop hx)
   rw[map_append]at this;exact this
  ·rw[z3t,z4i,tk,dk];simp only[length_append,length_map,length_take,length_drop,length_singleton];exact⟨by omega,by omega,fin1 _ _ (.inl rfl) oki.ok⟩
  ·rw[z3t,z4i,tk,dk];simp only[length_append,length_map,length_take,length_drop,length_singleton];exact⟨by omega,by omega,fin1 _ _ (.inl rfl) hs⟩
variable {X:Cx}
theorem x8f {s1 s2:Stmt}{rest:List Stmt}{t1 t2:TS}{u:TSd}(V:TSd->TSd)(p1:PS X s1 t1)(p2:PS X s2 t2)(h:DSs X rest u)(hs:∀t,SimS t u->SimS (tSeq t1 (tSeq t2 t)) (V u)):DSs X (s1::s2::rest) (V u):=by
 obtain⟨t,p,s⟩:=h;exact⟨_,z0u p1 (z0u p2 p),hs t s⟩
theorem j3c {α:Type}{xs:List α}{a b:α->D}{te:TEd}{Q:Bool->D->List VL.Slot->Prop}{δ:List VL.Slot}(f:α->D)(hl:xs.length<=sizeLine)
  (h:∀x∈xs,∀P:D->List VL.Slot->Prop,P (f x) (.fz (a x)::.fz (b x)::δ)->te (.fz (a x)::.fz (b x)::δ) fun _ y δ'=>P y δ')(q:Q true (.lst (xs.map f)) δ):x6o 2 (xs.map fun x=>.tup [a x,b x]) (y7r 2 (y4c (dgN 0) (y4c (dgN 1) x3p))) dYes te Q δ:=by
 refine⟨fun r acc δ1=>δ1=δ/\∃pre suf,xs=pre++suf/\r=suf.map (fun x=>.tup [a x,b x])/\acc=pre.map f,⟨rfl,[],xs,rfl,rfl,rfl⟩,?_,?_⟩
 ·rintro d r acc δ1 ⟨rfl,pre,suf,e,er,rfl⟩;cases suf with
  |nil=>cases er
  |cons x suf =>
   cases er;have hm:x∈xs:=by rw[e];simp
   have hlen:pre.length<sizeLine:=by rw[e]at hl;simp at hl;omega
   refine⟨_,rfl,rfl,_,_,rfl,trivial,_,_,rfl,trivial,rfl,?_⟩;unfold dYes;dsimp only;rw[if_pos rfl];exact h x hm (fun y δ'=>(pre.map f).length<sizeLine/\δ'.drop 2=δ1/\∃pre' suf',xs=pre'++suf'/\suf.map (fun x=>D.tup [a x,b x])=suf'.map (fun x=>.tup [a x,b x])/\pre.map f++[y]=pre'.map f) ⟨by simpa using hlen,rfl,pre++[x],suf,by simp[e],rfl,by simp⟩
 ·rintro acc δ1 ⟨rfl,pre,suf,e,er,rfl⟩;cases suf with
  |cons x suf=>cases er
  |nil =>
   rw[append_nil]at e;subst e;exact q
theorem q1x (ss:List Str):eqbL (ss.map D.str)=true/\depL (ss.map D.str)<=1:=by
 induction ss with
 |nil=>exact⟨rfl,by simp[depL]⟩
 |cons a ss ih=>exact⟨by simp[eqbL,eqb,ih.1],by simp only[map_cons,depL,dep];omega⟩
mutual
theorem y9s:∀p:Pat,eqb (patD p)=true/\dep (patD p)<=2 * dpP p+1
 |.none=>⟨by simp[patD,eqb,eqbL],by simp[patD,dep,depL]⟩
 |.one s=>⟨by simp[patD,eqb,eqbL],by simp[patD,dep,depL]⟩
 |.row ps=>by
  obtain⟨h1,h2⟩:=y5u ps;exact⟨by simp[patD,eqb,eqbL,h1],by simp only[patD,dep,depL,dpP];omega⟩
 |.any ps=>by
  obtain⟨h1,h2⟩:=y5u ps;exact⟨by simp[patD,eqb,eqbL,h1],by simp only[patD,dep,depL,dpP];omega⟩
 |.wrap k p=>by
  obtain⟨h1,h2⟩:=y9s p;exact⟨by simp[patD,eqb,eqbL,h1],by simp only[patD,dep,depL,dpP];omega⟩
theorem y5u:∀ps:List Pat,eqbL (z1w ps)=true/\depL (z1w ps)<=2 * dpPs ps+1
 | []=>⟨by simp[z1w,eqbL],by simp[z1w,depL]⟩
 |p::ps=>by
  obtain⟨h1,h2⟩:=y9s p;obtain⟨h3,h4⟩:=y5u ps;exact⟨by simp[z1w,eqbL,h1,h3],by simp only[z1w,depL,dpPs];omega⟩
end
theorem y8h:∀rules:List (Str×Pat),(∀r∈rules,dpP r.2<=122)->eqbL (rules.map z5a)=true/\depL (rules.map z5a)<=246
 | [],_=>⟨rfl,by simp[depL]⟩
 |r::rs,h=>by
  obtain⟨h1,h2⟩:=y9s r.2;obtain⟨h3,h4⟩:=y8h rs fun q hq=>h q (mem_cons_of_mem _ hq);have:=h r mem_cons_self;exact⟨by simp[z5a,eqbL,eqb,h1,h3],by simp only[map_cons,z5a,depL,dep];omega⟩
mutual
theorem x0c:∀p:Pat,szP p<=10000->okA (patD p)=true
 |.none,_=>by simp[patD,okA,okAL]
 |.one s,_=>by simp[patD,okA,okAL]
 |.row ps,h=>by
  simp only[szP]at h;have h1:=y6f ps (by omega);have h2:=y0z ps;have h3:(z1w ps).length<=1000000:=by rw[y3r];omega
  simp[patD,okA,okAL,h1,h3]
 |.any ps,h=>by
  simp only[szP]at h;have h1:=y6f ps (by omega);have h2:=y0z ps;have h3:(z1w ps).length<=1000000:=by rw[y3r];omega
  simp[patD,okA,okAL,h1,h3]
 |.wrap k p,h=>by
  simp only[szP]at h;simp[patD,okA,okAL,x0c p (by omega)]
theorem y6f:∀ps:List Pat,szPs ps<=10000->okAL (z1w ps)=true
 | [],_=>by simp[z1w,okAL]
 |p::ps,h=>by
  simp only[szPs]at h;simp[z1w,okAL,x0c p (by omega),y6f ps (by omega)]
end
theorem y8e:∀rules:List (Str×Pat),(∀r∈rules,szP r.2<=10000)->okAL (rules.map z5a)=true
 | [],_=>rfl
 |r::rs,h=>by
  have h1:=x0c r.2 (h r mem_cons_self);have h2:=y8e rs fun q hq=>h q (mem_cons_of_mem _ hq);simp[z5a,okAL,okA,h1,h2]
noncomputable def dueL (rows:List Str):List D:=match z7l rows with
 |.inl k=>[.str "text",.int k]
 |.inr (root,rules)=>(dueS (z1y root rules)).map .str
def x3m (rows:List Str):D:=match z7l rows with
 |.inl _=>.non
 |.inr (root,rules)=>y0q root rules
theorem q0r (rows:List Str):x4h rows=.tup [.lst (dueL rows),x3m rows]:=by
 unfold x4h dueL x3m;cases z7l rows<;>rfl
theorem q1o {F:Hp}{rows:List Str}{us:List V}(h:Reps F (dueL rows) us):us=dueV (z2u rows):=by
 unfold dueL at h;unfold z2u;cases hf:z7l rows with
 |inl k =>
  rw[hf]at h;obtain⟨v1,r1,rfl,e1,v2,r2,rfl,e2,e3⟩:=h;cases(show r2=[] from e3);cases(show v1=.str "text" from e1);cases(show v2=.int k from e2);rfl
 |inr o =>
  obtain⟨root,rules⟩:=o;rw[hf]at h;cases h.strs;dsimp only;cases z1y root rules with
  |none=>rfl
  |some o=>rfl
theorem x6j (rows:List Str){x:V}(h:x∈dueV (z2u rows)):(∃s,x=.str s) \/ ∃i,x=.int i:=by
 unfold z2u at h;cases hf:z7l rows with
 |inl k =>
  rw[hf]at h;simp only[dueV,mem_cons,not_mem_nil,or_false]at h;rcases h with rfl|rfl
  ·exact .inl ⟨_,rfl⟩
  ·exact .inr ⟨_,rfl⟩
 |inr o =>
  obtain⟨root,rules⟩:=o;rw[hf]at h;dsimp only at h;cases hd:z1y root rules with
  |none=>rw[hd]at h;simp[dueV]at h
  |some o =>
   rw[hd]at h;simp only[Option.map,dueV,mem_cons,not_mem_nil,or_false]at h;rcases h with rfl|rfl
   ·exact .inl ⟨_,rfl⟩
   ·exact .inl ⟨_,rfl⟩
theorem q1e {rows:List Str}{root:Str}{rules:List (Str×Pat)}(h:z7l rows=.inr (root,rules))(ok:∀s∈rows,LnOk (csS s)):rules.length<=rows.length/\∀r∈rules,szP r.2<=3900/\dpP r.2<=122:=by
 cases rows with
 |nil=>cases h
 |cons s r =>
  rw[z7l]at h;split at h
  ·cases er:z3a 1 r with
   |inl k=>rw[er]at h;cases h
   |inr rules2 =>
    rw[er]at h;obtain⟨_,e2⟩:=Prod.mk.inj (Sum.inr.inj h);obtain rfl:rules=rules2:=e2.symm;obtain⟨y1,y2⟩:=z8p er fun s hs=>ok s (mem_cons_of_mem _ hs);exact⟨by simp;omega,y2⟩
  ·cases h
theorem q3y {l:Cs}(h:l.all (· != 34)=true):noQ l:=fun c hc=>by simpa using all_eq_true.mp h c hc
noncomputable def q3a (r:Str×Pat):Str:=r.1++" = "++strC (txt r.2)
theorem x8n:SgOk "#":=⟨by decide,by intro c hc;rw[show csS "#" = [35] from rfl]at hc;rw[mem_singleton.mp hc];decide,by decide⟩
theorem j1k {root:Str}{rules:List (Str×Pat)}(h:FormOk root rules):∀s∈(("form ":Str)++root)::rules.map q3a,LnR (csS s):=by
 intro s hs;rcases mem_cons.mp hs with rfl|hs
 ·have h1:=(h.nl _ h.root).sg;have h2:=h1.len;rw[z2r];refine⟨?_,?_,?_⟩
  ·rw[length_append,z1u root];have:(csS "form ").length=5:=by decide
   omega
  ·rw[z1q,h1.cnt];have:cntD (csS "form ")=0:=by decide
   omega
  ·exact noQ.app (q3y (by decide)) h1.nq
 ·obtain⟨r,hr,rfl⟩:=mem_map.mp hs;have h1:=(h.nl r.1 (List.mem_map_of_mem hr)).sg;have h2:=h.pat r hr;have h3:=txOk r.2 fun s hs=>(h2.sg s hs).elim (fun e=>by rw[e];exact x8n) fun e=>(h.nl s e).sg;have h4:=z7d r.2;have h5:=h3.wt;have h6:=h3.cnt;have h7:=h2.sz;have h8:=h1.len;unfold q3a;rw[z2r,z2r,z5u];refine⟨?_,?_,?_⟩
  ·rw[length_append,length_append,z1u r.1];have:(csS " = ").length=3:=by decide
   omega
  ·rw[z1q,z1q,h1.cnt];have:cntD (csS " = ")=0:=by decide
   omega
  ·exact(h1.nq.app (q3y (by decide))).app h3.nq
def q5z (u:TSd):TSd:=fun E δ=>∃(K:W.Frag)(ns:List Int)(rows:List Str),δ=[.sc K ns,.fz (x3m rows),.fz (.lst (rows.map .str)),.fz (.lst (dueL rows)),.ob false (.lst (rows.map .str))]/\rows.length<=20/\(∀s∈rows,LnOk (csS s)) /\
 u E [.sc K ns,.fz (x3m rows),.fz (.lst (rows.map .str)),.fz (.lst (dueL rows)),.fz (.lst (rows.map .str))]
variable {CF CT CN CS Ct Cp Ck:Addr}
theorem j9g {lv:Nat}{ps:List Str}{sp sp0:Sp}(F:FnOk P w K mg base (CX1 P w) lv f fd ps sp)(h:∀vs H Q E,sp0 vs H Q E->sp vs H Q E0):FnOk P w K mg base CX0 lv f fd ps sp0 :=
 ⟨fun vs H Q E q=>F.len _ _ _ _ (h _ _ _ _ q),fun A outer s H args us vs Q E hr a b c q=>codeAny_mono (F.run A outer s H args us vs Q E0 hr a b c (h _ _ _ _ q)) fun r s2 z=>by
  match r,z with
  |.ok (.ret u),z=>exact z
  |.ok .next,z=>exact z
  |.error e,z=>obtain⟨_,_,_,_,_,_,_,_,_,_,_,_,_,_,_,_,z⟩:=z;exact z⟩
theorem j9d {CT CN Ct:Addr}(vs:List V)(H:Hp)(Q:VK)(E:XK)(h:q4j vs H Q E):x1x CT CN Ct vs H Q E0:=by
 obtain⟨rows,l,root,rules,rfl,hl,hn,ok,hf,hd,q⟩:=h;refine⟨rows,l,rfl,hl,hn,ok,fun r1 r2 hf2 hd2=>?_,fun r1 r2 c nm hf2 hd2=>?_,fun k hf2=>?_⟩
 ·rw[hf]at hf2;cases hf2;exact q
 ·rw[hf]at hf2;cases hf2;rw[hd]at hd2;cases hd2
 ·rw[hf]at hf2;cases hf2
def q0x (K:W.Frag):RD:=fun δ Q=>∃ns:List Int,δ=[.sc K ns]/\Q false (.bl true) [.no]
structure AllE (K:W.Frag)(mg:Str->Option Value)(w:World):Prop where
 T:Zs K mg
 kts:kitOne K (.type "tuple") (.type "str")=some false
 Y:∃CF CT CN CS Ct Cp Ck,XR K mg CF CT CN CS Ct Cp Ck
 Gd:∃aM aK,Gds K mg w aM aK
 u0f:∃f fd,Ent K mg "patterns_within" u0n ["pattern"] f fd
 u2y:∃f fd,Ent K mg "signs" u5i ["pattern"] f fd
 u1i:∃f fd,Ent K mg "look_twice" u3j ["rules"] f fd
 u1j:∃f fd,Ent K mg "look_names" u3k ["root","rules"] f fd
 u5m:∃f fd,Ent K mg "look" u6f ["form"] f fd
 u0d:∃f fd,Ent K mg "is_letter" u1d ["sign"] f fd
 u1a:∃f fd,Ent K mg "is_name" u2s ["text"] f fd
 u1u:∃f fd,Ent K mg "token_end" u3a ["line","begin"] f fd
 u2l:∃f fd,Ent K mg "tokens_of" u3b ["line"] f fd
 u0t:∃f fd,Ent K mg "gathered" u2o ["kind","patterns"] f fd
 u2g:∃f fd,Ent K mg "folded" u4a ["rows"] f fd
 u0r:∃f fd,Ent K mg "close_bracket" u1o ["groups"] f fd
 u1v:∃f fd,Ent K mg "lay_pattern" u2t ["groups","token"] f fd
 u0u:∃f fd,Ent K mg "scanned_pattern" u1p ["line"] f fd
 u5b:∃f fd,Ent K mg "held" u5x ["pattern","kinds"] f fd
 u0q:∃f fd,Ent K mg "show_pattern" u1c ["pattern"] f fd
 u0m:∃f fd,Ent K mg "read_pattern" u1y ["line"] f fd
 u2m:∃f fd,Ent K mg "read_rule" u3s ["line","middle","reader"] f fd
 u1k:∃f fd,Ent K mg "read_rules" u3l ["lines","middle","reader","first"] f fd
 u1n:∃f fd,Ent K mg "read_form" u3t ["rows"] f fd
 u2b:∃f fd,Ent K mg "_law_cell_at" u3h ["_law_script","_law_k"] f fd
 u1h:∃f fd,Ent K mg "_law_draws" u2p ["_law_script","_law_turn","_law_many"] f fd
 u1f:∃f fd,Ent K mg "_law_pop" u3q ["_law_draws_here"] f fd
 u2r:∃f fd,Ent K mg "_law_alike" u4b ["_law_found","_law_due_here"] f fd
 u3y:∃f fd,Ent K mg "_law_name" u3c ["_law_k","_law_draw"] f fd
 u0p:∃f fd,Ent K mg "_law_wrapped" u1z ["_law_pattern_here","_law_number"] f fd
 u1m:∃f fd,Ent K mg "_law_pattern" u2a ["_law_some","_law_draws_here"] f fd
 u2e:∃f fd,Ent K mg "_law_signs" u2q ["_law_names","_law_number"] f fd
 u3x:∃f fd,Ent K mg "_law_form" u3u ["_law_script","_law_turn","_law_many"] f fd
 u0k:∃f fd,Ent K mg "_law_signs_of" u1q ["_law_pattern_here"] f fd
 u3e:∃f fd,Ent K mg "_law_due" u4k ["_law_form_here"] f fd
 u0h:∃f fd,Ent K mg "_law_between" u1l ["_law_pattern_here","_law_kinds"] f fd
 u0a:∃f fd,Ent K mg "_law_pattern_text" u0i ["_law_pattern_here"] f fd
 u0c:∃f fd,Ent K mg "_law_name_end" u0z ["_law_line","_law_at"] f fd
 u0g:∃f fd,Ent K mg "_law_one_in" u1b ["_law_line","_law_at"] f fd
 u0b:∃f fd,Ent K mg "_law_list_in" u0o ["_law_line","_law_at","_law_strokes"] f fd
 u0e:∃f fd,Ent K mg "_law_some_in" u0w ["_law_line","_law_at"] f fd
 u0l:∃f fd,Ent K mg "_law_any_in" u1g ["_law_line","_law_at"] f fd
 u0v:∃f fd,Ent K mg "_law_pattern_in" u1r ["_law_text"] f fd
 u2n:∃f fd,Ent K mg "_law_kind" u3v ["_law_error"] f fd
 u3z:∃f fd,Ent K mg "_law_read" u4m ["_law_rows"] f fd
 u2i:∃f fd,Ent K mg "_law_refused" u3i ["_law_rows"] f fd
 u3g:∃f fd,Ent K mg "_law_odd" u4l ["_law_number"] f fd
 u1w:∃f fd,Ent K mg "_law_signed" u2u ["_law_row","_law_number"] f fd
 u1x:∃f fd,Ent K mg "_law_bent_rows" u2j ["_law_rows","_law_draws_here"] f fd
theorem j5r (p0a:Ent K mg "law" u6x ["_law_script"] f fd)(U:AllE K mg w):FnOk P w K mg base CX0 309 f fd ["_law_script"] (spD (q0x K)):=by
 obtain⟨T,kts,⟨CF,CT,CN,CS,Ct,Cp,Ck,Y⟩,⟨aM,aK,Gd⟩,⟨u7a,u6u,u0f⟩,⟨p0b,u9x,u2y⟩,⟨u8q,u8g,u1i⟩,⟨u8r,u8h,u1j⟩,⟨p0e,p0c,u5m⟩,⟨u9e,u8s,u0d⟩,⟨u9v,u9q,u1a⟩,⟨u9f,u8t,u1u⟩,⟨u9g,u8u,u2l⟩,⟨u9r,u9h,u0t⟩,⟨u9y,u9w,u2g⟩,⟨u7k,u7e,u0r⟩,⟨u8i,u7v,u1v⟩,⟨u7b,u6v,u0u⟩,⟨p0f,p0d,u5b⟩,⟨u7w,u7l,u0q⟩,⟨u5g,u7m,u0m⟩,⟨u9i,u8v,u2m⟩,⟨u8w,u8j,u1k⟩,⟨u6p,u6i,u1n⟩,⟨u7x,u7n,u2b⟩,⟨u8x,u8k,u1h⟩,⟨u9s,u9j,u1f⟩,⟨u8y,u8l,u2r⟩,⟨u9k,u8z,u3y⟩,⟨u7y,u7o,u0p⟩,⟨u7z,u7p,u1m⟩,⟨u9a,u8m,u2e⟩,⟨u9l,u9b,u3x⟩,⟨u7q,u7f,u0k⟩,⟨u9t,u9m,u3e⟩,⟨u8a,u7r,u0h⟩,⟨u6q,u6j,u0a⟩,⟨u7s,u7g,u0c⟩,⟨u8n,u8b,u0g⟩,⟨u8c,u7t,u0b⟩,⟨u8d,u7u,u0e⟩,⟨u8o,u8e,u0l⟩,⟨u7c,u6w,u0v⟩,⟨u9n,u9c,u2n⟩,⟨u9o,u9d,u3z⟩,⟨u5v,u5t,u2i⟩,⟨u9u,u9p,u3g⟩,⟨u8p,u8f,u1w⟩,⟨u7h,u7d,u1x⟩⟩:=U;have u5a:=x1i (P:=P) (w:=w) (base:=base) u1h T;have u5h:=j0w (P:=P) (w:=w) (base:=base) u2b T;have u6r:=j1f (P:=P) (w:=w) (base:=base) u3x T u1f u0p u1m u1h u3y u2e;have u4z:=q1z (P:=P) (w:=w) (base:=base) u2r T 260;have u0s:=x1w (P:=P) (w:=w) (base:=base) u0a T u0h 123;have u5q:=q2e (P:=P) (w:=w) (base:=base) u1x T u1w u3g;have u6s:=q9t (P:=P) (w:=w) (base:=base) u3z T u0v u0l u0g u0c u0b u0e u0a u0h u3e u0k;have u6n:=j4d (P:=P) (w:=w) (base:=base) Y u5m T u1i u1j u2y u0f;have u3f:=j0j (P:=P) (w:=w) (base:=base) u0u T Gd u1v u0r u2g u0t u1a u0d u2l u1u;have u4h:=u9z (P:=P) (w:=w) (base:=base) u0m T Gd u0u u3f u0q u5b;have u5j:=j9y (P:=P) (w:=w) (base:=base) u2m T u0m u4h u1a u0d;have u4o:=q9p (P:=P) (w:=w) (base:=base) Y u1k T u2m u5j;have u4e:=j5s (P:=P) (w:=w) (base:=base) Y u1n T u1k u0m u1a u0d u5m u4o u6n;have u6t:FnOk P w K mg base CX0 250 u6p u6i ["rows"] q4j:=j9g u4e j9d;have u5w:FnOk P w K mg base CX0 251 u5v u5t ["_law_rows"] y4v:=x3h Y u2i T u1n u2n u4e;refine VL.Fun.dok p0a.F u5p (fun δ Qd h=>?_) (by decide) (fun cdv A outer s H E δ Qd hr h=>?_)
 ·obtain⟨_,rfl,_⟩:=h;rfl
 ·obtain⟨ns,rfl,q⟩:=h;have hu:=z4s hr;refine⟨_,(z0b (dq 1 u5p.nd (x5y u6r u3x (pv 0) (z0a z0c (z0a (z0l z1c z1b z0c (z0l z1p z1o (x5y u5h u2b (pv 0) (z0a z0c z0d)) z0c)) z0d))))
   (z0b (dq 2 u5p.nd (z0l z3r z2m (z1a (z0a (z0l z2l z1h z0h (z0m z0w z1d (pv 1) z0c (fun _ _=>rfl))) z0d)) (z6d ["_law_name_here","_law_pattern_here"] ["_law_script","_law_form_here","_law_rows","_law_due_here","_law_handed"] rfl (show CScopeG (z0f u6x) ["_law_script","_law_form_here","_law_rows","_law_due_here","_law_handed"] ["_law_name_here","_law_pattern_here"] _ _ from⟨rfl,by decide +kernel,by decide +kernel,by decide +kernel,by decide +kernel⟩) (z3i (z0m z0w z1d (pv 1) z0c (fun _ _=>rfl))) (fun _ _ _ _ _=>(x8y (m:=2) rfl (y0 (z2h (i:=0) (by decide) (show List.Nodup (["_law_name_here","_law_pattern_here","_law_script","_law_form_here","_law_rows","_law_due_here","_law_handed"]:List Str) from by decide +kernel) rfl (Or.inl rfl)) (y0 (z2h (i:=1) (by decide) (show List.Nodup (["_law_name_here","_law_pattern_here","_law_script","_law_form_here","_law_rows","_law_due_here","_law_handed"]:List Str) from by decide +kernel) rfl (Or.inl rfl)) x1v)))) (fun _ _ _ _ _=>z6u) (fun _ _ _ _ _=>(z0l z2l z1h (z0l z2l z1h (dv 0) z0h) (z1x u0s u0a (z0a (dv 1) z0d)))))))
   (z0b (dq 2 u5p.nd (z1x u5q u1x (z0a (dv 2) (z0a (x5y u5a u1h (pv 0) (z0a z0c (z0a z0c z0d))) z0d))))
   (z0b (z1k (z0r z2j z1v (z0l z1p z1o (x5y u5h u2b (pv 0) (z0a z0c z0d)) z0c) z0c (z0k _)) (z0e (dq 2 u5p.nd (z1a z0d))) z0q)
   (z0b (q4o (z1x u6s u3z (z0a (dv 2) z0d)) (x1h (n:=2) rfl (z4y (dn 3 u5p.nd) (z4y (dn 1 u5p.nd) y6q))))
   (z0b (dq 4 u5p.nd (z7m x9x z9b rfl T.z_list boot_list (z0a (dv 2) z0d)))
   (x8f q5z (z5g (z2b z5v (z6s u5w u2i (z0i (pv 4) z0p)) (pv 3) (z0k _)) (z0v (z4u y7i)) z2i)
   (z5g (PW.pt (y4f (z2b z4p (pv 3) (z4v z0p) (z0k _)) (z8n (y5m (z5x (z6s u4z u2r (z0i (z6s u6t u1n (z0i (pv 4) z0p)) (z0i (pv 1) z0p)))))))) (z0v (z4u y7i)) z2i)
   (z0e (z0n (q7u (y1h hu) z4p (pv 4) (dv 2) (z0k _)))) ?five))))))),?_⟩
  case five =>
   intro t st io H0 F0 F δ σ H E Ed I q S;obtain⟨K',ns',rows,rfl,hn,ok,q⟩:=q;have sz:=z0y;obtain⟨F',a,sJ,J,_⟩:=I.freeze (i:=4) rfl;obtain⟨l0,l1,l2,l3,l4,rfl⟩:=len5 J.len.symm;obtain⟨v1,e1,rf1⟩:=J.get 1 _ rfl;obtain⟨v3,e3,rd3⟩:=J.get 3 _ rfl;obtain⟨v4,e4,rh4⟩:=J.get 4 _ rfl;cases(show l1=some v1 from e1);cases(show l3=some v3 from e3);cases(show l4=some v4 from e4);obtain⟨a4,us4,rfl,h4,rs4⟩:=id rh4;cases rs4.strs;obtain⟨a3,us3,rfl,h3,rs3⟩:=id rd3;cases q1o rs3;have sF:=J.sub;walk_at "rs";refine ifS ?_;walk_at "rs";refine⟨rows,a4,rfl,sF _ _ h4,hn,ok,fun lr H1 nlr s1 hlr=>?_⟩;have sF1:=sF.trans s1;refine⟨lr,rfl,_,hlr,_,sF1 _ _ h3,lt_of_le_of_lt (le_add_right _ 100) hu,.inr ⟨rfl,⟨0,fun i x y e1 e2=>?_,lt_of_le_of_lt (by omega) hu⟩,ifS ?_⟩⟩
   ·rw[e1]at e2;cases e2;rcases x6j rows (mem_of_getElem? e1) with ⟨s,rfl⟩|⟨k,rfl⟩
    ·exact .str _
    ·exact .int _
   walk_at "rs";refine⟨by omega,fun z hz=>?_⟩;have s7:Same H1 (upd H1 z (.lst [])):=Same.of_new hz;have hz1:upd H1 z (.lst []) z=some (.lst []):=z0g;generalize upd H1 z (.lst [])=H7 at s7 hz1;have sF7:=sF1.trans s7;have s17:Same H H7:=s1.trans s7;have fin:∀H9,Same H H9->t E [l0,some v1,l2,some (V.ref a3),some (V.ref a4)] H9:=fun H9 s9=>by
    have J1:=J.back0 (Same.refl _) s9 (J.sub.trans s9) fun b o e1 e2=>by rw[e1]at e2;cases e2
    exact st io H0 F0 _ _ _ H9 E Ed J1 q (S.mono sJ)
   cases hf:z7l rows with
   |inl k =>
    have e0:z2u rows=some (.st,.int k):=by unfold z2u;rw[hf]
    rw[e0]at h3;refine⟨_,sF7 _ _ h3,lt_of_le_of_lt (le_add_right _ 100) hu,.inl ⟨by simp[dueV],fin _ s17⟩⟩
   |inr o =>
    obtain⟨root,rules⟩:=o;cases hd:z1y root rules with
    |some o =>
     have e0:z2u rows=some (o.1,.str o.2):=by unfold z2u;rw[hf];simp[hd]
     rw[e0]at h3;refine⟨_,sF7 _ _ h3,lt_of_le_of_lt (le_add_right _ 100) hu,.inl ⟨by simp[dueV],fin _ s17⟩⟩
    |none =>
     have e0:z2u rows=none:=by unfold z2u;rw[hf];simp[hd]
     rw[e0]at h3;refine⟨_,sF7 _ _ h3,lt_of_le_of_lt (le_add_right _ 100) hu,.inr ⟨rfl,⟨0,fun i x y e1 e2=>by simp at e2,lt_of_le_of_lt (by omega) hu⟩,?_⟩⟩;have ef:x3m rows=y0q root rules:=by unfold x3m;rw[hf]
     rw[ef]at rf1;obtain⟨y1,y2⟩:=q1e hf ok;refine⟨rows,a4,root,rules,rfl,sF7 _ _ h4,hn,ok,hf,hd,fun t0 H8 s8 fat=>?_⟩;have o1:=y8e rules fun r hr=>le_trans (y2 r hr).1 (by omega);obtain⟨g1,g2⟩:=y8h rules fun r hr=>(y2 r hr).2;refine z5f (ds:=[y0q root rules,y0q root rules]) (Qd:=fun b d _=>d=.bl true) ⟨_,_,rfl,fat.rep,_,_,rfl,Rep.mono (sF7.trans s8) _ _ rf1,rfl⟩ ⟨_,rfl,by rw[z5j];simp only[dep,depL];omega,by rw[z5j];simp[okA,okAL,o1];omega,rfl⟩ fun b d δ' v H9 s9 ed r9=>?_;subst ed;cases(show v=.bl true from r9);refine⟨true,rfl,?_⟩;rw[if_neg (by simp)];exact fin _ (s17.trans (s8.trans s9))
  have sz:=z0y;walk_at "vd";refine⟨ns,1,rfl,?_⟩;walk_at "vd";have b5:=z3y (a:=ns.getD 1 0) (b:=4) (by decide);have b6:=z3z (a:=ns.getD 1 0) (b:=4) (by decide);generalize ns.getD 1 0 % 4=mm at b5 b6 ⊢;obtain⟨mm,rfl⟩:=Int.eq_ofNat_of_zero_le b5;refine⟨by decide,ns,2,1+mm,by push_cast;rfl,by omega,by omega,by omega,fun root rules fo=>?_⟩;have okr:=j1k fo;have hl8:=fo.len;have hrl:=(fo.nl _ fo.root).1;rw[z5j];walk_at "vd";have l5:(Str.ofString "form ").length=5:=by decide
  have l3:(Str.ofString " = ").length=3:=by decide
  refine⟨by omega,by omega,j3c (xs:=rules) (a:=fun r=>.str r.1) (b:=fun r=>patD r.2) (fun r=>.str (q3a r)) (by omega) (fun r hr P hP=>?_) ?_⟩
  ·have h1:=(fo.nl r.1 (List.mem_map_of_mem hr)).1;have h2:=fo.pat r hr;have h3:=txOk r.2 fun s hs=>(h2.sg s hs).elim (fun e=>by rw[e];exact x8n) fun e=>(fo.nl s e).sg;have h4:=z7d r.2;have h5:=h3.wt;have h7:=h2.sz;have h9:=h2.dp;walk_at "vd";refine⟨by omega,r.2,rfl,by omega,by omega,?_⟩;walk_at "vd";have e0:(r.1++Str.ofString " = ").length=r.1.length+(Str.ofString " = ").length:=by rw[<-z1u,z2r,length_append,z1u,z1u]
   exact⟨by rw[z0t];omega,hP⟩
  ·walk_at "vd";refine⟨by rw[length_map];omega,ns,600,3,rfl,by omega,by omega,fun ms hms=>?_⟩;obtain⟨x0,x1,x2,rfl⟩:=len3 hms;walk_at "vd";refine⟨("form "++root)::rules.map q3a,x0,x1,x2,by rw[map_cons,map_map];rfl,by rw[length_cons,length_map];omega,okr,fun bb rows' hl' ok'=>?_⟩;have rest:∀rows2:List Str,rows2.length<=20->(∀s∈rows2,LnOk (csS s))->y7r 2 (y4c (dgN 3) (y4c (dgN 1) x3p)) (x4h rows2) [Slot.sc K ns,Slot.fz (D.tup [D.str root,D.lst (List.map z5a rules)]),Slot.fz (D.lst (rows2.map D.str)),Slot.no,Slot.no] (dSeq (dSet 4 (dCB y5s (j1a (dVar 2) dNil))) (q5z (dRet (dOpV fEqL 4 (dVar 2)))) { nx:=fun δ'=>Qd false D.non (outS 1 δ'),rt:=fun b d δ'=>Qd b d (outS 1 δ') }):=by
    intro rows2 hn2 ok2;rw[q0r];walk_at "vd";refine⟨K,ns,rows2,rfl,hn2,ok2,?_⟩;walk_at "vd";obtain⟨g3,g4⟩:=q1x rows2;exact⟨_,_,rfl,rfl,.inr ⟨rfl,g3,by omega,q⟩⟩
   cases bb with
   |true =>
    walk_at "vd";refine⟨ns,0,rfl,?_⟩;walk_at "vd";exact⟨by decide,ite2 (fun _=>⟨by omega,[],rfl,by simp,by simp,rest [] (by simp) (by simp)⟩) fun _=>⟨rows',rfl,by omega,ok',rest rows' (by omega) ok'⟩⟩
   |false =>
    walk_at "vd";refine⟨ns,0,rfl,?_⟩;walk_at "vd";exact⟨by decide,ite2 (fun _=>⟨by omega,[],rfl,by simp,by simp,rest [] (by simp) (by simp)⟩) fun _=>⟨rows',rfl,by omega,ok',rest rows' (by omega) ok'⟩⟩
open PyProof.Rows
@[elab_as_elim] theorem lnS {α:Type _}{P:List α->Prop}{n:Nat}(us:List α) (h:us.length=n+1) (k:∀a r,r.length=n->P (a::r)):P us:=by
 cases us with
 |nil=>cases h
 |cons a r=>exact k a r (Nat.succ.inj h)
@[elab_as_elim] theorem ln0 {α:Type _}{P:List α->Prop}(us:List α) (h:us.length=0) (k:P []):P us:=by
 cases us with
 |nil=>exact k
 |cons a r=>cases h
@[elab_as_elim] theorem ln1 {α:Type _}{P:List α->Prop}(us:List α) (h:us.length=1) (k:∀a,P [a]):P us :=
 lnS us h fun a r h=>ln0 (P:=fun r=>P (a::r)) r h (k a)
@[elab_as_elim] theorem ln2 {α:Type _}{P:List α->Prop}(us:List α) (h:us.length=2) (k:∀a b,P [a,b]):P us :=
 lnS us h fun a r h=>ln1 (P:=fun r=>P (a::r)) r h (k a)
@[elab_as_elim] theorem ln3 {α:Type _}{P:List α->Prop}(us:List α) (h:us.length=3) (k:∀a b c,P [a,b,c]):P us :=
 lnS us h fun a r h=>ln2 (P:=fun r=>P (a::r)) r h (k a)
@[elab_as_elim] theorem ln4 {α:Type _}{P:List α->Prop}(us:List α) (h:us.length=4) (k:∀a b c d,P [a,b,c,d]):P us :=
 lnS us h fun a r h=>ln3 (P:=fun r=>P (a::r)) r h (k a)
@[elab_as_elim] theorem ln5 {α:Type _}{P:List α->Prop}(us:List α) (h:us.length=5) (k:∀a b c d e,P [a,b,c,d,e]):P us :=
 lnS us h fun a r h=>ln4 (P:=fun r=>P (a::r)) r h (k a)
noncomputable def x9h (K:W.Frag)(C:Addr):Option Addr:=match K.lookup C with
 |some ⟨_,_,.cls k,_⟩=>(match W.nsIn K k.ns "__init__" with|some (some (.ref f))=>some f|_=>none)
 |_=>none
theorem k0d {K:W.Frag}{h:Heap}{mg:Str->Option Value}{CF CT CN CS Ct Cp Ck fT fN fS:Addr}{od_Twice an_Twice:Option Addr}{sl_Twice:Array (Option Value)}{kV_Twice dc_Twice pm_Twice cd_Twice ct_Twice:Value}{od_NoName an_NoName:Option Addr}{sl_NoName:Array (Option Value)}{kV_NoName dc_NoName pm_NoName cd_NoName ct_NoName:Value}{od_NoText an_NoText:Option Addr}{sl_NoText:Array (Option Value)}{kV_NoText dc_NoText pm_NoText cd_NoText ct_NoText:Value}(X:K.In h)(G:h.Ns mainGlobals mg)
  (z_ValueError:W.nsIn K mainGlobals "ValueError" = some none)
  (g_FerryError:W.nsIn K mainGlobals "FerryError" = some (some (.ref CF)))
  (g_Twice:W.nsIn K mainGlobals "Twice" = some (some (.ref CT)))
  (g_NoName:W.nsIn K mainGlobals "NoName" = some (some (.ref CN)))
  (g_NoText:W.nsIn K mainGlobals "NoText" = some (some (.ref Ct)))
  (g_Stars:W.nsIn K mainGlobals "Stars" = some (some (.ref CS)))
  (g_NoPort:W.nsIn K mainGlobals "NoPort" = some (some (.ref Cp)))
  (g_Taken:W.nsIn K mainGlobals "Taken" = some (some (.ref Ck)))
  (q_FerryError:fxIn K CF=true)
  (u_Twice:x9h K CT=some fT)
  (x_Twice:xcIn K CT (.ref CF::mroV) fT=true)(l_Twice:K.lookup fT=some ⟨.type "function",od_Twice,.func (fnOf "__init__" "Twice.__init__" (z4t i_Twice) (z2o i_Twice) (z0f i_Twice) .none kV_Twice dc_Twice pm_Twice an_Twice cd_Twice ct_Twice),sl_Twice⟩)(c_Twice:codeIn K cd_Twice "Twice.__init__" = true)(k_Twice:keepIn K (.ref fT)=true)(kc_Twice:keepIn K (.ref CT)=true)
  (u_NoName:x9h K CN=some fN)
  (x_NoName:xcIn K CN (.ref CF::mroV) fN=true)(l_NoName:K.lookup fN=some ⟨.type "function",od_NoName,.func (fnOf "__init__" "NoName.__init__" (z4t i_NoName) (z2o i_NoName) (z0f i_NoName) .none kV_NoName dc_NoName pm_NoName an_NoName cd_NoName ct_NoName),sl_NoName⟩)(c_NoName:codeIn K cd_NoName "NoName.__init__" = true)(k_NoName:keepIn K (.ref fN)=true)(kc_NoName:keepIn K (.ref CN)=true)
  (u_NoText:x9h K Ct=some fS)
  (x_NoText:xcIn K Ct (.ref CF::mroV) fS=true)(l_NoText:K.lookup fS=some ⟨.type "function",od_NoText,.func (fnOf "__init__" "NoText.__init__" (z4t i_NoText) (z2o i_NoText) (z0f i_NoText) .none kV_NoText dc_NoText pm_NoText an_NoText cd_NoText ct_NoText),sl_NoText⟩)(c_NoText:codeIn K cd_NoText "NoText.__init__" = true)(k_NoText:keepIn K (.ref fS)=true)(kc_NoText:keepIn K (.ref Ct)=true)
  (n_Twice:∀t:Option Kd,kitOne K (tyK CT CN Ct t) (.ref CT)=some (isK t .tw))
  (n_NoName:∀t:Option Kd,kitOne K (tyK CT CN Ct t) (.ref CN)=some (isK t .nn))
  (n_Stars:∀t:Option Kd,kitOne K (tyK CT CN Ct t) (.ref CS)=some (false))
  (n_NoText:∀t:Option Kd,kitOne K (tyK CT CN Ct t) (.ref Ct)=some (isK t .st))
  (n_NoPort:∀t:Option Kd,kitOne K (tyK CT CN Ct t) (.ref Cp)=some (false))
  (n_Taken:∀t:Option Kd,kitOne K (tyK CT CN Ct t) (.ref Ck)=some (false))
  (n_ValueError:∀t:Option Kd,kitOne K (tyK CT CN Ct t) (.type "ValueError")=some (t.isSome))
  : ∃CF CT CN CS Ct Cp Ck,XR K mg CF CT CN CS Ct Cp Ck:=by
 exact⟨_,_,_,_,_,_,_,mg_none_of X G z_ValueError,mg_of X G g_FerryError,q_FerryError,mg_of X G g_Twice,mg_of X G g_NoName,mg_of X G g_Stars,mg_of X G g_NoText,mg_of X G g_NoPort,mg_of X G g_Taken,⟨_,_,_,_,x_Twice,y7j (st:=i_Twice) l_Twice c_Twice k_Twice,.all fun us hl=>ln2 us hl fun _ _=>rfl,l_Twice⟩,⟨_,_,_,_,x_NoName,y7j (st:=i_NoName) l_NoName c_NoName k_NoName,.all fun us hl=>ln2 us hl fun _ _=>rfl,l_NoName⟩,⟨_,_,_,_,x_NoText,y7j (st:=i_NoText) l_NoText c_NoText k_NoText,.all fun us hl=>ln2 us hl fun _ _=>rfl,l_NoText⟩,kc_Twice,kc_NoName,kc_NoText,n_Twice,n_NoName,n_Stars,n_NoText,n_NoPort,n_Taken,n_ValueError⟩
theorem j9e {K:W.Frag}{a:Addr}{n:Nat}{h1 h2 h3:Int}{t1 t2 t3 u1 u2 u3:Tok}{k1 k2 k3 v1 v2 v3:Str}{es:Array DictEntry}(hl:K.lookup a=some ⟨.type "dict",none,.dict es n,#[]⟩)(he:es.toList=[⟨h1,.str k1 t1,.str v1 u1⟩,⟨h2,.str k2 t2,.str v2 u2⟩,⟨h3,.str k3 t3,.str v3 u3⟩])(x:Str) :
  W.nsIn K a x=some (if x=k1 then some (.str v1 u1) else if x=k2 then some (.str v2 u2) else if x=k3 then some (.str v3 u3) else none):=by
 have q:∀(y:Str)(t:Tok),(Value.str y t).isStr x=decide (x=y):=fun y t=>by
  show(y == x)=decide (x=y);by_cases h:x=y
  ·subst h;simp
  ·rw[decide_eq_false h];exact beq_false_of_ne fun z=>h z.symm
 unfold W.nsIn;rw[hl];dsimp only;rw[he];simp only[find?_cons,List.find?_nil,q];by_cases c1:x=k1
 ·rw[if_pos c1,decide_eq_true c1]
 ·rw[if_neg c1,decide_eq_false c1];by_cases c2:x=k2
  ·rw[if_pos c2,decide_eq_true c2]
  ·rw[if_neg c2,decide_eq_false c2];by_cases c3:x=k3
   ·rw[if_pos c3,decide_eq_true c3]
   ·rw[if_neg c3,decide_eq_false c3];rfl
theorem q3u {K:W.Frag}{w:World}{a:Addr}{n:Nat}{h1 h2 h3:Int}{t1 t2 t3 u1 u2 u3:Tok}{k1 k2 k3 v1 v2 v3:Str}{es:Array DictEntry}{g:Str->Option Str}(ha:(a == sysModules)=false)(hl:K.lookup a=some ⟨.type "dict",none,.dict es n,#[]⟩)(he:es.toList=[⟨h1,.str k1 t1,.str v1 u1⟩,⟨h2,.str k2 t2,.str v2 u2⟩,⟨h3,.str k3 t3,.str v3 u3⟩])(hk:W.KeysLit w.params es.toList)
  (hg:∀x,g x=if x=k1 then some v1 else if x=k2 then some v2 else if x=k3 then some v3 else none):L2.x3g K w a g:=by
 refine⟨ha,es,n,hl,hk,fun x=>?_⟩;rw[j9e hl he x,hg x];by_cases c1:x=k1
 ·rw[if_pos c1,if_pos c1];exact⟨fun v e=>by cases e;exact⟨_,rfl⟩,fun e=>by cases e⟩
 ·rw[if_neg c1,if_neg c1];by_cases c2:x=k2
  ·rw[if_pos c2,if_pos c2];exact⟨fun v e=>by cases e;exact⟨_,rfl⟩,fun e=>by cases e⟩
  ·rw[if_neg c2,if_neg c2];by_cases c3:x=k3
   ·rw[if_pos c3,if_pos c3];exact⟨fun v e=>by cases e;exact⟨_,rfl⟩,fun e=>by cases e⟩
   ·rw[if_neg c3,if_neg c3];exact⟨(fun v e=>by cases e),fun _=>rfl⟩
theorem j4a {K:W.Frag}{h:Heap}{w:World}{mg:Str->Option Value}{aM aK:Addr}{nM nK:Nat}{eM eK:Array DictEntry}{tN tQ:Tok}{h1 h2 h3:Int}{t1 t2 t3 u1 u2 u3:Tok}{i1 i2 i3:Int}{s1 s2 s3 r1 r2 r3:Tok}(X:K.In h)(G:h.Ns mainGlobals mg)
  (g_NOTHING:W.nsIn K mainGlobals "NOTHING" = some (some (.str "-" tN)))(g_QUOTE:W.nsIn K mainGlobals "QUOTE" = some (some (.str "\"" tQ)))(g_MARKS:W.nsIn K mainGlobals "MARKS" = some (some (.ref aM)))(g_KINDS:W.nsIn K mainGlobals "KINDS" = some (some (.ref aK)))
  (l_MARKS:K.lookup aM=some ⟨.type "dict",none,.dict eM nM,#[]⟩)(l_KINDS:K.lookup aK=some ⟨.type "dict",none,.dict eK nK,#[]⟩)
  (e_MARKS:eM.toList=[⟨h1,.str "maybe" t1,.str "?" u1⟩,⟨h2,.str "many" t2,.str "*" u2⟩,⟨h3,.str "some" t3,.str "+" u3⟩])(e_KINDS:eK.toList=[⟨i1,.str "?" s1,.str "maybe" r1⟩,⟨i2,.str "*" s2,.str "many" r2⟩,⟨i3,.str "+" s3,.str "some" r3⟩])
  (k_MARKS:W.KeysLit w.params eM.toList)(k_KINDS:W.KeysLit w.params eK.toList)(o_MARKS:(aM == sysModules)=false)(o_KINDS:(aK == sysModules)=false):∃aM aK,Gds K mg w aM aK :=
 ⟨aM,aK,⟨tN,mg_of X G g_NOTHING⟩,⟨tQ,mg_of X G g_QUOTE⟩,mg_of X G g_MARKS,mg_of X G g_KINDS,q3u o_MARKS l_MARKS e_MARKS k_MARKS fun _=>rfl,q3u o_KINDS l_KINDS e_KINDS k_KINDS fun _=>rfl⟩
def EK (K:W.Frag)(x:Str)(st:Stmt):Prop:=∃f oc od kV doc pm an cdv ct osl,W.nsIn K mainGlobals x=some (some (.ref f))/\K.lookup f=some ⟨oc,od,.func (fnOf x x (z4t st) (z2o st) (z0f st) .none kV doc pm an cdv ct),osl⟩/\codeIn K cdv x=true/\keepIn K (.ref f)=true
theorem k0a {K:W.Frag}{x:Str}{st:Stmt}{f:Addr}{oc:Value}{od an:Option Addr}{osl:Array (Option Value)}{kV doc pm cdv ct:Value}(a:W.nsIn K mainGlobals x=some (some (.ref f)))(l:K.lookup f=some ⟨oc,od,.func (fnOf x x (z4t st) (z2o st) (z0f st) .none kV doc pm an cdv ct),osl⟩)(c:codeIn K cdv x=true)(k:keepIn K (.ref f)=true):EK K x st :=
 ⟨_,_,_,_,_,_,_,_,_,_,a,l,c,k⟩
theorem z1g {K:W.Frag}{mg:Str->Option Value}{h:Heap}{x:Str}{st:Stmt}{ps:List Str}(X:K.In h)(G:h.Ns mainGlobals mg)(e:EK K x st)
  (hb:∀(kV doc pm:Value)(an:Option Addr)(cdv ct:Value)(us:List Value),us.length=ps.length->bindArgs (fnOf x x (z4t st) (z2o st) (z0f st) .none kV doc pm an cdv ct) ⟨us,[]⟩=pure (ps.zip us):=by intro _ _ _ _ _ _ us hl;repeat (first|exact ln0 us hl rfl|refine lnS us hl fun _ us hl=>?_)):∃f fd,Ent K mg x st ps f fd:=by
 obtain⟨_,_,_,_,_,_,_,_,_,_,a,l,c,k⟩:=e;exact j5p X G hb a l c k
def NZ (K:W.Frag)(x:Str):Prop:=W.nsIn K mainGlobals x=some none
theorem z7x {K:W.Frag}{mg:Str->Option Value}{h:Heap}{x:Str}(X:K.In h)(G:h.Ns mainGlobals mg)(z:NZ K x):mg x=none:=mg_none_of X G z
set_option maxHeartbeats 0 in
theorem j7n {w:World}{K:W.Frag}{h:Heap}{mg:Str->Option Value}{tk:Tok}(X:K.In h)(G:h.Ns mainGlobals mg)(kit:q8b K)(kts:kitOne K (.type "tuple") (.type "str")=some false)(Y:∃CF CT CN CS Ct Cp Ck,XR K mg CF CT CN CS Ct Cp Ck)(Gd:∃aM aK,Gds K mg w aM aK)(tx:W.nsIn K mainGlobals "TEXT_SIGN" = some (some (.str "#" tk)))
  (z1:NZ K "list")
  (z2:NZ K "reversed")
  (z3:NZ K "isinstance")
  (z4:NZ K "str")
  (z5:NZ K "len")
  (z6:NZ K "int")
  (z7:NZ K "bool")
  (z8:NZ K "range")
  (z9:NZ K "all")
  (z10:NZ K "any")
  (z11:NZ K "zip")
  (z12:NZ K "tuple")
  (z13:NZ K "dict")
  (z14:NZ K "set")
  (z15:NZ K "enumerate")
  (z16:NZ K "max")
  (e1:EK K "patterns_within" u0n)
  (e2:EK K "signs" u5i)
  (e3:EK K "look_twice" u3j)
  (e4:EK K "look_names" u3k)
  (e5:EK K "look" u6f)
  (e6:EK K "is_letter" u1d)
  (e7:EK K "is_name" u2s)
  (e8:EK K "token_end" u3a)
  (e9:EK K "tokens_of" u3b)
  (e10:EK K "gathered" u2o)
  (e11:EK K "folded" u4a)
  (e12:EK K "close_bracket" u1o)
  (e13:EK K "lay_pattern" u2t)
  (e14:EK K "scanned_pattern" u1p)
  (e15:EK K "held" u5x)
  (e16:EK K "show_pattern" u1c)
  (e17:EK K "read_pattern" u1y)
  (e18:EK K "read_rule" u3s)
  (e19:EK K "read_rules" u3l)
  (e20:EK K "read_form" u3t)
  (e21:EK K "_law_cell_at" u3h)
  (e22:EK K "_law_draws" u2p)
  (e23:EK K "_law_pop" u3q)
  (e24:EK K "_law_alike" u4b)
  (e25:EK K "_law_name" u3c)
  (e26:EK K "_law_wrapped" u1z)
  (e27:EK K "_law_pattern" u2a)
  (e28:EK K "_law_signs" u2q)
  (e29:EK K "_law_form" u3u)
  (e30:EK K "_law_signs_of" u1q)
  (e31:EK K "_law_due" u4k)
  (e32:EK K "_law_between" u1l)
  (e33:EK K "_law_pattern_text" u0i)
  (e34:EK K "_law_name_end" u0z)
  (e35:EK K "_law_one_in" u1b)
  (e36:EK K "_law_list_in" u0o)
  (e37:EK K "_law_some_in" u0w)
  (e38:EK K "_law_any_in" u1g)
  (e39:EK K "_law_pattern_in" u1r)
  (e40:EK K "_law_kind" u3v)
  (e41:EK K "_law_read" u4m)
  (e42:EK K "_law_refused" u3i)
  (e43:EK K "_law_odd" u4l)
  (e44:EK K "_law_signed" u2u)
  (e45:EK K "_law_bent_rows" u2j)
  (e46:EK K "law" u6x)
  : AllE K mg w/\∃f fd,Ent K mg "law" u6x ["_law_script"] f fd :=
 ⟨⟨⟨z7x X G z1,z7x X G z2,z7x X G z3,z7x X G z4,z7x X G z5,z7x X G z6,z7x X G z7,z7x X G z8,z7x X G z9,z7x X G z10,z7x X G z11,z7x X G z12,z7x X G z13,z7x X G z14,z7x X G z15,z7x X G z16,⟨tk,mg_of X G tx⟩,kit⟩,kts,Y,Gd,z1g X G e1,z1g X G e2,z1g X G e3,z1g X G e4,z1g X G e5,z1g X G e6,z1g X G e7,z1g X G e8,z1g X G e9,z1g X G e10,z1g X G e11,z1g X G e12,z1g X G e13,z1g X G e14,z1g X G e15,z1g X G e16,z1g X G e17,z1g X G e18,z1g X G e19,z1g X G e20,z1g X G e21,z1g X G e22,z1g X G e23,z1g X G e24,z1g X G e25,z1g X G e26,z1g X G e27,z1g X G e28,z1g X G e29,z1g X G e30,z1g X G e31,z1g X G e32,z1g X G e33,z1g X G e34,z1g X G e35,z1g X G e36,z1g X G e37,z1g X G e38,z1g X G e39,z1g X G e40,z1g X G e41,z1g X G e42,z1g X G e43,z1g X G e44,z1g X G e45⟩,z1g X G e46⟩
theorem j6f {l:W.OpenLaw}{w:World}{K:W.Frag}{mg:Str->Option Value}{fa:Addr}(Z:AllE K mg w/\∃f fd,Ent K mg "law" u6x ["_law_script"] f fd)(hmg:mg "law" = some (.ref fa)) :
  ∃fd:FuncData,(∀(s:Shared)(u:Value),BindsTo s fd ⟨[u],[]⟩ [("_law_script",u)])/\∀base:Heap,K.In base->base.Ns mainGlobals mg->FnOk l.prog w K mg base CX0 309 fa fd ["_law_script"] (spD (q0x K)):=by
 obtain⟨L,f,fd,E⟩:=Z;have e:=hmg.symm.trans E.g;cases e;obtain⟨oc,od,kV,doc,pm,an,cdv,ct,osl,rfl,lk,hcd⟩:=E.F.ex;exact⟨_,fun s u=>.of_eq rfl,fun base _ _=>j5r E L⟩
theorem j3i {K:W.Frag}{H:Hp}{a:Addr}{ns:List Int}{E:XK}(hS:SqL K H a (ns.map V.int)):spD (q0x K) [.ref a] H (fun v _=>v=.bl true) E:=by
 refine⟨H,[none],H,[.sc K ns],fun b d _=>d=.bl true,fun p a e=>by cases p<;>simp at e,(y8y (ds:=[]) (vs:=[]) (Same.refl _) rfl).push (s:=.sc K ns) (v:=.ref a) ⟨a,rfl,hS⟩ (fun b c a e=>by cases e),⟨ns,rfl,rfl⟩,fun b d v δ' F' H' I q=>?_⟩;obtain⟨F2,s,I2,rv⟩:=I.fr;cases q;exact rv
end
end K04
open PySem PySem.W PyProof.Rows
set_option maxRecDepth 100000 in
set_option maxHeartbeats 0 in
theorem PySem.Challenge.cw_formferry_k23_form_rows_looked_at_holds : PySem.Challenge.rw_formferry_k23_form_rows_looked_at.Holds := by
 w_on;o_law;k_head;(case hw=>w_witness2)
 k_fill
 refine L2.q2c (l:=PySem.Challenge.rw_formferry_k23_form_rows_looked_at) (n:=63) (k:=309) (x:="_law_script") (CX:=L2.CX0) (sp:=fun K=>VL.spD (K04.q0x K)) rfl (by decide) rfl ⟨rfl,by decide,by decide⟩ (fun w h Y=>PySem.W.kIn_of Y) (fun _ _ _ p e=>absurd e (by show ¬none=some p;intro z;cases z)) ?F (fun K H a ns hl hO hS=>K04.j3i hS) (fun _ _ _ _ z=>z)
 case F =>
  intro w mg fa h KX G hmg;have Z:=by
   refine' K04.j7n KX G ?kit ?kts ?Y ?Gd ?tx ?_ ?_ ?_ ?_ ?_ ?_ ?_ ?_ ?_ ?_ ?_ ?_ ?_ ?_ ?_ ?_ ?_ ?_ ?_ ?_ ?_ ?_ ?_ ?_ ?_ ?_ ?_ ?_ ?_ ?_ ?_ ?_ ?_ ?_ ?_ ?_ ?_ ?_ ?_ ?_ ?_ ?_ ?_ ?_ ?_ ?_ ?_ ?_ ?_ ?_ ?_ ?_ ?_ ?_ ?_ ?_ ?_ ?_ ?_ ?_ ?_ ?_
   (case tx=>k_is)
   (case kit =>
    intro t ht T hT;simp only[List.mem_cons,List.not_mem_nil,or_false]at ht hT;rcases ht with rfl|rfl|rfl|rfl|rfl|rfl|rfl<;>rcases hT with rfl|rfl|rfl|rfl|rfl|rfl<;>rfl)
   (case kts=>rfl)
   (case Gd =>
    refine' K04.j4a KX G ?g_NOTHING ?g_QUOTE ?g_MARKS ?g_KINDS ?l_MARKS ?l_KINDS ?e_MARKS ?e_KINDS ?k_MARKS ?k_KINDS ?o_MARKS ?o_KINDS
    (case g_NOTHING=>k_is);(case g_QUOTE=>k_is)
    (case g_MARKS=>k_is);(case g_KINDS=>k_is)
    (case l_MARKS=>k_is);(case l_KINDS=>k_is)
    (case e_MARKS=>rfl)
    (case e_KINDS=>rfl)
    (case k_MARKS=>k_keys)
    (case k_KINDS=>k_keys)
    (case o_MARKS=>decide)
    (case o_KINDS=>decide))
   (case Y =>
    refine' K04.k0d KX G ?z_ValueError ?g_FerryError ?g_Twice ?g_NoName ?g_Stars ?g_NoText ?g_NoPort ?g_Taken ?q_FerryError ?u_Twice ?x_Twice ?l_Twice ?c_Twice ?k_Twice ?kc_Twice ?u_NoName ?x_NoName ?l_NoName ?c_NoName ?k_NoName ?kc_NoName ?u_NoText ?x_NoText ?l_NoText ?c_NoText ?k_NoText ?kc_NoText ?n_Twice ?n_NoName ?n_Stars ?n_NoText ?n_NoPort ?n_Taken ?n_ValueError
    (case z_ValueError=>k_is);(case g_FerryError=>k_is)
    (case g_Twice=>k_is);(case g_NoName=>k_is)
    (case g_Stars=>k_is);(case g_NoText=>k_is)
    (case g_NoPort=>k_is);(case g_Taken=>k_is)
    (case q_FerryError=>rfl)
    (case u_Twice=>rfl)
    (case x_Twice=>kernel_rfl)
    (case l_Twice=>k_is);(case c_Twice=>k_is)
    (case k_Twice=>k_is);(case kc_Twice=>k_is)
    (case u_NoName=>rfl)
    (case x_NoName=>kernel_rfl)
    (case l_NoName=>k_is);(case c_NoName=>k_is)
    (case k_NoName=>k_is);(case kc_NoName=>k_is)
    (case u_NoText=>rfl)
    (case x_NoText=>kernel_rfl)
    (case l_NoText=>k_is);(case c_NoText=>k_is)
    (case k_NoText=>k_is);(case kc_NoText=>k_is)
    (case n_Twice=>intro t;rcases t with _|c;rfl;cases c<;>rfl)
    (case n_NoName=>intro t;rcases t with _|c;rfl;cases c<;>rfl)
    (case n_Stars=>intro t;rcases t with _|c;rfl;cases c<;>rfl)
    (case n_NoText=>intro t;rcases t with _|c;rfl;cases c<;>rfl)
    (case n_NoPort=>intro t;rcases t with _|c;rfl;cases c<;>rfl)
    (case n_Taken=>intro t;rcases t with _|c;rfl;cases c<;>rfl)
    (case n_ValueError=>intro t;rcases t with _|c;rfl;cases c<;>rfl))
   iterate 16 (refine(show PySem.W.nsIn _ mainGlobals _=some none from ?_);k_is)
   iterate 46 (refine' K04.k0a ?a ?l ?c ?k;(case a=>k_is);(case l=>k_is);(case c=>k_is);(case k=>k_is))
  exact K04.j6f Z hmg
#print axioms PySem.Challenge.cw_formferry_k23_form_rows_looked_at_holds
