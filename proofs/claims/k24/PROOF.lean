import PyProof.Rows.All
import Wide.All
import OpenK.AllK
import Wide.FinOn
import Lean
import PyProof.EqAt
import PyProof.EqKinds
import PyProof.TupleCall
import KE.KRevIter
import PyProof.AttrMissHeap
import KE.KDictOf
import KE.KxText
import PyProof.DictIter
import PyProof.DictWalks
import KE.KDictList
import PyProof.EnumMake
import PyProof.EnumFor
import PyProof.Rows.SetFrom
import PyProof.SetRoads
import PyProof.DictStraight
import KE.KRevSl
import PyProof.NeKinds
import PyProof.Rows.EqBoolInt
import KE.KLam
import KE.KMinKey
import OpenK.KTop
import PyProof.FString5
import PyProof.StrWalks
import PyProof.Rows.StrNews2
import PyProof.Rows.CallKwBuiltin
import PyProof.StrCalls6
import PyProof.StrLawsReplace
import PyProof.CallFns
import PyProof.Rows.FactsT3
import PyProof.ExcClass3
import PyProof.ExcQuiet
import PyProof.ExcAttrAll.ValueError
import PyProof.ExcArgsOwn
import PyProof.RaisesMany
import PyProof.InstStoreFacts
import PyProof.InstLoad
import PyProof.ExcInit
import OpenK.KOwn
import PyProof.AssignAttr
import PyProof.RulesAs
import PyProof.RulesDel
import PyProof.IsiBase
import OpenK.ZHead
import PySem.Challenge.RW_formferry_k24_lines_and_ferry_rows_looke
import OpenK.ZGo
set_option Elab.async false
set_option linter.all false
set_option maxRecDepth 100000
set_option compiler.extract_closed false
set_option compiler.postponeCompile true
set_option bootstrap.genMatcherCode false
set_option genSizeOfSpec false
noncomputable section
namespace PySem.W.Fast
def tw12160679257744734610:=0
def tw8395659612980716218:=0
def tw9133555444617823608:=0
def tw12324631739139411803:=0
def tw15963081195781912833:=0
def tw10520283668885174070:=0
def tw18378713122957228993:=0
def tw12334872152451075439:=0
def tw16252439571413098467:=0
def tw2567013178319997021:=0
def tw13750822959359958151:=0
def tw14239717097682269365:=0
def tw6593885455643961979:=0
def tw13267849637915193117:=0
def tw2392725212543616692:=0
def tw6091020947363786559:=0
def tw1947707419006395147:=0
def tw17036539329042567402:=0
def tw7976095654259459569:=0
def tw9326752038546960233:=0
def tw7971039897520124852:=0
def tw2620257152028566958:=0
def tw552045116021306410:=0
def tw14166543489766319859:=0
def tw13383908892566878965:=0
def tw7376355496136939665:=0
def tw5555370571109440655:=0
def tw9585580956334803215:=0
def tw11135123191264012140:=0
def tw14559535320791558403:=0
def tw940483867131185057:=0
def tw15153546214165543830:=0
def tw9800025623219650801:=0
def tw14455190427413207830:=0
def tw14923606074655836456:=0
def tw2385620731903056300:=0
def tw4578108461055536440:=0
def tw7935770981306910396:=0
def tw8899037718774935834:=0
def tw3096430506712745912:=0
def tw15366409274221799350:=0
def tw12185997850857809509:=0
def tw9353060273486040559:=0
def tw9169017778392832228:=0
def tw18207095701549339305:=0
def tw4358854028367322508:=0
def tw3539586068243980420:=0
def tw13791701383963036839:=0
def tw5138194727231406243:=0
def tw10924885873240031461:=0
def tw2881943708532770062:=0
def tw11690169764054715760:=0
def tw17476671118252857632:=0
def tw337708015497904035:=0
def tw12333163777377952180:=0
def tw15951817722951250444:=0
def tw15248796603223001455:=0
def tw18242967271887507380:=0
def tw14625228992859752481:=0
def tw12865865181884406712:=0
def tw2724590903977952873:=0
def tw14772836972020135538:=0
def tw1515848939964365910:=0
def tw506769899867515477:=0
def tw227513104189042160:=0
def tw12857898617569002829:=0
def tw17323550025096778439:=0
def tw11699634290061209063:=0
def tw14411783950689779370:=0
def tw7217776364874439543:=0
def tw2791086351083348850:=0
def tw5375571189767517141:=0
def tw9364700115332388898:=0
def tw17626818303090721739:=0
def tw10740673845549355982:=0
def tw15423168730958569342:=0
def tw7025946276639977153:=0
def tw9079256489240806967:=0
def tw164136802530228217:=0
def tw10534956380786343053:=0
def tw1901124824259539736:=0
def tw3988789992811665179:=0
def tw12244860101560542843:=0
def tw6640806058894451976:=0
def tw16401117835896705483:=0
def tw14664171726611968082:=0
def tw2966183102690933820:=0
def tw14211394934075915282:=0
def tw10079929819736073143:=0
def tw10604884368674567986:=0
def tw2622668134317922967:=0
def tw16755476171605897948:=0
def tw1581371446695123203:=0
def tw14765668163520822777:=0
def tw13304569077951893414:=0
def tw18429501648072123910:=0
def tw13682420446538940536:=0
def tw8304701509437365022:=0
def tw18032692185823075609:=0
def tw2802900209448019508:=0
def tw5382860666289939747:=0
def tw18043161699219925491:=0
def tw15415992615063944249:=0
def tw16490335041631333149:=0
def tw17504712151172697519:=0
def tw14077584625162828255:=0
def tw17923590493016691456:=0
def tw711203149961692064:=0
def tw12976290165838722725:=0
def tw3708427701344292932:=0
def tw13696501693611694162:=0
def tw8489005451310329602:=0
def tw2801851333560022168:=0
def tw2218403116713974048:=0
def tw3453286052499867466:=0
def tw7116450537427582344:=0
def tw5931282395574797139:=0
def tw9153801289168274336:=0
def tw9523310063333690091:=0
def tw15537359158893123106:=0
def tw7548399363955435641:=0
def tw6193543316874442306:=0
def tw5642003716228982950:=0
def tw17296478773302158100:=0
def tw1275047119426583736:=0
def tw10050511156465847529:=0
def tw711880129387357705:=0
def tw9856947863381608658:=0
def tw12383761982088887512:=0
def tw17244408819771353947:=0
def tw55824904457784110:=0
def tw16314571271572937904:=0
def tw2835884701054628421:=0
def tw15378657009230975698:=0
def tw12375977028603185875:=0
def tw15665437387086684736:=0
def tw5332419148304431225:=0
def tw6347514605354361257:=0
def tw8862230895828887104:=0
def tw715936659619528982:=0
def tw10122254362208440473:=0
def tw2462828490377317430:=0
def tw6724020237868546489:=0
def tw16462079836624849549:=0
def tw8967231762858678564:=0
def tw9436410035338850007:=0
def tw14339388331030570155:=0
def tw2047349993233135466:=0
def tw15236729313608782476:=0
def tw239135456102946380:=0
def tw10284165837294579366:=0
def tw17772464339378774193:=0
def tw11689733710092421365:=0
def tw5568229360385351462:=0
def tw2318607597141394405:=0
def tw16486651087815737284:=0
def tw4378766193772609118:=0
def tw4393059279162143433:=0
def tw5322221176936642035:=0
def tw1536666960171263362:=0
def tw1595782910716238353:=0
def tw14135432499045381712:=0
def tw15564826095281842202:=0
def tw4611905816933699159:=0
def tw16731907116786208710:=0
def tw700957350575708735:=0
def tw16824302262941933239:=0
def tw16043529409143171303:=0
def tw4129368675710636292:=0
def tw9997499930969300145:=0
def tw5080065659678238157:=0
def tw13307999245745041877:=0
def tw13867455612905613071:=0
def tw5527594762607704122:=0
def tw12280071275184231888:=0
def tw13536780452188848322:=0
def tw16784640144901411209:=0
def tw16791880267796661927:=0
def tw1345444821040009924:=0
def tw13626809809942823035:=0
def tw8045461420519589056:=0
def tw15884789626901966392:=0
def tw949976051998962541:=0
def tw13700458721439975152:=0
def tw8942467048508172628:=0
def tw1725288592069725770:=0
def tw8546604202424946447:=0
def tw2981085454679209347:=0
def tw3913890844083405348:=0
def tw5112108216353507490:=0
def tw12496521177497982862:=0
def tw512027477750190359:=0
def tw14113382745547267561:=0
def tw132633932049222825:=0
def tw1393804966352826318:=0
def tw2192809780082491874:=0
def tw10086590646753777927:=0
def tw4699188199554928068:=0
def tw18301561849528527524:=0
def tw2773562318365761044:=0
def tw5055559114382285806:=0
def tw17997327046902590915:=0
def tw2470783912892058781:=0
def tw11207473514345202095:=0
def tw15418805139126386742:=0
def tw15122307229618089693:=0
def tw5552887407156778833:=0
def tw17962079507927250603:=0
def tw2894142948370909416:=0
def tw2959024640823113215:=0
def tw12422604178290236955:=0
def tw5838066775194354611:=0
def tw15794006271124505095:=0
def tw18314729183342212677:=0
def tw14414428712987331349:=0
def tw16065837301617602483:=0
def tw11985007615918809909:=0
def tw4930098211874905841:=0
def tw13566377305428661295:=0
def tw14753277281836624953:=0
def tw14312563829676352290:=0
def tw12738529781606231987:=0
def tw2810607915626080977:=0
def tw725663230190933884:=0
def tw2854273621622375406:=0
def tw4817166705567552857:=0
def tw7384241090013381800:=0
def tw14408384304740493649:=0
def tw11169407690879493185:=0
def tw15814520637555201073:=0
def tw9519409319456743674:=0
def tw87684667615587073:=0
def tw10985061196228323710:=0
def tw9712962734581205449:=0
def tw309024583768392533:=0
def tw8449162881156573158:=0
def tw8936805248381097744:=0
def tw11108656479149176805:=0
def tw15217113098723113185:=0
def tw9299797087958250190:=0
def tw17727090126308114000:=0
def tw5800291087830658395:=0
def tw12995328442679264447:=0
def tw10861642459757648239:=0
def tw2018069606741164656:=0
def tw11025195588570676196:=0
def tw5948790457714854599:=0
def tw16646974894764149404:=0
def tw8565590857917980332:=0
def tw15311275438390777614:=0
def tw4120821335939778956:=0
def tw4339489550566354458:=0
def tw9477892040648754704:=0
def tw13255475559193683487:=0
def tw6703835423842053602:=0
def tw1512603971256088733:=0
def tw8013284748750364374:=0
def tw6333596195799714654:=0
def tw3540304089253440233:=0
def tw2754162533938319708:=0
def tw14218779355567109248:=0
def tw13517801780692611812:=0
def tw2326551016147360000:=0
def tw5145738689103895558:=0
def tw7979622548109848920:=0
def tw2547756166613571132:=0
def tw13290953034976751502:=0
def tw3710232066669318195:=0
def tw12796893658881419951:=0
def tw12545343154181832690:=0
def tw2694233284722706989:=0
def tw1445778401256501270:=0
def tw8595404212993384839:=0
def tw17548764850980185244:=0
def tw17690335299463225137:=0
def tw10018712235245260797:=0
def tw12042778755976501342:=0
def tw7952425544492860361:=0
def tw16574882156749304411:=0
def tw16990579337474496942:=0
def tw10878718333543152139:=0
def tw5411331765282554631:=0
def tw453725353555224894:=0
def tw183748354591598426:=0
def tw10748361748212685343:=0
def tw17564068217450795030:=0
def tw8837795963727817961:=0
def tw2408334281714554844:=0
def tw14381426562905993441:=0
def tw3457635791451945560:=0
end PySem.W.Fast
set_option maxHeartbeats 800000
open Array (toList)
open Bool (and_eq_true)
open Int (emod_lt_of_pos emod_nonneg toNat_natCast)
open List (all_cons all_eq_true all_map any_cons append_assoc append_nil cons_append contains_cons drop dropWhile_cons drop_drop drop_eq_getElem_cons drop_length drop_of_length_le drop_one drop_zero eq_nil_of_length_eq_zero filter_append filter_cons find?_cons forIn_cons getD_cons_succ getD_eq_getElem?_getD getElem?_append_left getElem?_append_right getElem?_cons_succ getElem?_cons_zero getElem?_eq_getElem getElem?_eq_none getElem?_map getElem?_replicate getElem?_set getElem?_set_ne getElem?_set_self getElem_mem isEmpty_iff length_append length_cons length_drop length_map length_nil length_reverse length_singleton length_tail length_take lookup_cons map_append map_cons map_drop map_id map_nil map_singleton map_take mem_append mem_append_left mem_append_right mem_cons mem_cons_of_mem mem_cons_self mem_filter mem_filterMap mem_map mem_of_getElem? mem_of_mem_drop mem_of_mem_tail mem_of_mem_take mem_range mem_singleton nodup_cons nodup_nil not_mem_nil of_mem_zip range replicate reverse_cons size_toArray sum_cons take takeWhile_append_dropWhile takeWhile_cons takeWhile_sublist take_append_drop take_of_length_le take_zero)
open Nat (le_add_right le_of_eq le_of_lt le_refl le_succ le_trans lt_irrefl lt_of_le_of_lt lt_of_lt_of_le lt_succ_self min_eq_left min_eq_right ne_of_gt ne_of_lt not_lt_zero zero_le)
open Option (bind_some getD_none isNone isSome_iff_exists isSome_map map_eq_some_iff map_some)
open PyProof.Rows (boot_all boot_bool boot_int boot_isinstance boot_list boot_ord boot_str boot_tuple boot_zip joinOk_of_weight join_ones)
open PySem.F (entry_dict_get plainAttrs_str slot_NoneType_hash slot_dict_get slot_list_pop type_list_pop)
open PySem.Heap (get?_push_at get?_push_of_some get?_push_size get?_update_other get?_update_self lt_size size_push)
open PySem.StrLaws (glued_eq_join partition_sum partsBetween_eq partsFrom subAt_eq sub_whole)
open PySem.Txt (endswith join partition slice_le startswith)
open PySem.W (callWith_K cellsFrom_some codeIn findIn fnOf instObj isFn keepIn kia_one kitOne kitx_dict kitx_list kitx_none lookIn methodObj mg_none_of mg_of mroIn nsIn nsOkIn plainGet specialIn)
namespace L2
def lamP:Option Nat:=none
def lamL:Int:=50
def lamC:Int:=65
def lamQ:PySem.Str:="cheaper.<locals>.<lambda>"
def tk0:Nat:=510
open PySem PySem.Spec PyProof.Rows
abbrev Key:=Sum Int Str
noncomputable def Ae:Key->Value->Bool
 |.inl k,v=>Value.isInt k v
 |.inr x,v=>Value.isStrOf x v
noncomputable def keyH (w:World):Key->Int
 |.inl k=>hashInt k
 |.inr x=>hashStr w x
theorem Tc:∀{k:Key}{v:Value},Ae k v=true->(∃i t,k=Sum.inl i/\v=Value.int i t)\/(∃x t,k=Sum.inr x/\v=Value.str x t)
 |.inl i,v,h=>by
  obtain⟨t,e⟩:=Value.isInt_shape (k:=i) (v:=v) h;exact .inl ⟨i,t,rfl,e⟩
 |.inr x,v,h=>by
  obtain⟨t,e⟩:=Value.isStrOf_shape (x:=x) (v:=v) h;exact .inr ⟨x,t,rfl,e⟩
theorem x6c (i:Int)(t:Tok):Ae (.inl i) (.int i t)=true:=by simp[Ae,Value.isInt]
theorem q1y (x:Str)(t:Tok):Ae (.inr x) (.str x t)=true:=by simp[Ae,Value.isStrOf]
theorem j9l (a b:Int):decide ((Sum.inl a:Key)=Sum.inl b)=(a == b):=by
 by_cases e:a=b
 ·subst e;simp
 ·have h:¬(Sum.inl a:Key)=Sum.inl b:=fun q=>e (Sum.inl.inj q);rw[decide_eq_false h];exact(beq_eq_false_iff_ne.mpr e).symm
theorem j9u (a b:Str):decide ((Sum.inr a:Key)=Sum.inr b)=decide (a=b):=by
 by_cases e:a=b
 ·subst e;simp
 ·have h:¬(Sum.inr a:Key)=Sum.inr b:=fun q=>e (Sum.inr.inj q);rw[decide_eq_false h,decide_eq_false e]
theorem j9v (a:Int)(b:Str):decide ((Sum.inl a:Key)=Sum.inr b)=false:=decide_eq_false (fun q=>nomatch q)
theorem j7r (a:Str)(b:Int):decide ((Sum.inr a:Key)=Sum.inl b)=false:=decide_eq_false (fun q=>nomatch q)
def nc (prog:Program)(w:World):PySem.KeyKind prog w Key where
 is:=Ae
 hash:=keyH w
 inj:=fun v a b ha hb=>by
  rcases Tc ha with ⟨i,t,rfl,rfl⟩|⟨x,t,rfl,rfl⟩
  ·rcases Tc hb with ⟨j,u,rfl,e⟩|⟨y,u,rfl,e⟩
   ·injection e with e1 _;rw[e1]
   ·exact nomatch e
  ·rcases Tc hb with ⟨j,u,rfl,e⟩|⟨y,u,rfl,e⟩
   ·exact nomatch e
   ·injection e with e1 _;rw[e1]
 byValue:=fun k v h=>by
  rcases Tc h with ⟨i,t,rfl,rfl⟩|⟨x,t,rfl,rfl⟩<;>rfl
 pyHash:=fun hv h=>by
  rcases Tc hv with ⟨i,t,rfl,rfl⟩|⟨x,t,rfl,rfl⟩
  ·exact wpAny_pyHash_int h
  ·exact wpAny_pyHash_str h
 eqBool:=fun hu hv h=>by
  rcases Tc hu with ⟨i,t,rfl,rfl⟩|⟨x,t,rfl,rfl⟩
  ·rcases Tc hv with ⟨j,u,rfl,rfl⟩|⟨y,u,rfl,rfl⟩
   ·rw[j9l]at h;exact wpAny_eqBool_int h
   ·rw[j9v]at h;exact SeqAt.EqAt.int_str i t y u _ _ _ _ h
  ·rcases Tc hv with ⟨j,u,rfl,rfl⟩|⟨y,u,rfl,rfl⟩
   ·rw[j7r]at h;exact SeqAt.EqAt.str_int x t j u _ _ _ _ h
   ·rw[j9u]at h;exact wpAny_eqBool_str h
 «strs»:=fun k x t v h=>by
  rcases Tc h with ⟨i,u,rfl,e⟩|⟨y,u,rfl,e⟩
  ·exact nomatch e
  ·injection e with e1 _;subst e1;cases v<;>rfl
abbrev KeyO:=Option Key
noncomputable def Vj:KeyO->Value->Bool
 |none,.none=>true
 |none,_=>false
 |some k,v=>Ae k v
theorem kf {k:KeyO}{v:Value}(h:Vj k v=true):(k=none/\v=.none) \/ ∃k',k=some k'/\Ae k' v=true:=by
 cases k with
 |none=>cases v<;>first|exact .inl ⟨rfl,rfl⟩|exact absurd h (by simp[Vj])
 |some k=>exact .inr ⟨k,rfl,h⟩
theorem x9p {prog:Program}{w:World}{A:Around}{E:Value->Shared->Prop}{s:Shared}{Q:Int->Shared->Prop}(h:Q 0xFCA86420 { s with toks:=s.toks+1 }):wpAny (model prog w) A (PySem.pyHash .none) Q E s:=by
 have hT:s.TypeIs .none "NoneType":=rfl;unfold PySem.pyHash;have hv:[Value.none].any Value.onHeap=false:=rfl;refine wpAny_bind ?_;rw[cRoomFor,if_neg (by rw[hv];exact Bool.false_ne_true)];refine wpAny_pure ?_;refine wpAny_bind (wpAny_specialOf hT slot_NoneType_hash.lookup ?_);show wpAny _ _ (if (some (Value.builtin "NoneType.__hash__") == some Value.none)=true then _ else _) Q E s;rw[if_neg (by rw[beq_builtin_none];exact Bool.false_ne_true)];refine wpAny_bind (wpAny_specialOf hT slot_NoneType_hash.lookup ?_);show wpAny _ _ (callSpecialIfBoundUnlessNone? .none "__hash__" _ >>= _) Q E s;refine wpAny_bind (wpAny_callSpecialIfBoundUnlessNone?_slot hT slot_NoneType_hash
  (wpAny_call_entry slot_NoneType_hash hT PySem.F.entry_NoneType_hash
   (show wpAny _ _ (do ret (<-mkInt 0xFCA86420)) _ _ s from wpAny_ret_mkInt ?_) (PySem.F.args_NoneType_hash_1 _)))
 exact wpAny_pure h
def Be (prog:Program)(w:World):PySem.KeyKind prog w KeyO where
 is:=Vj
 hash:=fun k=>match k with|none=>0xFCA86420|some k=>keyH w k
 inj:=fun v a b ha hb=>by
  rcases kf ha with ⟨rfl,rfl⟩|⟨a',rfl,ha⟩<;>rcases kf hb with ⟨rfl,e⟩|⟨b',rfl,hb⟩
  ·rfl
  ·rcases Tc hb with ⟨_,_,_,e⟩|⟨_,_,_,e⟩<;>cases e
  ·subst e;rcases Tc ha with ⟨_,_,_,e⟩|⟨_,_,_,e⟩<;>cases e
  ·rw[(nc prog w).inj v a' b' ha hb]
 byValue:=fun k v h=>by
  rcases kf h with ⟨rfl,rfl⟩|⟨a',rfl,ha⟩
  ·rfl
  ·exact(nc prog w).byValue a' v ha
 pyHash:=fun hv h=>by
  rcases kf hv with ⟨rfl,rfl⟩|⟨a',rfl,ha⟩
  ·exact x9p h
  ·exact(nc prog w).pyHash ha h
 eqBool:=fun {A E s a b u v Q} hu hv h=>by
  rcases kf hu with ⟨rfl,rfl⟩|⟨a',rfl,ha⟩<;>rcases kf hv with ⟨rfl,rfl⟩|⟨b',rfl,hb⟩
  ·exact SeqAt.EqAt.same .none _ _ _ _ (by simpa using h)
  ·have h':Q false s:=by simpa using h
   rcases Tc hb with ⟨i,t,rfl,rfl⟩|⟨x,t,rfl,rfl⟩
   ·exact SeqAt.EqAt.none_int i t _ _ _ _ h'
   ·exact SeqAt.EqAt.none_str x t _ _ _ _ h'
  ·have h':Q false s:=by simpa using h
   rcases Tc ha with ⟨i,t,rfl,rfl⟩|⟨x,t,rfl,rfl⟩
   ·exact SeqAt.EqAt.int_none i t _ _ _ _ h'
   ·exact SeqAt.EqAt.str_none x t _ _ _ _ h'
  ·exact(nc prog w).eqBool ha hb (by simpa using h)
 «strs»:=fun k x t v h=>by
  rcases kf h with ⟨rfl,e⟩|⟨a',rfl,ha⟩
  ·cases e
  ·exact(nc prog w).strs a' x t v ha
theorem y8q (prog:Program)(w:World)(i:Int)(t:Tok):(nc prog w).is (.inl i) (.int i t)=true:=x6c i t
theorem x0l (prog:Program)(w:World)(x:Str)(t:Tok):(nc prog w).is (.inr x) (.str x t)=true:=q1y x t
inductive V where
 |non|bl (b:Bool)|int (i:Int)|str (x:Str)|byt (b:Array UInt8)|flt (b:UInt64)|ref (a:Addr)|ty (n:String)
 deriving DecidableEq
def RelV:V->Value->Prop
 |.non,u=>u=Value.none
 |.bl b,u=>u=Value.bool b
 |.int i,u=>∃t,u=Value.int i t
 |.str x,u=>∃t,u=Value.str x t
 |.byt b,u=>∃t,u=Value.bytes b t
 |.flt b,u=>∃t,u=Value.float b t
 |.ref a,u=>u=Value.ref a
 |.ty n,u=>u=Value.type n
abbrev Vals:List V->List Value->Prop:=Paired RelV
theorem Vals.length {xs:List V}{us:List Value}(r:Vals xs us):xs.length=us.length:=Paired.length r
theorem Vals.get:∀{xs:List V}{us:List Value}{i:Nat}{x:V},Vals xs us->xs[i]? = some x->∃u,us[i]? = some u/\RelV x u
 |_,_,_,_,.nil,e=>by simp at e
 |_,_,0,_,.cons r _,e=>by simp at e;subst e;exact⟨_,rfl,r⟩
 |_,_,i+1,x,.cons _ t,e=>by
  obtain⟨u,h1,h2⟩:=Vals.get (i:=i) (x:=x) t (by simpa using e);exact⟨u,by simpa using h1,h2⟩
theorem Vals.set {x:V}{u:Value}(r:RelV x u):∀{xs:List V}{us:List Value}(i:Nat),Vals xs us->Vals (xs.set i x) (us.set i u)
 |_,_,_,.nil=>.nil
 |_,_,0,.cons _ t=>.cons r t
 |_,_,i+1,.cons q t=>.cons q (Vals.set r i t)
theorem Vals.append:∀{xs ys:List V}{us ws:List Value},Vals xs us->Vals ys ws->Vals (xs++ys) (us++ws)
 |_,_,_,_,.nil,s=>s
 |_,_,_,_,.cons r t,s=>.cons r (Vals.append t s)
theorem Vals.take:∀{xs:List V}{us:List Value}(n:Nat),Vals xs us->Vals (xs.take n) (us.take n)
 |_,_,0,_=>.nil
 |_,_,_+1,.nil=>.nil
 |_,_,n+1,.cons r t=>.cons r (Vals.take n t)
theorem Vals.drop:∀{xs:List V}{us:List Value}(n:Nat),Vals xs us->Vals (xs.drop n) (us.drop n)
 |_,_,0,r=>r
 |_,_,_+1,.nil=>.nil
 |_,_,n+1,.cons _ t=>Vals.drop n t
theorem Vals.none_of:∀{xs:List V}{us:List Value}{i:Nat},Vals xs us->xs[i]? = none->us[i]? = none:=fun {xs us i} r e=>by
 have h1:=r.length;have h2:xs.length<=i:=List.getElem?_eq_none_iff.mp e;exact List.getElem?_eq_none_iff.mpr (by omega)
def RelO:Option V->Option Value->Prop
 |some v,some u=>RelV v u
 |none,none=>True
 |_,_=>False
def KV {κ:Type}:List (κ×V)->List (κ×Value)->Prop:=Paired fun(p:κ×V)(q:κ×Value)=>p.1=q.1/\RelV p.2 q.2
noncomputable def kV:Key->V
 |.inl i=>.int i
 |.inr x=>.str x
noncomputable def kO:KeyO->V
 |none=>.non
 |some k=>kV k
inductive HO where
 |lst (xs:List V)
 |tup (xs:List V)
 |dK (kvs:List (Key×V))|dT (kvs:List (List KeyO×V))
 |set (S:Int->Bool)(n:Nat)
 |ins (C dx:Addr)(fs:List (Str×V))
 |own (x:Addr)
 |xd (fs:List (Str×V))
 |met (f x:Addr)
 |rng (lo hi:Int)
 |frz (o:Obj)(u:HO)
 |lam
 |ext (φ:Heap->Prop)
abbrev Hp:=Addr->Option HO
def Wj (H:Hp):Prop:=∀p,lamP=some p->H p=some .lam
noncomputable def upd (H:Hp)(a:Addr)(o:HO):Hp:=fun b=>if b=a then some o else H b
theorem z0h {H:Hp}{a:Addr}{o:HO}:upd H a o a=some o:=by unfold upd;rw[if_pos rfl]
theorem wa {H:Hp}{a b:Addr}{o:HO}(h:b≠a):upd H a o b=H b:=by unfold upd;rw[if_neg h]
theorem j4s {H:Hp}{a:Addr}{o u:HO}:upd (upd H a o) a u=upd H a u:=by
 funext b;unfold upd;split<;>rfl
theorem oi {H:Hp}{a b:Addr}{o u:HO}(h:H a=some o)(h':H b=some u)(d:o≠u):a≠b:=by
 intro e;subst e;rw[h]at h';exact d (Option.some.inj h')
theorem qb {H:Hp}{a b:Addr}{o:HO}(h:H a=some o)(h':H b=none):a≠b:=by
 intro e;subst e;rw[h]at h';cases h'
section
variable (P:Program)(w:World)
def ObjOk (H:Hp)(h:Heap)(a:Addr):HO->Prop
 |.lst xs=>xs.length<=sizeLine/\∃(its:List Value)(n:Nat),Vals xs its/\h.get? a=some { cls:=.type "list",data:=.seq its.toArray n }
 |.tup xs=>xs.length<=sizeLine/\∃its:List Value,Vals xs its/\IsTup h a its.toArray
 |.dK kvs=>kvs.length<=sizeLine/\(a == sysModules)=false/\∃vs,KV kvs vs/\h.DictOf (nc P w) a vs
 |.dT kvs=>kvs.length<=sizeLine/\(a == sysModules)=false/\∃xs:List (List KeyO×Addr×Value),
   Paired (fun(p:List KeyO×V)(q:List KeyO×Addr×Value)=>p.1=q.1/\H q.2.1=some (.tup (p.1.map kO))/\RelV p.2 q.2.2) kvs xs /\
   ∃o es ep,h.get? a=some o/\o.ExactDict/\o.data=.dict es ep/\es.toList=xs.map (entryOfKey (tupleKind (Be P w)))/\(xs.map (·.1)).Nodup
 |.set S n=>h.SetOf (intKind P w) a S n
 |.ins C dx fs=>H dx=some (.own a)/\fs.length<=1000/\dx≠a/\h.get? a=some (instObj C dx) /\
   ∃mA,h.Ns1 dx mA/\(∀f,RelO (fs.lookup f) (mA f))/\PySem.Within mA (fs.map (·.1))
 |.own _=>∃o,h.get? a=some o
 |.xd fs=>∃mA,h.Ns1 a mA/\∀f,RelO (fs.lookup f) (mA f)
 |.rng lo hi=>∃t u v,h.get? a=some { cls:=.type "range",data:=.fields #[.int lo t,.int hi u,.int 1 v] }
 |.frz o u=>h.get? a=some o/\ObjOk H h a u
 |.lam=>∃ps:Array Value,h.get? a=some { cls:=.none,data:=.fields ps }/\(ps = #[] \/ ∃c',ps = #[rawInt lamL,rawInt lamC,.ref c']/\H c' = some (.own a)/\h.CodeRec (.ref c') lamQ)
 |.met f x=>h.get? a=some (methodObj (.ref f) (.ref x))
 |.ext φ=>φ h/\(∃o,h.get? a=some o)/\∀h1 h2:Heap,φ h1->(∀o,h1.get? a=some o->h2.get? a=some o)->φ h2
def HOk (H:Hp)(h:Heap):Prop:=∀a o,H a=some o->ObjOk P w H h a o
end
section
variable {P:Program}{w:World}{H H':Hp}{h h':Heap}{a:Addr}{o:HO}
theorem ObjOk.lt (x:ObjOk P w H h a o):a<h.objs.size:=by
 cases o with
 |lst xs=>obtain⟨_,_,_,_,e⟩:=x;exact lt_size e
 |tup xs=>obtain⟨_,_,_,p⟩:=x;exact p.lt
 |dK kvs=>obtain⟨_,_,_,_,o,_,_,e,_⟩:=x;exact lt_size e
 |dT kvs=>obtain⟨_,_,_,_,o,_,_,e,_⟩:=x;exact lt_size e
 |set S n=>obtain⟨o,_,_,_,e,_⟩:=x;exact lt_size e
 |ins C dx fs=>obtain⟨_,_,_,e,_⟩:=x;exact lt_size e
 |own y=>obtain⟨_,e⟩:=x;exact lt_size e
 |xd fs=>obtain⟨_,⟨_,_,_,e,_⟩,_⟩:=x;exact lt_size e
 |rng lo hi=>obtain⟨_,_,_,e⟩:=x;exact lt_size e
 |frz ob u=>obtain⟨e,_⟩:=x;exact lt_size e
 |lam=>obtain⟨_,e,_⟩:=x;exact lt_size e
 |met f y=>exact lt_size (show h.get? a=some _ from x)
 |ext φ=>obtain⟨_,⟨_,e⟩,_⟩:=x;exact lt_size e
theorem Paired.mapP {α β:Type}{F G:α->β->Prop}:∀{l₁:List α}{l₂:List β},Paired F l₁ l₂->(∀a b,F a b->G a b)->Paired G l₁ l₂
 |_,_,.nil,_=>.nil
 |_,_,.cons r t,f=>.cons (f _ _ r) (Paired.mapP t f)
theorem ObjOk.stay (x:ObjOk P w H h a o)(k:∀b u,(b=a\/H b=some (.own a))->h.get? b=some u->h'.get? b=some u)
  (ho:∀b,H b=some (.own a)->H' b=some (.own a))(ht:∀b xs,H b=some (.tup xs)->H' b=some (.tup xs)):ObjOk P w H' h' a o:=by
 induction o with
 |lst xs=>obtain⟨z,its,n,r,e⟩:=x;exact⟨z,its,n,r,k _ _ (.inl rfl) e⟩
 |tup xs=>obtain⟨z,its,r,ob,e,c⟩:=x;exact⟨z,its,r,ob,k _ _ (.inl rfl) e,c⟩
 |dK kvs=>obtain⟨z,y,vs,r,ob,es,ep,e,c⟩:=x;exact⟨z,y,vs,r,ob,es,ep,k _ _ (.inl rfl) e,c⟩
 |dT kvs =>
  obtain⟨z,y,xs,r,ob,es,ep,e,c⟩:=x;exact⟨z,y,xs,Paired.mapP r fun p q z=>⟨z.1,ht _ _ z.2.1,z.2.2⟩,ob,es,ep,k _ _ (.inl rfl) e,c⟩
 |set S n=>obtain⟨ob,es,ep,t,e,c⟩:=x;exact⟨ob,es,ep,t,k _ _ (.inl rfl) e,c⟩
 |ins C dx fs =>
  obtain⟨d,z,ne,e,mA,⟨od,es,ep,e2,c⟩,r⟩:=x;exact⟨ho _ d,z,ne,k _ _ (.inl rfl) e,mA,⟨od,es,ep,k _ _ (.inr d) e2,c⟩,r⟩
 |own y=>obtain⟨ob,e⟩:=x;exact⟨ob,k _ _ (.inl rfl) e⟩
 |xd fs=>obtain⟨mA,⟨od,es,ep,e,c⟩,r⟩:=x;exact⟨mA,⟨od,es,ep,k _ _ (.inl rfl) e,c⟩,r⟩
 |rng lo hi=>obtain⟨t,u,v,e⟩:=x;exact⟨t,u,v,k _ _ (.inl rfl) e⟩
 |frz ob u ih=>obtain⟨e,q⟩:=x;exact⟨k _ _ (.inl rfl) e,ih q⟩
 |lam =>
  obtain⟨ps,e,r⟩:=x;refine⟨ps,k a _ (.inl rfl) e,r.imp id fun zq=>?_⟩;obtain⟨c',e1,e2,c,o,vs,t,q,e3,e4⟩:=zq;cases q;exact⟨c',e1,ho _ e2,c',o,vs,t,rfl,k _ _ (.inr e2) e3,e4⟩
 |met f y =>
  have e:h.get? a=some (methodObj (.ref f) (.ref y)):=x;show h'.get? a=some (methodObj (.ref f) (.ref y));exact k a _ (.inl rfl) e
 |ext φ=>obtain⟨p,⟨o,e⟩,st⟩:=x;exact⟨st _ _ p fun o q=>k _ _ (.inl rfl) q,⟨o,k _ _ (.inl rfl) e⟩,st⟩
theorem HOk.lt (x:HOk P w H h)(e:H a=some o):a<h.objs.size:=(x a o e).lt
theorem HOk.fresh (x:HOk P w H h)(e:h.objs.size<=a):H a=none:=by
 cases q:H a with
 |none=>rfl
 |some u=>exact absurd (lt_of_lt_of_le (x.lt q) e) (lt_irrefl _)
theorem HOk.kept (x:HOk P w H h)(k:∀b u,h.get? b=some u->h'.get? b=some u):HOk P w H h':=fun a o e =>
 (x a o e).stay (fun b u _ q=>k b u q) (fun _ q=>q) fun _ _ q=>q
theorem HOk.laid (x:HOk P w H h)(k:∀b u,h.get? b=some u->h'.get? b=some u)(hp:h.objs.size<=a)(new:ObjOk P w (upd H a o) h' a o):HOk P w (upd H a o) h':=fun b u e=>by
 have hn:=x.fresh hp;by_cases hb:b=a
 ·subst hb;rw[z0h]at e;cases e;exact new
 ·rw[wa hb]at e;exact(x b u e).stay (fun c v _ q=>k c v q) (fun c q=>by rw[wa (qb q hn)];exact q) fun c xs q=>by rw[wa (qb q hn)];exact q
def Rd (H:Hp)(a:Addr)(u:HO):Prop:=H a=some u \/ ∃o,H a=some (.frz o u)
theorem Rd.ok {P:Program}{w:World}{H:Hp}{h:Heap}{a:Addr}{u:HO}(r:Rd H a u)(x:HOk P w H h):ObjOk P w H h a u:=by
 rcases r with r|⟨o,r⟩
 ·exact x a u r
 ·obtain⟨_,q⟩:=x a _ r;exact q
def Mut:Option HO->Prop
 |some (.lst _)=>True
 |some (.dK _)=>True
 |some (.dT _)=>True
 |some (.set _ _)=>True
 |some (.ins _ _ _)=>True
 |some (.ext _)=>True
 |_=>False
variable {x e:Addr}{o':HO}
theorem HOk.write (ok:HOk P w H h)(mu:Mut (H x))(he:e=x\/H e=some (.own x))(k:∀b u,b≠e->h.get? b=some u->h'.get? b=some u)(heo:∃u,h'.get? e=some u)
  (new:ObjOk P w (upd H x o') h' x o'):HOk P w (upd H x o') h':=fun b u q=>by
 have nown:∀c y,H c=some (.own y)->c≠x:=fun c y r z=>by subst z;rw[r]at mu;exact mu
 have ntup:∀c xs,H c=some (.tup xs)->c≠x:=fun c xs r z=>by subst z;rw[r]at mu;exact mu
 by_cases hb:b=x
 ·subst hb;rw[z0h]at q;cases q;exact new
 ·rw[wa hb]at q;by_cases hbe:b=e
  ·have q':H b=some (.own x):=by
    rcases he with z|z
    ·exact absurd (hbe.trans z) hb
    ·rw[hbe];exact z
   rw[q]at q';cases q';obtain⟨v,hv⟩:=heo;exact⟨v,by rw[hbe];exact hv⟩
  ·refine(ok b u q).stay (fun c v hc r=>k c v ?_ r) (fun c r=>by rw[wa (nown c b r)];exact r) fun c xs r=>by rw[wa (ntup c xs r)];exact r
   rcases hc with rfl|hc
   ·exact hbe
   ·rintro rfl;rcases he with z|z
    ·exact nown c b hc z
    ·rw[hc]at z;cases z;exact hb rfl
structure Un (fs ex:List Addr)(H H':Hp)(h h':Heap):Prop where
 keep:∀b o,h.get? b=some o->H b=none->b∉fs->b∉ex->h'.get? b=some o
 slot:∀b o,h.get? b=some o->H b=none->b∈fs->b∉ex->∃sl,h'.get? b=some { o with slots:=sl }
 free:∀b o,h.get? b=some o->H b=none->b∉ex->H' b=none
 there:∀b o,h.get? b=some o->b∉ex->∃o',h'.get? b=some o'
 tups:∀b xs,H b=some (.tup xs)->H' b=some (.tup xs)
 frzs:∀b o u,H b=some (.frz o u)->H' b=some (.frz o u)
 tbls:∀b,H b=some .lam->H' b=some .lam
variable {fs fs' ex ex':List Addr}{H1 H2:Hp}{h1 h2:Heap}
theorem Un.any (u:Un fs ex H H1 h h1){b:Addr}{ob:Obj}(q:h.get? b=some ob)(n:H b=none)(hx:b∉ex):∃sl,h1.get? b=some { ob with slots:=sl }:=by
 by_cases hb:b∈fs
 ·exact u.slot b ob q n hb hx
 ·exact⟨ob.slots,u.keep b ob q n hb hx⟩
theorem Un.kept (k:∀b u,h.get? b=some u->h'.get? b=some u):Un fs ex H H h h' :=
 ⟨fun b ob q _ _ _=>k b ob q,fun b ob q _ _ _=>⟨ob.slots,k b ob q⟩,fun _ _ _ n _=>n,fun b ob q _=>⟨ob,k b ob q⟩,fun _ _ q=>q,fun _ _ _ q=>q,fun _ q=>q⟩
theorem Un.refl:Un fs ex H H h h:=Un.kept fun _ _ q=>q
theorem Un.laid (k:∀b u,h.get? b=some u->h'.get? b=some u)(hp:h.objs.size<=a)(hn:H a=none):Un fs ex H (upd H a o) h h' where
 keep:=fun b u q _ _ _=>k b u q
 slot:=fun b u q _ _ _=>⟨u.slots,k b u q⟩
 free:=fun b u q n _=>by rw[wa (ne_of_lt (lt_of_lt_of_le (lt_size q) hp))];exact n
 there:=fun b u q _=>⟨u,k b u q⟩
 tups:=fun b xs q=>by rw[wa (qb q hn)];exact q
 frzs:=fun b u xs q=>by rw[wa (qb q hn)];exact q
 tbls:=fun b q=>by rw[wa (qb q hn)];exact q
theorem Un.write (mu:Mut (H x))(he:e=x\/H e=some (.own x))(k:∀b u,b≠e->h.get? b=some u->h'.get? b=some u)(heo:∃u,h'.get? e=some u):Un fs ex H (upd H x o) h h':=by
 have hx:∀b,H b=none->b≠x:=fun b n z=>by subst z;rw[n]at mu;exact mu
 have hb:∀b,H b=none->b≠e:=fun b n z=>by
  subst z;rcases he with r|r
  ·exact hx b n r
  ·rw[n]at r;cases r
 have hm:∀b u,H b=some u->¬Mut (some u)->b≠x:=fun b u q nm z=>by subst z;rw[q]at mu;exact nm mu
 refine⟨fun b u q n _ _=>k b u (hb b n) q,fun b u q n _ _=>⟨u.slots,k b u (hb b n) q⟩,fun b u q n _=>by rw[wa (hx b n)];exact n,fun b u q _=>?_,
  fun b xs q=>by rw[wa (hm b _ q fun z=>z)];exact q,fun b u xs q=>by rw[wa (hm b _ q fun z=>z)];exact q,fun b q=>by rw[wa (hm b _ q fun z=>z)];exact q⟩
 by_cases hbe:b=e
 ·subst hbe;exact heo
 ·exact⟨u,k b u hbe q⟩
noncomputable def trk (h:Heap)(H:Hp):List Addr:=(range h.objs.size).filter fun a=>(H a).isSome
def hidT (h:Heap)(H:Hp):Heap:=W.hideAll h (trk h H)
theorem x6s (h:Heap)(H:Hp):(hidT h H).objs.size=h.objs.size:=W.hideAll_size _ _
theorem q3q {h:Heap}{H:Hp}{b:Addr}{o:Obj}(e:h.get? b=some o)(n:H b=none):(hidT h H).get? b=some o :=
 W.hideAll_get _ e fun hm=>by
  have q:(H b).isSome=true:=(mem_filter.mp hm).2;rw[n]at q;simp at q
theorem q9n {h:Heap}{H:Hp}{b:Addr}{o:Obj}(e:(hidT h H).get? b=some o):h.get? b=some o/\H b=none:=by
 have e':h.get? b=some o:=W.of_hideAll (trk h H) e;refine⟨e',?_⟩;cases q:H b with
 |none=>rfl
 |some x =>
  have hm:b∈trk h H:=mem_filter.mpr ⟨mem_range.mpr (lt_size e'),by simp[q]⟩;have z:(hidT h H).get? b=none:=W.hideAll_none (trk h H) hm;rw[z]at e;cases e
noncomputable def j3c (g h:Heap)(L:Addr):List (Addr×Obj):=(range h.objs.size).filterMap fun a=>if a=L\/(g.get? a).isSome=true then none else(h.get? a).map fun o=>(a,o)
noncomputable def rest (g h:Heap)(L d:Addr):List (Addr×Obj):=(j3c g h L).filter fun p=>decide (p.1≠d)
structure Mod (K:W.Frag)(mg:Str->Option Value)(base:Heap):Prop where
 kin:K.In base
 glob:base.Ns mainGlobals mg
 blt:∃mb,base.Ns builtinsNs mb/\∀x:Str,x ≠ "__name__"->mb x=bootBuiltins x
 nolimit:base.NoLimit
 bmain:∃bm ob,mg "__builtins__" = some (.ref bm)/\bm≠builtinsNs/\base.get? bm=some ob/\ob.cls=.type "module"/\ob.dict=some builtinsNs/\ob.data=.plain
end
section
structure Cx where
 prog:Program
 w:World
 K:W.Frag
 mg:Str->Option Value
 base:Heap
 A:Around
 N:List Str
 s₀:Shared
 H₀:Hp
 env:Env
 outer:List Env
 stack:List Env
 ex:List Addr
 fn:Str->Bool
 calm:Bool
 pn:List (Addr×Obj)
 xe:Value->Shared->Prop
def frs (l:List Env):List Addr:=l.filterMap (·.frame)
abbrev Cx.fs (X:Cx):List Addr:=frs X.outer
def Vis (sc:Scope)(x:Str):Prop:=sc.names.lookup x=some .local\/sc.names.lookup x=some .cell\/sc.names.lookup x=some .free
def Loc (sc:Scope)(x:Str):Prop:=sc.names.lookup x=some .local\/sc.names.lookup x=some .cell
def Look (env:Env)(h:Heap)(m:Str->Option Value)(x:Str)(u:Value):Prop :=
 (env.kindOf x=some .local/\m x=some u)\/((env.kindOf x=some .cell\/env.kindOf x=some .free)/\∃c,env.cells.lookup x=some c/\h.IsCell c (some u))
structure Cx.Ok (X:Cx):Prop where
 mod:Mod X.K X.mg X.base
 kind:X.env.scope.kind=.function
 glob:X.env.globals=mainGlobals
 blt:X.env.builtins=builtinsNs
 above:X.s₀.heap.objs.size<=X.env.locals
 inj:∀x y c,X.env.cells.lookup x=some c->X.env.cells.lookup y=some c->x=y
 has:∀x,(X.env.kindOf x=some .cell\/X.env.kindOf x=some .free)->∃c,X.env.cells.lookup x=some c
 cab:∀x c,X.fn x=true->X.env.cells.lookup x=some c->X.s₀.heap.objs.size<=c
 hd:X.calm=true->X.A.handled=none
 frames:X.A.frames=some X.stack
 stk:X.stack=X.outer\/(X.stack=X.env::X.outer/\X.env.frame=some X.env.locals)
 exf:∀b∈X.ex,b≠X.env.locals/\∀x c,X.env.cells.lookup x=some c->c≠b
 bs:∀b o,X.base.get? b=some o->X.s₀.heap.get? b=some o/\X.H₀ b=none
 bsz:X.base.objs.size<=X.s₀.heap.objs.size
 noex:∀b o,X.base.get? b=some o->b∉X.ex
 exfs:∀b∈X.ex,b∉X.fs
 funs:X.s₀.heap.FunFrames X.base X.outer
 frf:∀b∈X.fs,X.H₀ b=none
 lam:Wj X.H₀
structure Inv (X:Cx)(pins:List (Addr×Obj))(σ:List (Option V))(H:Hp)(s:Shared):Prop where
 ok:X.Ok
 os:s.os=X.s₀.os
 bare:AllBare s.gens
 base:Un X.fs X.ex X.H₀ H X.s₀.heap s.heap
 loc:∃m,s.heap.Ns X.env.locals m/\∀(i:Nat)(x:Str)(v:V),X.N[i]? = some x->σ[i]? = some (some v)->Vis X.env.scope x->∃u,RelV v u/\Look X.env s.heap m x u
 cell:∀x c,X.env.cells.lookup x=some c->∃v,s.heap.IsCell c v
 free:H X.env.locals=none
 freeC:∀x c,X.env.cells.lookup x=some c->H c=none
 pin:∀p∈X.pn++pins,s.heap.get? p.1=some p.2/\H p.1=none/\p.1≠X.env.locals/\p.1∉X.fs/\∀v,p.2.data≠.cell v
 hok:HOk X.prog X.w H s.heap
 len:σ.length=X.N.length
 pos:tk0<=s.toks
variable {X:Cx}{pins:List (Addr×Obj)}{σ:List (Option V)}{H H':Hp}{s:Shared}{h':Heap}
theorem Cx.Ok.nofr (ok:X.Ok){b:Addr}{o:Obj}(e:X.base.get? b=some o):b∉X.fs:=fun hb=>by
 have:=(ok.funs.mem hb).1;rw[e]at this;cases this
theorem Inv.bs (I:Inv X pins σ H s):∀b o,X.base.get? b=some o->s.heap.get? b=some o/\H b=none:=fun b o e =>
 ⟨I.base.keep b o (I.ok.bs b o e).1 (I.ok.bs b o e).2 (I.ok.nofr e) (I.ok.noex b o e),I.base.free b o (I.ok.bs b o e).1 (I.ok.bs b o e).2 (I.ok.noex b o e)⟩
theorem Inv.bk (I:Inv X pins σ H s):∀b o,X.base.get? b=some o->s.heap.get? b=some o:=fun b o e=>(I.bs b o e).1
theorem Inv.mod (I:Inv X pins σ H s):Mod X.K X.mg X.base:=I.ok.mod
theorem Inv.kIn (I:Inv X pins σ H s):X.K.In s.heap:=I.ok.mod.kin.keeps I.bk
theorem Inv.lt (I:Inv X pins σ H s):X.env.locals<s.heap.objs.size:=let ⟨_,hn,_⟩:=I.loc;hn.lt
theorem Inv.sz (I:Inv X pins σ H s):X.s₀.heap.objs.size<=s.heap.objs.size:=le_trans I.ok.above (le_of_lt I.lt)
theorem Inv.nofs (I:Inv X pins σ H s){a:Addr}(h:s.heap.objs.size<=a):a∉X.fs:=fun hb=>by
 obtain⟨_,o,ho,_⟩:=I.ok.funs.mem hb;exact absurd (lt_of_lt_of_le (lt_size ho) (le_trans I.sz h)) (lt_irrefl _)
theorem Inv.cne (I:Inv X pins σ H s):∀x c,X.env.cells.lookup x=some c->c≠X.env.locals:=fun x c e z=>by
 obtain⟨v,o,ho,hd⟩:=I.cell x c e;obtain⟨m,⟨o',es,ep,ho',hd',_⟩,_⟩:=I.loc;rw[z,ho']at ho;cases ho;rw[hd']at hd;cases hd
theorem Inv.funs (I:Inv X pins σ H s):s.heap.FunFrames X.base X.outer:=by
 have all:∀(l:List Env),(∀b∈frs l,b∈X.fs)->X.s₀.heap.FunFrames X.base l->s.heap.FunFrames X.base l:=by
  intro l;induction l with
  |nil=>intro _ _;trivial
  |cons env r ih =>
   intro hs hl;obtain⟨hk,⟨L,o,hf,hn,ho,hd⟩,hr⟩:=hl;have hL:L∈X.fs:=hs L (by unfold frs;rw[List.filterMap_cons,hf];exact mem_cons_self);obtain⟨sl,e⟩:=I.base.slot L o ho (I.ok.frf L hL) hL fun z=>I.ok.exfs L z hL;exact⟨hk,⟨L,_,hf,hn,e,hd⟩,ih (fun b hb=>hs b (by unfold frs;rw[List.filterMap_cons,hf];exact mem_cons_of_mem _ hb)) hr⟩
 exact all X.outer (fun _ hb=>hb) I.ok.funs
theorem Inv.stack (I:Inv X pins σ H s):s.heap.FunFrames X.base X.stack:=by
 rcases I.ok.stk with e|⟨e,hf⟩
 ·rw[e];exact I.funs
 ·rw[e];obtain⟨m,hn,_⟩:=I.loc;refine .cons (by rw[I.ok.kind];decide) hf hn ?_ I.funs;exact Heap.get?_none_of_le (le_trans I.ok.bsz I.ok.above)
theorem Inv.stkSub (I:Inv X pins σ H s):∀b∈frs X.stack,b∈X.env.locals::X.fs:=fun b hb=>by
 rcases I.ok.stk with e|⟨e,hf⟩
 ·rw[e]at hb;exact mem_cons_of_mem _ hb
 ·rw[e]at hb;unfold frs at hb;rw[List.filterMap_cons,hf]at hb;exact hb
theorem Inv.stkFree (I:Inv X pins σ H s):∀b∈frs X.stack,H b=none:=fun b hb=>by
 rcases mem_cons.mp (I.stkSub b hb) with e|hb
 ·rw[e];exact I.free
 ·obtain⟨_,o,ho,_⟩:=I.ok.funs.mem hb;exact I.base.free b o ho (I.ok.frf b hb) fun z=>I.ok.exfs b z hb
theorem Inv.step {g':Array GenState}{t':Nat}{d':Drawn}{ch:List Addr}(I:Inv X pins σ H s)
  (hch:∀b∈ch,(b∈X.ex\/X.s₀.heap.objs.size<=b)/\b≠X.env.locals/\(∀x c,X.env.cells.lookup x=some c->c≠b)/\∀p∈X.pn++pins,p.1≠b)
  (keep:∀b o,b≠X.env.locals->b∉X.fs->b∉ch->s.heap.get? b=some o->H b=none->h'.get? b=some o)
  (slot:∀b o,b≠X.env.locals->b∈X.fs->b∉ch->s.heap.get? b=some o->H b=none->∃sl,h'.get? b=some { o with slots:=sl })(free:∀b o,b∉ch->s.heap.get? b=some o->H b=none->H' b=none)
  (there:∀b o,b∉ch->s.heap.get? b=some o->∃o',h'.get? b=some o')
  (tups:∀b xs,H b=some (.tup xs)->H' b=some (.tup xs))(frzs:∀b o u,H b=some (.frz o u)->H' b=some (.frz o u))(tbls:∀b,H b=some .lam->H' b=some .lam)
  (ns:∀m,s.heap.Ns X.env.locals m->h'.Ns X.env.locals m)(hok:HOk X.prog X.w H' h')(hg:AllBare g')(hk:tk0<=t':=by first|assumption|exact Inv.pos (by assumption)|exact le_trans (Inv.pos (by assumption)) (le_add_right _ _)|exact le_trans (le_trans (Inv.pos (by assumption)) (le_add_right _ _)) (le_add_right _ _)) :
  Inv X pins σ H' { s with heap:=h',gens:=g',drawn:=d',toks:=t' }:=by
 have neL:∀b o,X.s₀.heap.get? b=some o->b≠X.env.locals:=fun b o e=>ne_of_lt (lt_of_lt_of_le (lt_size e) I.ok.above);have neC:∀b o,X.s₀.heap.get? b=some o->b∉X.ex->b∉ch:=fun b o e hx hb=>by
  rcases(hch b hb).1 with z|z
  ·exact hx z
  ·exact absurd (lt_of_lt_of_le (lt_size e) z) (lt_irrefl _)
 have cellK:∀x c,X.env.cells.lookup x=some c->∀v,s.heap.IsCell c v->h'.IsCell c v:=fun x c e v ⟨o,ho,hd⟩=>by
  have nch:c∉ch:=fun z=>(hch c z).2.2.1 x c e rfl;by_cases hc:c∈X.fs
  ·obtain⟨sl,q⟩:=slot c o (I.cne x c e) hc nch ho (I.freeC x c e);exact⟨_,q,hd⟩
  ·exact⟨o,keep c o (I.cne x c e) hc nch ho (I.freeC x c e),hd⟩
 refine⟨I.ok,I.os,hg,⟨fun b o e n hb hx=>?_,fun b o e n hb hx=>?_,fun b o e n hx=>?_,fun b o e hx=>?_,fun b xs e=>tups b xs (I.base.tups b xs e),fun b o xs e=>frzs b o xs (I.base.frzs b o xs e),fun b e=>tbls b (I.base.tbls b e)⟩,?_,fun x c e=>?_,?_,fun x c e=>?_,fun p hp=>?_,hok,I.len,hk⟩
 ·exact keep b o (neL b o e) hb (neC b o e hx) (I.base.keep b o e n hb hx) (I.base.free b o e n hx)
 ·obtain⟨sl,e1⟩:=I.base.slot b o e n hb hx;obtain⟨sl',e2⟩:=slot b _ (neL b o e) hb (neC b o e hx) e1 (I.base.free b o e n hx);exact⟨sl',e2⟩
 ·obtain⟨o',e1⟩:=I.base.there b o e hx;exact free b o' (neC b o e hx) e1 (I.base.free b o e n hx)
 ·obtain⟨o',e1⟩:=I.base.there b o e hx;exact there b o' (neC b o e hx) e1
 ·obtain⟨m,hn,hl⟩:=I.loc;refine⟨m,ns m hn,fun i x v e1 e2 e3=>?_⟩;obtain⟨u,r,l⟩:=hl i x v e1 e2 e3;refine⟨u,r,?_⟩;rcases l with l|⟨k,c,e,z⟩
  ·exact .inl l
  ·exact .inr ⟨k,c,e,cellK x c e _ z⟩
 ·obtain⟨v,z⟩:=I.cell x c e;exact⟨v,cellK x c e v z⟩
 ·obtain⟨m,⟨o,_,_,ho,_⟩,_⟩:=I.loc;exact free _ o (fun z=>(hch _ z).2.1 rfl) ho I.free
 ·obtain⟨v,o,ho,hd⟩:=I.cell x c e;exact free c o (fun z=>(hch c z).2.2.1 x c e rfl) ho (I.freeC x c e)
 ·obtain⟨e,n,ne,nf,d⟩:=I.pin p hp;have nch:p.1∉ch:=fun z=>(hch p.1 z).2.2.2 p hp rfl;exact⟨keep p.1 p.2 ne nf nch e n,free p.1 p.2 nch e n,ne,nf,d⟩
theorem Inv.un {t':Nat}(I:Inv X pins σ H s)(u:Un X.fs [] H H' s.heap h')(hok:HOk X.prog X.w H' h')(hk:tk0<=t':=by first|assumption|exact Inv.pos (by assumption)|exact le_trans (Inv.pos (by assumption)) (le_add_right _ _)|exact le_trans (le_trans (Inv.pos (by assumption)) (le_add_right _ _)) (le_add_right _ _)):Inv X pins σ H' { s with heap:=h',toks:=t' }:=by
 obtain⟨m,⟨o,es,ep,ho,r⟩,_⟩:=id I.loc;obtain⟨sl,hL⟩:=u.any ho I.free (by simp);exact I.step (g':=s.gens) (d':=s.drawn) (ch:=[]) (fun _ z=>nomatch z) (fun b o _ hb _ e n=>u.keep b o e n hb (by simp)) (fun b o _ hb _ e n=>u.slot b o e n hb (by simp)) (fun b o _ e n=>u.free b o e n (by simp)) (fun b o _ e=>u.there b o e (by simp)) u.tups u.frzs u.tbls (fun m' hm=>by
  obtain⟨o',es',ep',ho',r'⟩:=hm;rw[ho]at ho';cases ho';exact⟨_,es',ep',hL,r'⟩) hok I.bare
theorem Inv.call {g':Array GenState}{t':Nat}{d':Drawn}{ch:List Addr}(I:Inv X pins σ H s)(u:Un (frs X.stack) ch H H' s.heap h')(hok:HOk X.prog X.w H' h')(hg:AllBare g')
  (hch:∀b∈ch,(b∈X.ex\/X.s₀.heap.objs.size<=b)/\b≠X.env.locals/\(∀x c,X.env.cells.lookup x=some c->c≠b)/\∀p∈X.pn++pins,p.1≠b)(hk:tk0<=t':=by first|assumption|exact Inv.pos (by assumption)|exact le_trans (Inv.pos (by assumption)) (le_add_right _ _)|exact le_trans (le_trans (Inv.pos (by assumption)) (le_add_right _ _)) (le_add_right _ _)) :
  Inv X pins σ H' { s with heap:=h',gens:=g',drawn:=d',toks:=t' }:=by
 obtain⟨m,⟨o,es,ep,ho,r⟩,_⟩:=id I.loc;obtain⟨sl,hL⟩:=u.any ho I.free fun z=>(hch _ z).2.1 rfl;exact I.step (ch:=ch) hch (fun b o hL hb hc e n=>u.keep b o e n (fun z=>(mem_cons.mp (I.stkSub b z)).elim hL hb) hc) (fun b o _ _ hc e n=>u.any e n hc) (fun b o hc e n=>u.free b o e n hc) (fun b o hc e=>u.there b o e hc) u.tups u.frzs u.tbls (fun m' hm=>by
  obtain⟨o',es',ep',ho',r'⟩:=hm;rw[ho]at ho';cases ho';exact⟨_,es',ep',hL,r'⟩) hok hg
theorem Inv.turned {t':Nat}{it:Addr}(I:Inv X pins σ H s)(k:∀b o,b≠it->s.heap.get? b=some o->h'.get? b=some o)(hn:H it=none)(hL:it≠X.env.locals)
  (h1:it∈X.ex\/X.s₀.heap.objs.size<=it)(h2:∀x c,X.env.cells.lookup x=some c->c≠it)(h3:∀p∈X.pn++pins,p.1≠it)(hk:tk0<=t':=by first|assumption|exact Inv.pos (by assumption)|exact le_trans (Inv.pos (by assumption)) (le_add_right _ _)|exact le_trans (le_trans (Inv.pos (by assumption)) (le_add_right _ _)) (le_add_right _ _)):Inv X pins σ H { s with heap:=h',toks:=t' }:=by
 have nit:∀b u,H b=some u->b≠it:=fun b u e z=>by rw[z,hn]at e;cases e
 refine I.step (g':=s.gens) (d':=s.drawn) (ch:=[it]) (fun b hb=>?_) (fun b o _ _ hc e _=>k b o (fun z=>hc (by simp[z])) e) (fun b o _ _ hc e _=>⟨o.slots,k b o (fun z=>hc (by simp[z])) e⟩) (fun _ _ _ _ n=>n)
  (fun b o hc e=>⟨o,k b o (fun z=>hc (by simp[z])) e⟩) (fun _ _ e=>e) (fun _ _ _ e=>e) (fun b e=>e) (fun m hm=>?_) (fun b u e=>?_) I.bare
 ·have e:b=it:=by simpa using hb
  subst e;exact⟨h1,hL,h2,h3⟩
 ·obtain⟨o,es,ep,ho,r⟩:=hm;exact⟨o,es,ep,k _ o (Ne.symm hL) ho,r⟩
 ·refine(I.hok b u e).stay (fun c v hc q=>k c v ?_ q) (fun _ q=>q) fun _ _ q=>q;rcases hc with z|z
  ·rw[z];exact nit b u e
  ·exact nit c _ z
theorem Inv.tok (I:Inv X pins σ H s)(t:Nat)(hk:tk0<=t:=by first|assumption|exact Inv.pos (by assumption)|exact le_trans (Inv.pos (by assumption)) (le_add_right _ _)|exact le_trans (le_trans (Inv.pos (by assumption)) (le_add_right _ _)) (le_add_right _ _)):Inv X pins σ H { s with toks:=t }:=I.un (h':=s.heap) (t':=t) Un.refl I.hok
theorem Inv.kept {t':Nat}(I:Inv X pins σ H s)(k:∀b u,s.heap.get? b=some u->h'.get? b=some u)(hk:tk0<=t':=by first|assumption|exact Inv.pos (by assumption)|exact le_trans (Inv.pos (by assumption)) (le_add_right _ _)|exact le_trans (le_trans (Inv.pos (by assumption)) (le_add_right _ _)) (le_add_right _ _)):Inv X pins σ H { s with heap:=h',toks:=t' }:=I.un (Un.kept k) (I.hok.kept k)
theorem Inv.laid {a:Addr}{o:HO}{t':Nat}(I:Inv X pins σ H s)(k:∀b u,s.heap.get? b=some u->h'.get? b=some u)(hp:s.heap.objs.size<=a)(new:ObjOk X.prog X.w (upd H a o) h' a o)(hk:tk0<=t':=by first|assumption|exact Inv.pos (by assumption)|exact le_trans (Inv.pos (by assumption)) (le_add_right _ _)|exact le_trans (le_trans (Inv.pos (by assumption)) (le_add_right _ _)) (le_add_right _ _)) :
  Inv X pins σ (upd H a o) { s with heap:=h',toks:=t' }:=I.un (Un.laid k hp (I.hok.fresh hp)) (I.hok.laid k hp new)
theorem Inv.write {x e:Addr}{o:HO}{t':Nat}(I:Inv X pins σ H s)(mu:Mut (H x))(he:e=x\/H e=some (.own x))(k:∀b u,b≠e->s.heap.get? b=some u->h'.get? b=some u)(heo:∃u,h'.get? e=some u)
  (new:ObjOk X.prog X.w (upd H x o) h' x o)(hk:tk0<=t':=by first|assumption|exact Inv.pos (by assumption)|exact le_trans (Inv.pos (by assumption)) (le_add_right _ _)|exact le_trans (le_trans (Inv.pos (by assumption)) (le_add_right _ _)) (le_add_right _ _)):Inv X pins σ (upd H x o) { s with heap:=h',toks:=t' }:=I.un (Un.write mu he k heo) (I.hok.write mu he k heo new)
theorem Inv.pins_of {pins':List (Addr×Obj)}(I:Inv X pins σ H s)(h:∀p∈pins',s.heap.get? p.1=some p.2/\H p.1=none/\p.1≠X.env.locals/\p.1∉X.fs/\∀v,p.2.data≠.cell v):Inv X pins' σ H s :=
 ⟨I.ok,I.os,I.bare,I.base,I.loc,I.cell,I.free,I.freeC,fun p hp=>(mem_append.mp hp).elim (fun z=>I.pin p (mem_append_left _ z)) (h p),I.hok,I.len,I.pos⟩
theorem Xj {N:List Str}(hN:N.Nodup){i j:Nat}{x:Str}(a:N[i]? = some x)(b:N[j]? = some x):i=j:=by
 obtain⟨h1,e1⟩:=List.getElem?_eq_some_iff.mp a;obtain⟨h2,e2⟩:=List.getElem?_eq_some_iff.mp b;exact(List.getElem_inj hN).mp (e1.trans e2.symm)
theorem Yn {M:Model}{A:Around}{E:Value->Shared->Prop}{i:Nat}{x:Str}{v:V}{u:Value}{Q:Unit->Shared->Prop}(I:Inv X pins σ H s)(hN:X.N.Nodup)(hi:X.N[i]? = some x)(hx:Loc X.env.scope x)(r:RelV v u)
  (h:∀s',Inv X pins (σ.set i (some v)) H s'->(∃a,Heap.SameBut a s.heap s'.heap/\(a=X.env.locals\/X.env.cells.lookup x=some a))->Q () s')(hf:X.fn x=true\/X.env.scope.names.lookup x=some .local:=by first|exact .inl rfl|exact .inr rfl|assumption):wpAny M A (storeName X.env x u) Q E s:=by
 obtain⟨m,hn,hl⟩:=id I.loc;have hcls:(X.env.scope.kind == .class||(X.env.scope.kind == .module&&X.env.locals != X.env.globals))=false:=by rw[I.ok.kind];rfl
 have hiσ:i<σ.length:=by rw[I.len];exact(List.getElem?_eq_some_iff.mp hi).1
 have cne:=I.cne;have tracked:∀{a:Addr}{h':Heap},(∃o,s.heap.get? a=some o/\H a=none)->Heap.SameBut a s.heap h'->HOk X.prog X.w H h':=fun {a h'} ha hs b ob e=>by
  obtain⟨_,_,hfree⟩:=ha;refine(I.hok b ob e).stay (fun c w' hc q=>(hs.2 c ?_).trans q) (fun _ q=>q) fun _ _ q=>q;rintro rfl;rcases hc with rfl|hc
  ·rw[hfree]at e;cases e
  ·rw[hfree]at hc;cases hc
 rcases hx with hk|hk
 ·refine wpAny_storeName_local hk hn (fun h' hn' hs=>?_) hcls;obtain⟨oL,_,_,hoL,_⟩:=id hn;refine h _ ⟨I.ok,I.os,I.bare,⟨fun b o e n hb hx=>?_,fun b o e n hb hx=>?_,I.base.free,fun b o e hx=>?_,I.base.tups,I.base.frzs,I.base.tbls⟩,⟨_,hn',fun j y v' e1 e2 e3=>?_⟩,fun y c e=>?_,I.free,I.freeC,fun p hp=>?_,tracked ⟨oL,hoL,I.free⟩ hs,by simpa using I.len,by first|exact I.pos|exact le_trans I.pos (le_add_right _ _)⟩ ⟨_,hs,.inl rfl⟩
  ·exact(hs.2 b (ne_of_lt (lt_of_lt_of_le (lt_size e) I.ok.above))).trans (I.base.keep b o e n hb hx)
  ·obtain⟨sl,e1⟩:=I.base.slot b o e n hb hx;exact⟨sl,(hs.2 b (ne_of_lt (lt_of_lt_of_le (lt_size e) I.ok.above))).trans e1⟩
  ·obtain⟨o',e1⟩:=I.base.there b o e hx;exact⟨o',(hs.2 b (ne_of_lt (lt_of_lt_of_le (lt_size e) I.ok.above))).trans e1⟩
  ·by_cases hj:j=i
   ·subst hj;rw[hi]at e1;cases e1;rw[getElem?_set_self hiσ]at e2;cases e2;exact⟨u,r,.inl ⟨hk,by simp⟩⟩
   ·rw[getElem?_set_ne (Ne.symm hj)]at e2;obtain⟨u',r',q⟩:=hl j y v' e1 e2 e3;refine⟨u',r',?_⟩;rcases q with ⟨k,e⟩|⟨k,c,e,z⟩
    ·refine .inl ⟨k,?_⟩;have:y≠x:=fun e=>hj (Xj hN e1 (e ▸ hi));simp[this,e]
    ·exact .inr ⟨k,c,e,z.sameBut hs (cne y c e)⟩
  ·obtain⟨w',z⟩:=I.cell y c e;exact⟨w',z.sameBut hs (cne y c e)⟩
  ·obtain⟨e,n,ne,nf,d⟩:=I.pin p hp;exact⟨(hs.2 p.1 ne).trans e,n,ne,nf,d⟩
 ·have hfn:X.fn x=true:=by
   rcases hf with z|z
   ·exact z
   ·rw[z]at hk;cases hk
  obtain⟨c,hc⟩:=I.ok.has x (.inl hk);obtain⟨w',z⟩:=I.cell x c hc;refine wpAny_storeName_cell I.ok.kind hk hc z (fun h' hc' hs=>?_);obtain⟨oc,hoc,hocd⟩:=id z;refine h { s with heap:=h' } ⟨I.ok,I.os,I.bare,⟨fun b o e n hb hx=>?_,fun b o e n hb hx=>?_,I.base.free,fun b o e hx=>?_,I.base.tups,I.base.frzs,I.base.tbls⟩,⟨m,hn.sameBut hs (Ne.symm (cne x c hc)),fun j y v' e1 e2 e3=>?_⟩,fun y c' e=>?_,I.free,I.freeC,fun p hp=>?_,tracked ⟨oc,hoc,I.freeC x c hc⟩ hs,by simpa using I.len,I.pos⟩ ⟨c,hs,.inr hc⟩
  ·exact(hs.2 b (ne_of_lt (lt_of_lt_of_le (lt_size e) (I.ok.cab x c hfn hc)))).trans (I.base.keep b o e n hb hx)
  ·obtain⟨sl,e1⟩:=I.base.slot b o e n hb hx;exact⟨sl,(hs.2 b (ne_of_lt (lt_of_lt_of_le (lt_size e) (I.ok.cab x c hfn hc)))).trans e1⟩
  ·obtain⟨o',e1⟩:=I.base.there b o e hx;exact⟨o',(hs.2 b (ne_of_lt (lt_of_lt_of_le (lt_size e) (I.ok.cab x c hfn hc)))).trans e1⟩
  ·by_cases hj:j=i
   ·subst hj;rw[hi]at e1;cases e1;rw[getElem?_set_self hiσ]at e2;cases e2;exact⟨u,r,.inr ⟨.inl hk,c,hc,hc'⟩⟩
   ·rw[getElem?_set_ne (Ne.symm hj)]at e2;obtain⟨u',r',q⟩:=hl j y v' e1 e2 e3;refine⟨u',r',?_⟩;rcases q with q|⟨k,c',e,z'⟩
    ·exact .inl q
    ·refine .inr ⟨k,c',e,z'.sameBut hs ?_⟩;rintro rfl;exact hj (Xj hN e1 (I.ok.inj _ _ _ e hc ▸ hi))
  ·by_cases hcc:c' = c
   ·subst hcc;exact⟨_,hc'⟩
   ·obtain⟨w2,z2⟩:=I.cell y c' e;exact⟨w2,z2.sameBut hs hcc⟩
  ·obtain⟨e,n,ne,nf,d⟩:=I.pin p hp;refine⟨(hs.2 p.1 ?_).trans e,n,ne,nf,d⟩;intro q;rw[q,hoc]at e;have q':oc=p.2:=Option.some.inj e;exact d w' (by rw[<-q'];exact hocd)
theorem Sg {M:Model}{A:Around}{E:Value->Shared->Prop}{i:Nat}{x:Str}{v:V}{u:Value}{Q:Unit->Shared->Prop}(I:Inv X pins σ H s)(hN:X.N.Nodup)(hi:X.N[i]? = some x)(hx:Loc X.env.scope x)(r:RelV v u)
  (h:∀s',Inv X pins (σ.set i (some v)) H s'->Q () s')(hf:X.fn x=true\/X.env.scope.names.lookup x=some .local:=by first|exact .inl rfl|exact .inr rfl|assumption):wpAny M A (storeName X.env x u) Q E s :=
 Yn I hN hi hx r (fun s' I' _=>h s' I') hf
theorem Inv.call' {s':Shared}{ch:List Addr}(I:Inv X pins σ H s)(ho:s'.os=s.os)(u:Un (frs X.stack) ch H H' s.heap s'.heap)(hok:HOk X.prog X.w H' s'.heap)(hg:AllBare s'.gens)
  (hch:∀b∈ch,(b∈X.ex\/X.s₀.heap.objs.size<=b)/\b≠X.env.locals/\(∀x c,X.env.cells.lookup x=some c->c≠b)/\∀p∈X.pn++pins,p.1≠b)(hk:tk0<=s'.toks:=by first|assumption|exact Inv.pos (by assumption)|exact le_trans (Inv.pos (by assumption)) (le_add_right _ _)|exact le_trans (le_trans (Inv.pos (by assumption)) (le_add_right _ _)) (le_add_right _ _)):Inv X pins σ H' s':=by
 obtain⟨h',g',d',t',o'⟩:=s';have e:o' = s.os:=ho;subst e;exact I.call (g':=g') (t':=t') (d':=d') u hok hg hch
abbrev XK:=Value->Option Addr->Hp->Prop
abbrev St:=List (Option V)
abbrev VK:=V->Hp->Prop
abbrev TE:=St->Hp->VK->Prop
abbrev TT:=St->Hp->(Bool->Hp->Prop)->Prop
abbrev TA:=St->Hp->(List V->Hp->Prop)->Prop
structure Ends where
 nx:St->Hp->Prop
 rt:VK
 bk:St->Hp->Prop:=fun _ _=>False
 ct:St->Hp->Prop:=fun _ _=>False
abbrev TS:=Ends->St->Hp->Prop
def EP (X:Cx)(pins:List (Addr×Obj))(σ:St)(Q:VK)(u:Value)(s':Shared):Prop:=tk0<=s'.toks->∃v H',Inv X pins σ H' s'/\RelV v u/\Q v H'
def TP (X:Cx)(pins:List (Addr×Obj))(σ:St)(Q:Bool->Hp->Prop)(b:Bool)(s':Shared):Prop:=tk0<=s'.toks->∃H',Inv X pins σ H' s'/\Q b H'
def AP (X:Cx)(pins:List (Addr×Obj))(σ:St)(Q:List V->Hp->Prop)(us:List Value)(s':Shared):Prop:=tk0<=s'.toks->∃vs H',Inv X pins σ H' s'/\Vals vs us/\Q vs H'
def SP (X:Cx)(pins:List (Addr×Obj))(D:Ends)(f:Flow)(s':Shared):Prop :=
 tk0<=s'.toks->match f with
 |.next=>∃σ' H',Inv X pins σ' H' s'/\D.nx σ' H'
 |.brk=>∃σ' H',Inv X pins σ' H' s'/\D.bk σ' H'
 |.cont=>∃σ' H',Inv X pins σ' H' s'/\D.ct σ' H'
 |.ret u=>∃v σ' H',Inv X pins σ' H' s'/\RelV v u/\D.rt v H'
def PE (X:Cx)(e:Expr)(t:TE):Prop :=
 ∀(pins:List (Addr×Obj))(s:Shared)(σ:St)(H:Hp)(Q:VK),Inv X pins σ H s->t σ H Q->wpAny (model X.prog X.w) X.A (eval e X.env) (EP X pins σ Q) X.xe s
def PT (X:Cx)(e:Expr)(t:TT):Prop :=
 ∀(pins:List (Addr×Obj))(s:Shared)(σ:St)(H:Hp)(Q:Bool->Hp->Prop),Inv X pins σ H s->t σ H Q->wpAny (model X.prog X.w) X.A (isTrue e X.env (eval e X.env)) (TP X pins σ Q) X.xe s
def PW (X:Cx)(e:Expr)(t:TT):Prop :=
 ∀(whole:Sem Value)(pins:List (Addr×Obj))(s:Shared)(σ:St)(H:Hp)(Q:Bool->Hp->Prop),Inv X pins σ H s->t σ H Q->wpAny (model X.prog X.w) X.A (isTrue e X.env whole) (TP X pins σ Q) X.xe s
theorem PW.pt {X:Cx}{e:Expr}{t:TT}(h:PW X e t):PT X e t:=h _
def PA (X:Cx)(es:List Expr)(t:TA):Prop :=
 ∀(pos:Pos)(pins:List (Addr×Obj))(s:Shared)(σ:St)(H:Hp)(Q:List V->Hp->Prop),Inv X pins σ H s->t σ H Q->wpAny (model X.prog X.w) X.A (spliced (backTo pos (starEach es X.env))) (AP X pins σ Q) X.xe s
def PS (X:Cx)(st:Stmt)(t:TS):Prop :=
 ∀(pins:List (Addr×Obj))(s:Shared)(σ:St)(H:Hp)(D:Ends),Inv X pins σ H s->t D σ H->wpAny (model X.prog X.w) X.A (exec st X.env) (SP X pins D) X.xe s
def PSs (X:Cx)(st:List Stmt)(t:TS):Prop :=
 ∀(pins:List (Addr×Obj))(s:Shared)(σ:St)(H:Hp)(D:Ends),Inv X pins σ H s->t D σ H->wpAny (model X.prog X.w) X.A (execs st X.env) (SP X pins D) X.xe s
theorem thn {β:Type}{m:Sem β}{P P':β->Shared->Prop}{M:Model}{A:Around}{F:Value->Shared->Prop}{s:Shared}(h:wpAny M A m (fun a r=>tk0<=r.toks->P a r) F s)(hP:∀a r,P a r->P' a r)(hs:tk0<=s.toks:=by first|assumption|exact Inv.pos (by assumption)|exact le_trans (Inv.pos (by assumption)) (le_add_right _ _)|exact le_trans (le_trans (Inv.pos (by assumption)) (le_add_right _ _)) (le_add_right _ _)):wpAny M A m P' F s :=
 wpAny_mono (wpAny_toks_of hs h) (fun _ _ x=>hP _ _ (x.2 x.1)) fun _ _ x=>x.2
theorem thnK {β:Type}{m:Sem β}{P P':β->Shared->Prop}{M:Model}{A:Around}{F:Value->Shared->Prop}{s:Shared}(h:wpAny M A m (fun a r=>tk0<=r.toks->P a r) F s)(hP:∀a r,tk0<=r.toks->P a r->P' a r)(hs:tk0<=s.toks:=by first|assumption|exact Inv.pos (by assumption)):wpAny M A m P' F s :=
 wpAny_mono (wpAny_toks_of hs h) (fun _ _ x=>hP _ _ x.1 (x.2 x.1)) fun _ _ x=>x.2
theorem thnU {β:Type}{m:Sem β}{P P':β->Shared->Prop}{M:Model}{A:Around}{F:Value->Shared->Prop}{s:Shared}(h:wpAny M A m P F s)(hP:∀a r,tk0<=r.toks->P a r->P' a r)(hs:tk0<=s.toks:=by first|assumption|exact Inv.pos (by assumption)):wpAny M A m P' F s :=
 wpAny_mono (wpAny_toks_of hs h) (fun _ _ x=>hP _ _ x.1 x.2) fun _ _ x=>x.2
def tVar (i:Nat):TE:=fun σ H Q=>∃v,σ[i]? = some (some v)/\Q v H
def tC (v:V):TE:=fun _ H Q=>Q v H
theorem mf {i:Nat}{x:Str}{pos:Pos}(hN:X.N[i]? = some x)(hv:Vis X.env.scope x)(hd:(x == ("__debug__":Str))=false:=by decide)(hcd:(x == ("__classdict__":Str))=false:=by decide):PE X (.Name x pos) (tVar i):=by
 intro pins s σ H Q I h;obtain⟨v,e,h⟩:=h;obtain⟨m,hn,hl⟩:=I.loc;obtain⟨u,r,l⟩:=hl i x v hN e hv;have fin:EP X pins σ Q u s:=(fun _=>⟨v,H,I,r,h⟩);rcases l with ⟨hk,hm⟩|⟨hk,c,hc,hcell⟩
 ·exact wpAny_Name (wpAny_loadName_local I.ok.kind hk hn hm fin) hd
 ·rcases hk with hk|hk
  ·exact wpAny_Name (wpAny_loadName_cell I.ok.kind hk hc hcell fin) hd
  ·exact wpAny_Name (wpAny_loadName_free I.ok.kind hk hc hcell fin hcd) hd
theorem Ub {i j pos}:PE X (.Constant (.int i) j pos) (tC (.int i)):=fun _ _ _ H _ I h=>wpAny_Constant_int (fun _=>⟨.int i,H,I.tok _,⟨_,rfl⟩,h⟩)
theorem Yf {b j pos}:PE X (.Constant (.bool b) j pos) (tC (.bl b)):=fun _ _ _ H _ I h=>Constant_bool (fun _=>⟨.bl b,H,I,rfl,h⟩)
theorem wd {j pos}:PE X (.Constant .none j pos) (tC .non):=fun _ _ _ H _ I h=>Constant_none (fun _=>⟨.non,H,I,rfl,h⟩)
theorem Gb {x j pos}:PE X (.Constant (.str x) j pos) (tC (.str x)):=fun _ _ _ H _ I h=>Calls.Constant_str (fun _=>⟨.str x,H,I.tok _,⟨_,rfl⟩,h⟩)
def Gl (X:Cx)(x:Str):Prop:=X.env.kindOf x=some .globalImplicit
theorem qf {E:Value->Shared->Prop}{pins:List (Addr×Obj)}{s:Shared}{σ:St}{H:Hp}{x:Str}{u:Value}{pos:Pos}{Q:Value->Shared->Prop}(I:Inv X pins σ H s)(hg:Gl X x)(hm:X.mg x=some u)(h:Q u s)
  (hd:(x == ("__debug__":Str))=false:=by decide):wpAny (model X.prog X.w) X.A (eval (.Name x pos) X.env) Q E s :=
 Calls.Name_function_global I.ok.kind hg (Calls.loadGlobal_global (by rw[I.ok.glob];exact I.mod.glob.keeps I.bk) hm h) hd
theorem Ce {E:Value->Shared->Prop}{pins:List (Addr×Obj)}{s:Shared}{σ:St}{H:Hp}{x:Str}{u:Value}{pos:Pos}{Q:Value->Shared->Prop}(I:Inv X pins σ H s)(hg:Gl X x)(hm:X.mg x=none)(hv:bootBuiltins x=some u)(h:Q u s)
  (hn:x ≠ "__name__":=by decide)(hd:(x == ("__debug__":Str))=false:=by decide):wpAny (model X.prog X.w) X.A (eval (.Name x pos) X.env) Q E s:=by
 obtain⟨mb,h1,h2⟩:=I.mod.blt;exact Calls.Name_function_global I.ok.kind hg (Calls.loadGlobal_builtin (by rw[I.ok.glob];exact I.mod.glob.keeps I.bk) hm (by rw[I.ok.blt];exact h1.keeps I.bk) ((h2 x hn).trans hv) h) hd
theorem tf {x:Str}{v:V}{u:Value}{pos:Pos}(hg:Gl X x)(hm:X.mg x=some u)(r:RelV v u)(hd:(x == ("__debug__":Str))=false:=by decide):PE X (.Name x pos) (tC v) :=
 fun _ _ _ H _ I h=>qf I hg hm (fun _=>⟨v,H,I,r,h⟩) hd
theorem Yj {x:Str}{v:V}{u:Value}{pos:Pos}(hg:Gl X x)(hm:X.mg x=none)(hv:bootBuiltins x=some u)(r:RelV v u)(hn:x ≠ "__name__":=by decide)(hd:(x == ("__debug__":Str))=false:=by decide):PE X (.Name x pos) (tC v) :=
 fun _ _ _ H _ I h=>Ce I hg hm hv (fun _=>⟨v,H,I,r,h⟩) hn hd
variable {a b:Expr}{ta tb:TE}{pos:Pos}
def PC (X:Cx)(op:CmpOp)(a b:Expr)(t:TE):Prop :=
 ∀(pins:List (Addr×Obj))(s:Shared)(σ:St)(H:Hp)(Q:VK),Inv X pins σ H s->t σ H Q ->
  wpAny (model X.prog X.w) X.A (eval a X.env) (fun v s₁=>wpAny (model X.prog X.w) X.A (eval b X.env) (fun u s₂=>wpAny (model X.prog X.w) X.A (compareOp op v u) (EP X pins σ Q) X.xe s₂) X.xe s₁) X.xe s
theorem q2r (b:Expr){op:CmpOp}(h:op≠.In)(h2:op≠.NotIn):behindInMarks op b=false:=by
 have e1:(op == CmpOp.In)=false:=by cases op<;>first|rfl|exact absurd rfl h
 have e2:(op == CmpOp.NotIn)=false:=by cases op<;>first|rfl|exact absurd rfl h2
 cases b<;>simp[behindInMarks,e1,e2]
def tB (t:TE):TT:=fun σ H Q=>t σ H fun x H1=>∃c,x=.bl c/\Q c H1
theorem Zn {op:CmpOp}{t:TE}(h:PC X op a b t)(h1:behindInMarks op b=false:=by first|exact q2r _ (by decide) (by decide)|rfl):PT X (.Compare a [op] [b] pos) (tB t):=by
 intro pins s σ H Q I hw;refine wpAny_isTrue_Compare1 (thnU (h pins s σ H _ I hw) fun v s1 k1 h1=>thnU (hs:=k1) h1 fun u s2 k2 h2=>thn (hs:=k2) h2 fun c s3 ⟨x,H1,I1,r1,q1⟩=>?_) h1;obtain⟨d,rfl,q⟩:=q1;cases r1;exact wpAny_truthy_bool (fun _=>⟨H1,I1,q⟩)
theorem qc {e:Expr}{t:TE}(h:PE X e t)(he:∀whole,isTrue e X.env whole=(do let v <-whole;standAt e.pos;holding [v] (truthy v)):=by intro _;rfl):PT X e (tB t):=by
 intro pins s σ H Q I hw;refine isTrue_plain (thn (h pins s σ H _ I hw) fun v s1 ⟨x,H1,I1,r1,q1⟩=>?_) (he _);obtain⟨d,rfl,q⟩:=q1;cases r1;exact wpAny_truthy_bool (fun _=>⟨H1,I1,q⟩)
variable {tA tB':TT}{rest:List Expr}
def tAnd (t u:TT):TT:=fun σ H Q=>t σ H fun c H1=>if c=true then u σ H1 Q else Q false H1
def tOr (t u:TT):TT:=fun σ H Q=>t σ H fun c H1=>if c=true then Q true H1 else u σ H1 Q
def tNot (t:TT):TT:=fun σ H Q=>t σ H fun c H1=>Q (!c) H1
theorem ce (ha:PT X a tA):PW X (.BoolOp .And [a] pos) tA:=by
 intro wh pins s σ H Q I h;refine isTrue_and (thn (ha pins s σ H Q I h) fun c s1 e=>?_);cases c with
 |true=>exact isTrue_and_nil fun _=>e
 |false=>exact fun _=>e
theorem Zj (ha:PT X a tA):PW X (.BoolOp .Or [a] pos) tA:=by
 intro wh pins s σ H Q I h;refine isTrue_or (thn (ha pins s σ H Q I h) fun c s1 e=>?_);cases c with
 |false=>exact isTrue_or_nil fun _=>e
 |true=>exact fun _=>e
theorem Jd (ha:PT X a tA)(hb:PW X (.BoolOp .And (b::rest) pos) tB'):PW X (.BoolOp .And (a::b::rest) pos) (tAnd tA tB'):=by
 intro wh pins s σ H Q I h;refine isTrue_and (thn (ha pins s σ H _ I h) fun c s1 ⟨H1,I1,q1⟩=>?_);cases c with
 |true=>exact hb wh pins s1 σ H1 Q I1 q1
 |false=>exact(fun _=>⟨H1,I1,q1⟩)
theorem Tg (ha:PT X a tA)(hb:PW X (.BoolOp .Or (b::rest) pos) tB'):PW X (.BoolOp .Or (a::b::rest) pos) (tOr tA tB'):=by
 intro wh pins s σ H Q I h;refine isTrue_or (thn (ha pins s σ H _ I h) fun c s1 ⟨H1,I1,q1⟩=>?_);cases c with
 |true=>exact(fun _=>⟨H1,I1,q1⟩)
 |false=>exact hb wh pins s1 σ H1 Q I1 q1
theorem qi (ha:PT X a tA):PT X (.UnaryOp .Not a pos) (tNot tA):=by
 intro pins s σ H Q I h;exact isTrue_not (ha pins s σ H (fun c H1=>Q (!c) H1) I h)
def tAndV (ta tb:TE):TE:=fun σ H Q=>ta σ H fun x H1=>∃c,x=.bl c/\if c=true then tb σ H1 Q else Q (.bl false) H1
def tNotV (ta:TE):TE:=fun σ H Q=>ta σ H fun x H1=>∃c,x=.bl c/\Q (.bl (!c)) H1
theorem j6b {op}{t:TE}(h:PE X a t):PE X (.BoolOp op [a] pos) t:=fun pins s σ H Q I hw=>BoolOp_one (h pins s σ H Q I hw)
theorem j5u (ha:PE X a ta)(hb:PE X (.BoolOp .And (b::rest) pos) tb):PE X (.BoolOp .And (a::b::rest) pos) (tAndV ta tb):=by
 intro pins s σ H Q I h;refine BoolOp_and (thn (ha pins s σ H _ I h) fun v s1 zq=>?_);obtain⟨x,H1,I1,r1,q1⟩:=zq;obtain⟨c,rfl,q1⟩:=q1;cases r1;refine wpAny_truthy_bool ?_;cases c with
 |true=>exact hb pins s1 σ H1 Q I1 q1
 |false=>exact(fun _=>⟨.bl false,H1,I1,rfl,q1⟩)
theorem j7s (ha:PE X a ta):PE X (.UnaryOp .Not a pos) (tNotV ta):=by
 intro pins s σ H Q I h;refine UnaryOp_ (thn (ha pins s σ H _ I h) fun v s1 zq=>?_);obtain⟨x,H1,I1,r1,q1⟩:=zq;obtain⟨c,rfl,q1⟩:=q1;cases r1;exact not_of (wpAny_truthy_bool (fun _=>⟨.bl (!c),H1,I1,rfl,q1⟩))
def tIf (t:TT)(ta tb:TE):TE:=fun σ H Q=>t σ H fun c H1=>if c=true then ta σ H1 Q else tb σ H1 Q
theorem Ug {c:Expr}(hc:PT X c tA)(ha:PE X a ta)(hb:PE X b tb):PE X (.IfExp c a b pos) (tIf tA ta tb):=by
 intro pins s σ H Q I h;refine wpAny_IfExp (thn (hc pins s σ H _ I h) fun d s1 ⟨H1,I1,q1⟩=>?_);cases d with
 |true=>exact ha pins s1 σ H1 Q I1 q1
 |false=>exact hb pins s1 σ H1 Q I1 q1
def SqL (K:W.Frag)(H:Hp)(a:Addr)(xs:List V):Prop :=
 Rd H a (.lst xs) \/
  ∃(o:Obj)(its:Array Value)(n:Nat),K.lookup a=some o/\o.cls=.type "list"/\o.dict=none/\o.data=.seq its n/\its.size<=sizeLine/\Vals xs its.toList
def SqT (K:W.Frag)(H:Hp)(a:Addr)(xs:List V):Prop :=
 Rd H a (.tup xs) \/
  ∃(o:Obj)(its:Array Value)(n:Nat),K.lookup a=some o/\o.cls=.type "tuple"/\o.data=.seq its n/\its.size<=sizeLine/\Vals xs its.toList
noncomputable def absV:Value->Option V
 |.none=>some .non
 |.bool b=>some (.bl b)
 |.int i _=>some (.int i)
 |.str x _=>some (.str x)
 |.bytes b _=>some (.byt b)
 |.float b _=>some (.flt b)
 |.ref a=>some (.ref a)
 |.type n=>some (.ty n)
 |_=>none
theorem RelV.abs {x:V}{u:Value}(r:RelV x u):absV u=some x:=by
 cases x with
 |non=>cases r;rfl
 |bl _=>cases r;rfl
 |int _=>obtain⟨t,rfl⟩:=r;rfl
 |str _=>obtain⟨t,rfl⟩:=r;rfl
 |byt _=>obtain⟨t,rfl⟩:=r;rfl
 |flt _=>obtain⟨t,rfl⟩:=r;rfl
 |ref _=>cases r;rfl
 |ty _=>cases r;rfl
theorem RelV.inj {x y:V}{u:Value}(r:RelV x u)(q:RelV y u):x=y:=Option.some.inj (r.abs.symm.trans q.abs)
theorem Vals.inj {xs ys:List V}{us:List Value}(h:Vals xs us)(h':Vals ys us):xs=ys:=by
 induction h generalizing ys with
 |nil=>cases h';rfl
 |cons r t ih=>cases h' with
  |cons r' t'=>rw[r.inj r',ih t']
end
section
variable {X:Cx}{pins:List (Addr×Obj)}{σ:St}{H:Hp}{s:Shared}{a:Addr}{xs ys:List V}
theorem SqL.of {K:W.Frag}(h:H a=some (.lst xs)):SqL K H a xs:=.inl (.inl h)
theorem SqT.of {K:W.Frag}(h:H a=some (.tup xs)):SqT K H a xs:=.inl (.inl h)
theorem Inv.list (I:Inv X pins σ H s)(h:SqL X.K H a xs):∃its:List Value,Vals xs its/\PlainL s.heap a its.toArray/\xs.length<=sizeLine:=by
 rcases h with h|⟨o,its,n,hk,hc,hd,hs,hz,r⟩
 ·obtain⟨z,its,n,r,e⟩:=h.ok I.hok;exact⟨its,r,⟨_,n,e,rfl,rfl,rfl⟩,z⟩
 ·refine⟨its.toList,r,⟨o,n,I.kIn a o hk,hc,hd,by simpa using hs⟩,?_⟩;have e:=r.length;simp only[Array.length_toList]at e;omega
theorem Inv.tuple (I:Inv X pins σ H s)(h:SqT X.K H a xs):∃its:List Value,Vals xs its/\IsTup s.heap a its.toArray/\xs.length<=sizeLine:=by
 rcases h with h|⟨o,its,n,hk,hc,hs,hz,r⟩
 ·obtain⟨z,its,r,p⟩:=h.ok I.hok;exact⟨its,r,p,z⟩
 ·refine⟨its.toList,r,⟨o,I.kIn a o hk,hc,n,by simpa using hs⟩,?_⟩;have e:=r.length;simp only[Array.length_toList]at e;omega
theorem Inv.list_inj (I:Inv X pins σ H s)(h:SqL X.K H a xs)(h':SqL X.K H a ys):xs=ys:=by
 obtain⟨its,r,⟨o,n,e,_,_,d⟩,_⟩:=I.list h;obtain⟨its',r',⟨o',n',e',_,_,d'⟩,_⟩:=I.list h';rw[e]at e';cases e';rw[d]at d';injection d' with d1 _;have:its=its':=by simpa using congrArg toList d1
 subst this;exact r.inj r'
noncomputable abbrev Cx.wish (X:Cx)(E:Value->Shared->Prop):Cx:={ X with xe:=E }
noncomputable abbrev Cx.nox (X:Cx):Cx:=X.wish fun _ _=>False
theorem Cx.Ok.wish {X:Cx}(ok:X.Ok)(E:Value->Shared->Prop):(X.wish E).Ok :=
 ⟨ok.mod,ok.kind,ok.glob,ok.blt,ok.above,ok.inj,ok.has,ok.cab,ok.hd,ok.frames,ok.stk,ok.exf,ok.bs,ok.bsz,ok.noex,ok.exfs,ok.funs,ok.frf,ok.lam⟩
theorem Cx.Ok.unwish {X:Cx}{E:Value->Shared->Prop}(ok:(X.wish E).Ok):X.Ok :=
 ⟨ok.mod,ok.kind,ok.glob,ok.blt,ok.above,ok.inj,ok.has,ok.cab,ok.hd,ok.frames,ok.stk,ok.exf,ok.bs,ok.bsz,ok.noex,ok.exfs,ok.funs,ok.frf,ok.lam⟩
variable {E:Value->Shared->Prop}
theorem Inv.wish (I:Inv X pins σ H s)(E:Value->Shared->Prop):Inv (X.wish E) pins σ H s:=⟨I.ok.wish E,I.os,I.bare,I.base,I.loc,I.cell,I.free,I.freeC,I.pin,I.hok,I.len,I.pos⟩
theorem Inv.unwish (I:Inv (X.wish E) pins σ H s):Inv X pins σ H s:=⟨I.ok.unwish,I.os,I.bare,I.base,I.loc,I.cell,I.free,I.freeC,I.pin,I.hok,I.len,I.pos⟩
theorem SP.unwish {D:Ends}{f:Flow}{s':Shared}(h:SP (X.wish E) pins D f s'):SP X pins D f s':=by
 intro hk;replace h:=h hk;cases f with
 |next=>obtain⟨σ',H',I,q⟩:=h;exact⟨σ',H',I.unwish,q⟩
 |brk=>obtain⟨σ',H',I,q⟩:=h;exact⟨σ',H',I.unwish,q⟩
 |cont=>obtain⟨σ',H',I,q⟩:=h;exact⟨σ',H',I.unwish,q⟩
 |ret u=>obtain⟨v,σ',H',I,r,q⟩:=h;exact⟨v,σ',H',I.unwish,r,q⟩
theorem PSs.nox {st:List Stmt}{t:TS}(h:PSs X.nox st t):PSs X st t:=fun pins s σ H D I hw =>
 wpAny_mono (h pins s σ H D (I.wish _) hw) (fun _ _ q=>q.unwish) fun _ _ z=>False.elim z
variable {st:Stmt}{rest:List Stmt}{t u:TS}{e:Expr}{te:TE}{pos:Pos}
def q2m:TS:=fun D σ H=>D.nx σ H
def tSeq (t u:TS):TS:=fun D σ H=>t { D with nx:=u D } σ H
theorem Xb:PSs X [] q2m:=fun _ _ σ H _ I h=>wpAny_execs_nil (fun _=>⟨σ,H,I,h⟩)
theorem Ta (h1:PS X st t)(h2:PSs X rest u):PSs X (st::rest) (tSeq t u):=by
 intro pins s σ H D I h;refine wpAny_execs_cons (thn (h1 pins s σ H { D with nx:=u D } I h) fun f s1 q=>?_);cases f with
 |next =>
  obtain⟨σ',H',I',q⟩:=q;exact h2 pins s1 σ' H' D I' q
 |ret v=>exact fun _=>q
 |brk=>exact fun _=>q
 |cont=>exact fun _=>q
theorem Ua (h1:PS X st t):PSs X [st] t:=by
 intro pins s σ H D I h;refine wpAny_execs_cons (thn (h1 pins s σ H D I h) fun f s1 q=>?_);cases f with
 |next=>exact wpAny_execs_nil fun _=>q
 |ret v=>exact fun _=>q
 |brk=>exact fun _=>q
 |cont=>exact fun _=>q
theorem Inv.quiet {pins:List (Addr×Obj)}{σ:St}{H:Hp}{s:Shared}(I:Inv X pins σ H s):interactive X.env=false:=by simp[interactive,I.ok.kind]
def q4d (te:TE):TS:=fun D σ H=>te σ H fun _ H1=>D.nx σ H1
theorem Ld (he:PE X e te)(hs:swapsWith e none pos.line X.env=pure false:=by rfl):PS X (.Expr e pos) (q4d te):=by
 intro pins s σ H D I h;exact wpAny_Expr_any (thn (he pins s σ H _ I h) fun v s1 ⟨x,H1,I1,r1,q1⟩=>(fun _=>⟨σ,H1,I1,q1⟩)) I.quiet hs
def tRet (te:TE):TS:=fun D σ H=>te σ H D.rt
theorem uc (he:PE X e te):PS X (.Return (some e) pos) (tRet te):=by
 intro pins s σ H D I h;exact wpAny_Return_some (thn (he pins s σ H _ I h) fun v s1 ⟨x,H1,I1,r1,q1⟩=>(fun _=>⟨x,σ,H1,I1,r1,q1⟩))
def tIfS (c:TT)(t u:TS):TS:=fun D σ H=>c σ H fun b H1=>if b=true then t D σ H1 else u D σ H1
theorem Lb {c:Expr}{a b:List Stmt}{tc:TT}(hc:PT X c tc)(ha:PSs X a t)(hb:PSs X b u):PS X (.If c a b pos) (tIfS tc t u):=by
 intro pins s σ H D I h;refine wpAny_If (thn (hc pins s σ H _ I h) fun d s1 ⟨H1,I1,q1⟩=>?_);cases d with
 |true=>exact ha pins s1 σ H1 D I1 q1
 |false=>exact hb pins s1 σ H1 D I1 q1
def y0y:TS:=fun _ _ _=>False
theorem q5p:PS X st y0y:=fun _ _ _ _ _ _ h=>h.elim
theorem x9m {sts:List Stmt}:PSs X sts y0y:=fun _ _ _ _ _ _ h=>h.elim
abbrev TG:=V->St->Hp->(St->Hp->Prop)->Prop
abbrev TGs:=List V->St->Hp->(St->Hp->Prop)->Prop
def PG (X:Cx)(target:Expr)(t:TG):Prop :=
 ∀(pins:List (Addr×Obj))(s:Shared)(σ:St)(H:Hp)(v:V)(u:Value)(Q:St->Hp->Prop),Inv X pins σ H s->RelV v u->t v σ H Q ->
  wpAny (model X.prog X.w) X.A (assign target X.env u) (fun _ s'=>tk0<=s'.toks->∃σ' H',Inv X pins σ' H' s'/\Q σ' H') X.xe s
def PGs (X:Cx)(ts:List Expr)(t:TGs):Prop :=
 ∀(pins:List (Addr×Obj))(s:Shared)(σ:St)(H:Hp)(vs:List V)(us:List Value)(Q:St->Hp->Prop),Inv X pins σ H s->Vals vs us->t vs σ H Q ->
  wpAny (model X.prog X.w) X.A (assignInOrder ((assignEach ts X.env).map (·.2)) us) (fun _ s'=>tk0<=s'.toks->∃σ' H',Inv X pins σ' H' s'/\Q σ' H') X.xe s
abbrev TSet:=V->V->V->Hp->(Hp->Prop)->Prop
def PSet (X:Cx)(t:TSet):Prop :=
 ∀(pins:List (Addr×Obj))(s:Shared)(σ:St)(H:Hp)(o i v:V)(ov iv u:Value)(Q:Hp->Prop),Inv X pins σ H s->RelV o ov->RelV i iv->RelV v u->t o i v H Q ->
  wpAny (model X.prog X.w) X.A (setItem ov iv u) (fun _ s'=>tk0<=s'.toks->∃H',Inv X pins σ H' s'/\Q H') X.xe s
abbrev TIp:=V->V->Hp->VK->Prop
def PIp (X:Cx)(op:Operator)(t:TIp):Prop :=
 ∀(pins:List (Addr×Obj))(s:Shared)(σ:St)(H:Hp)(x y:V)(v u:Value)(Q:VK),Inv X pins σ H s->RelV x v->RelV y u->t x y H Q ->
  wpAny (model X.prog X.w) X.A (inplaceOp op v u) (EP X pins σ Q) X.xe s
def y0a (i:Nat):TG:=fun v σ H Q=>Q (σ.set i (some v)) H
theorem uf {i:Nat}{x:Str}(hN:X.N.Nodup)(hi:X.N[i]? = some x)(hx:Loc X.env.scope x)(hf:X.fn x=true\/X.env.scope.names.lookup x=some .local:=by first|exact .inl rfl|exact .inr rfl|assumption):PG X (.Name x pos) (y0a i):=by
 intro pins s σ H v u Q I r h;exact wpAny_assign_Name (Sg I hN hi hx r (fun s' I'=>(fun _=>⟨_,H,I',h⟩)) hf)
def gNil:TGs:=fun vs σ H Q=>vs=[]/\Q σ H
def q9p (t:TG)(u:TGs):TGs:=fun vs σ H Q=>∃v r,vs=v::r/\t v σ H fun σ' H'=>u r σ' H' Q
theorem ui:PGs X [] gNil:=by
 intro pins s σ H vs us Q I r h;obtain⟨e,h⟩:=h;subst e;cases r;exact assignInOrder_nil (fun _=>⟨σ,H,I,h⟩)
theorem Zf {e:Expr}{es:List Expr}{t:TG}{u:TGs}(h1:PG X e t)(h2:PGs X es u)
  (hs:(assignEach (e::es) X.env).map (·.2)=assign e X.env::(assignEach es X.env).map (·.2):=by rfl):PGs X (e::es) (q9p t u):=by
 intro pins s σ H vs us Q I r h;obtain⟨v,vr,e1,h⟩:=h;subst e1;cases r with
 |cons r rr =>
  rw[hs];refine assignInOrder_cons (thn (h1 pins s σ H _ _ _ I r h) fun _ s1 ⟨σ1,H1,I1,q1⟩=>?_);exact h2 pins s1 σ1 H1 _ _ Q I1 rr q1
def gTup (K:W.Frag)(n:Nat)(t:TGs):TG:=fun v σ H Q=>∃a xs,v=.ref a/\SqT K H a xs/\xs.length=n/\t xs σ H Q
theorem vi {es:List Expr}{k:Nat}{t:TGs}{n:Nat}(hc:X.calm=true)(h:PGs X es t)
  (hn:(assignEach es X.env).length=n:=by rfl)(hst:(assignEach es X.env).findIdx? (·.1)=none:=by rfl):PG X (.Tuple es k pos) (gTup X.K n t):=by
 intro pins s σ H v u Q I r hw;obtain⟨a,xs,e1,hq,hl,hw⟩:=hw;subst e1;cases r;obtain⟨its,rv,ht,hz⟩:=I.tuple hq;refine assign_Tuple_tuple (I.ok.hd hc) ht (by simp[hn,<-hl,rv.length]) hst fun h' hx=>?_;have I1:Inv X pins σ H { s with heap:=h' }:=I.kept (t':=s.toks) fun b o e=>hx b o (ne_of_lt (lt_size e)) e;exact h pins _ σ H xs _ Q I1 (by simpa using rv) hw
def gSub (to ti:TE)(t:TSet):TG:=fun v σ H Q=>to σ H fun o H1=>ti σ H1 fun i H2=>t o i v H2 fun H3=>Q σ H3
theorem j8y {o i:Expr}{to ti:TE}{t:TSet}(ho:PE X o to)(hi:PE X i ti)(hs:PSet X t)
  (ha:∀v,assign (.Subscript o i pos) X.env v=(do
   let ov <-holding [v] (eval o X.env);let iv <-holding [v,ov] (eval i X.env)
   standAt pos
   holding [v,ov,iv] (setItem ov iv v)
   release [v,ov,iv] []):=by intro _;rfl):PG X (.Subscript o i pos) (gSub to ti t):=by
 intro pins s σ H v u Q I r h;rw[ha];refine wpAny_bind (wpAny_holding (thn (ho pins s σ H _ I h) fun ov s1 zq=>?_));obtain⟨x,H1,I1,r1,q1⟩:=zq;refine wpAny_bind (wpAny_holding (thn (hi pins s1 σ H1 _ I1 q1) fun iv s2 zq=>?_));obtain⟨y,H2,I2,r2,q2⟩:=zq;refine wpAny_bind (wpAny_standAt (wpAny_bind (wpAny_holding (thn (hs pins s2 σ H2 x y v ov iv u _ I2 r1 r2 r q2) fun _ s3 zq=>?_))));obtain⟨H3,I3,q3⟩:=zq;exact wpAny_release (fun _=>⟨σ,H3,I3,q3⟩)
def tAsg (te:TE)(g:TG):TS:=fun D σ H=>te σ H fun x H1=>g x σ H1 D.nx
theorem ao {tg e:Expr}{te:TE}{g:TG}(he:PE X e te)(hg:PG X tg g)(hs:swapsWithSole [tg] e pos.line X.env=pure false:=by rfl)(hw:swappedStores [tg] e X.env=pure none:=by rfl)
  (h1:(assignEach [tg] X.env).map (·.2)=[assign tg X.env]:=by rfl):PS X (.Assign [tg] e pos) (tAsg te g):=by
 intro pins s σ H D I h;refine wpAny_Assign_stores (thn (he pins s σ H _ I h) fun v s1 zq=>?_) hs hw;obtain⟨x,H1,I1,r1,q1⟩:=zq;rw[h1];exact thn (hg pins s1 σ H1 x v _ I1 r1 q1) fun _ s2 q _=>q
theorem xb {i:Nat}{x:Str}{e:Expr}{te:TE}{pos':Pos}(hN:X.N.Nodup)(hi:X.N[i]? = some x)(hx:Loc X.env.scope x)(he:PE X e te)(hs:swapsWith e (some (.Name x pos')) pos.line X.env=pure false:=by rfl)(hf:X.fn x=true\/X.env.scope.names.lookup x=some .local:=by first|exact .inl rfl|exact .inr rfl|assumption) :
  PS X (.Assign [.Name x pos'] e pos) (tAsg te (y0a i)):=by
 intro pins s σ H D I h;refine wpAny_Assign_Name (thn (he pins s σ H _ I h) fun v s1 ⟨y,H1,I1,r1,q1⟩=>?_) hs;exact Sg I1 hN hi hx r1 (fun s2 I2=>(fun _=>⟨_,H1,I2,q1⟩)) hf
def tAug (i:Nat)(te:TE)(ti:TIp):TS:=fun D σ H=>∃x,σ[i]? = some (some x)/\te σ H fun y H1=>ti x y H1 fun z H2=>D.nx (σ.set i (some z)) H2
theorem j6l {i:Nat}{x:Str}{e:Expr}{te:TE}{op:Operator}{ti:TIp}{pos':Pos}(hN:X.N.Nodup)(hi:X.N[i]? = some x)(hx:Loc X.env.scope x)(he:PE X e te)(ho:PIp X op ti)(hf:X.fn x=true\/X.env.scope.names.lookup x=some .local:=by first|exact .inl rfl|exact .inr rfl|assumption) :
  PS X (.AugAssign (.Name x pos') op e pos) (tAug i te ti):=by
 intro pins s σ H D I h;obtain⟨v,e1,h⟩:=h;obtain⟨m,hn,hl⟩:=I.loc;have vis:Vis X.env.scope x:=by rcases hx with k|k;exact .inl k;exact .inr (.inl k)
 obtain⟨u,r,l⟩:=hl i x v hi e1 vis;refine wpAny_AugAssign_Name ?_;have go:wpAny (model X.prog X.w) X.A (eval e X.env) (fun w s₂=>wpAny (model X.prog X.w) X.A (inplaceOp op u w) (fun r s₃=>wpAny (model X.prog X.w) X.A (storeName X.env x r) (fun _=>SP X pins D .next) X.xe s₃) X.xe s₂) X.xe s:=by
  refine thn (he pins s σ H _ I h) fun w s1 zq=>?_;obtain⟨y,H1,I1,r1,q1⟩:=zq;refine thn (ho pins s1 σ H1 v y u w _ I1 r r1 q1) fun z s2 zq=>?_;obtain⟨zv,H2,I2,r2,q2⟩:=zq;exact Sg I2 hN hi hx r2 (fun s3 I3=>(fun _=>⟨_,H2,I3,q2⟩)) hf
 rcases l with ⟨hk,hm⟩|⟨hk,c,hc,hcell⟩
 ·exact wpAny_loadName_local I.ok.kind hk hn hm go
 ·rcases hk with hk|hk
  ·exact wpAny_loadName_cell I.ok.kind hk hc hcell go
  ·rcases hx with k|k
   ·have:X.env.scope.names.lookup x=some .free:=hk;rw[k]at this;cases this
   ·have:X.env.scope.names.lookup x=some .free:=hk;rw[k]at this;cases this
def ipI (f:Int->Int->Int):TIp:=fun x y H Q=>∃i j,x=.int i/\y=.int j/\Q (.int (f i j)) H
theorem j9g:PIp X .Add (ipI fun i j=>i+j):=by
 intro pins s σ H x y v u Q I r1 r2 h;obtain⟨i,j,e1,e2,q⟩:=h;subst e1;subst e2;obtain⟨t,rfl⟩:=r1;obtain⟨t',rfl⟩:=r2;exact iadd_int (fun _=>⟨.int _,H,I.tok _,⟨_,rfl⟩,q⟩)
def bo (c:TT)(tb:TS):TS:=fun D σ H=>∃W:Nat->St->Hp->Prop,(∃m,W m σ H)/\∀m σ H,W m σ H ->
 c σ H fun b H1=>if b=true then ∃N:St->Hp->Prop,(∀σ' H',N σ' H'->∃m',m' < m/\W m' σ' H')/\tb { D with nx:=N,ct:=N,bk:=D.nx } σ H1 else D.nx σ H1
theorem q3b {c:Expr}{body:List Stmt}{tc:TT}{tb:TS}(hp:PassesOwn (model X.prog X.w) X.A X.env X.xe)(hc:PT X c tc)(hb:PSs X body tb):PS X (.While c body [] pos) (bo tc tb):=by
 intro pins s σ H D I h;obtain⟨W,⟨m0,w0⟩,turn⟩:=h;refine wpAny_While (codeAny_whileLoop (fun n s'=>∃σ' H',Inv X pins σ' H' s'/\W n σ' H') ?_ m0 ⟨σ,H,I,w0⟩);rintro n s1 ⟨σ1,H1,I1,w1⟩;refine wpAny_passesOwn hp (thn (hc pins s1 σ1 H1 _ I1 (turn n σ1 H1 w1)) fun b s2 zq=>?_);obtain⟨H2,I2,q2⟩:=zq;cases b with
 |true =>
  obtain⟨N,hN,q2⟩:=q2;rw[if_pos rfl];refine wpAny_passesOwn hp (thn (hb pins s2 σ1 H2 _ I2 q2) fun f s3 q3=>?_);cases f with
  |next =>
   obtain⟨σ3,H3,I3,n3⟩:=q3;obtain⟨m',hm,w3⟩:=hN σ3 H3 n3;exact⟨m',hm,σ3,H3,I3,w3⟩
  |cont =>
   obtain⟨σ3,H3,I3,n3⟩:=q3;obtain⟨m',hm,w3⟩:=hN σ3 H3 n3;exact⟨m',hm,σ3,H3,I3,w3⟩
  |brk=>exact fun _=>q3
  |ret v=>exact fun _=>q3
 |false =>
  rw[if_neg Bool.false_ne_true];exact wpAny_execs_nil (fun _=>⟨σ1,H2,I2,q2⟩)
structure It where
 go:Nat->Hp->Prop
 yld:Nat->Hp->V->Hp->Prop
 stop:Nat->Hp->Prop
def FpOk (X:Cx)(pins:List (Addr×Obj))(H:Hp)(b:Addr):Prop :=
 H b=none/\b≠X.env.locals/\b∉X.fs/\(b∈X.ex\/X.s₀.heap.objs.size<=b)/\(∀x c,X.env.cells.lookup x=some c->c≠b)/\∀p∈X.pn++pins,p.1≠b
theorem Inv.fpOk {X:Cx}{pins:List (Addr×Obj)}{σ:St}{H H':Hp}{s:Shared}{b:Addr}(I:Inv X pins σ H s)(hb:s.heap.objs.size<=b)(hn:H' b=none):FpOk X pins H' b:=by
 refine⟨hn,ne_of_gt (lt_of_lt_of_le I.lt hb),I.nofs hb,.inr (le_trans I.sz hb),fun x c e z=>?_,fun p hp z=>?_⟩
 ·obtain⟨v,q⟩:=I.cell x c e;exact absurd (lt_of_lt_of_le q.lt (by rw[z];exact hb)) (lt_irrefl _)
 ·exact absurd (lt_of_lt_of_le (lt_size (I.pin p hp).1) (by rw[z];exact hb)) (lt_irrefl _)
structure Turn (P:Program)(w:World)(K:W.Frag)(tg:Expr)(J:It)(fp:List Addr)(it:Addr)(tn:Nat->Heap->Prop):Prop where
 mem:it∈fp
 obj:∀i h,tn i h->∀b∈fp,∃o,h.get? b=some o/\∀v,o.data≠.cell v
 keep:∀i h h',tn i h->(∀b∈fp,∀o,h.get? b=some o->h'.get? b=some o)->tn i h'
 item:∀(X:Cx),X.prog=P->X.w=w->X.K=K->X.calm=true->∀(i:Nat)(pins:List (Addr×Obj))(s:Shared)(σ:St)(H:Hp)(E:Value->Shared->Prop),Inv X pins σ H s->(∀b∈fp,FpOk X pins H b)->tn i s.heap->J.go i H ->
  wpAny (model P w) X.A (pyNext (.ref it)) (fun r s1=>tk0<=s1.toks->∃u,r=some u /\
   wpAny (model P w) X.A (letOwnedTupleGo tg (.ref it) u) (fun _ s2=>tk0<=s2.toks->∃x H',Inv X pins σ H' s2/\RelV x u/\J.yld i H x H'/\tn (i+1) s2.heap/\∀b∈fp,H' b=none) E s1) E s
 done:∀(X:Cx),X.prog=P->X.w=w->X.K=K->X.calm=true->∀(i:Nat)(pins:List (Addr×Obj))(s:Shared)(σ:St)(H:Hp)(E:Value->Shared->Prop),Inv X pins σ H s->(∀b∈fp,FpOk X pins H b)->tn i s.heap->J.stop i H ->
  wpAny (model P w) X.A (pyNext (.ref it)) (fun r s1=>tk0<=s1.toks->r=none/\Inv X pins σ H s1) E s
 self:∀(A:Around)(i:Nat)(s:Shared)(Q:Value->Shared->Prop)(E:Value->Shared->Prop),tn i s.heap->Q (.ref it) s->wpAny (model P w) A (pyIter (.ref it)) Q E s
abbrev TI:=St->Hp->(It->Hp->Prop)->Prop
def PIE (X:Cx)(pins:List (Addr×Obj))(σ:St)(tg:Expr)(R:It->Hp->Prop)(itv:Value)(s2:Shared):Prop :=
 ∃(it:Addr)(fp:List Addr)(tn:Nat->Heap->Prop)(J:It)(H':Hp),itv=.ref it/\Inv X pins σ H' s2/\Turn X.prog X.w X.K tg J fp it tn/\tn 0 s2.heap/\(∀b∈fp,FpOk X pins H' b)/\R J H'
def PI (X:Cx)(tg iter:Expr)(wi:TI):Prop :=
 ∀(pins:List (Addr×Obj))(s:Shared)(σ:St)(H:Hp)(R:It->Hp->Prop),Inv X pins σ H s->wi σ H R ->
  wpAny (model X.prog X.w) X.A (eval iter X.env) (fun v s1=>wpAny (model X.prog X.w) X.A (pyIter v) (PIE X pins σ tg R) X.xe s1) X.xe s
theorem ak {M:Model}{A:Around}{E:Value->Shared->Prop}{s:Shared}{tg:Expr}{it:Addr}{u:Value}{o:Obj}{n:String}{vs:Array Value}{Q:Unit->Shared->Prop}(ho:s.heap.get? it=some o)(hc:o.cls=.type n)(hd:o.data=.fields vs)
  (hn:["enumerate","zip","dict_itemiterator","dict_reverseitemiterator","odict_iterator","itertools.zip_longest","itertools.pairwise"].contains n=false)(hQ:Q () s):wpAny M A (letOwnedTupleGo tg (.ref it) u) Q E s:=by
 unfold letOwnedTupleGo;cases tg<;>first
  |exact wpAny_pure hQ
  |(cases u<;>first
    |exact wpAny_pure hQ
    |(refine wpAny_bind (wpAny_load ho ?_)
      rw[hc,hd];show wpAny M A (if (["enumerate","zip","dict_itemiterator","dict_reverseitemiterator","odict_iterator","itertools.zip_longest","itertools.pairwise"].contains n&&vs[0]? == some (rawInt _))=true then _ else _) Q E s;rw[if_neg (by intro h;rw[hn,Bool.false_and]at h;cases h)];exact wpAny_pure hQ))
def Itl (K:W.Frag)(a:Addr):It :=
 ⟨fun i H=>∃xs x,SqL K H a xs/\xs[i]? = some x,fun i H x H'=>H' = H/\∀xs,SqL K H a xs->xs[i]? = some x,fun i H=>∃xs,SqL K H a xs/\xs.length<=i⟩
def Itr (lo:Int)(n:Nat):It:=⟨fun i _=>i<n,fun i H x H'=>H' = H/\x=.int (lo+i),fun i _=>n<=i⟩
theorem q2f {P:Program}{w:World}{K:W.Frag}{tg:Expr}(a it:Addr):Turn P w K tg (Itl K a) [it] it (fun i h=>h.IsListIter it a i) where
 mem:=by simp
 obj:=fun i h st b hb=>by
  have e:b=it:=by simpa using hb
  subst e;obtain⟨o,e,c,d⟩:=st;exact⟨o,e,fun v z=>by rw[d]at z;cases z⟩
 keep:=fun i h h' st k=>st.at fun o e=>k it (by simp) o e
 item:=by
  intro X hP hw hK hc i pins s σ H E I hf st hg;subst hP hw hK;obtain⟨xs,x,hq,hx⟩:=hg;obtain⟨its,rv,p,hz⟩:=I.list hq;obtain⟨u,hu,ru⟩:=rv.get hx;obtain⟨f0,f1,f2,f3,f4,f5⟩:=hf it (by simp);refine wpAny_pyNext_list_item st p.isList (x:=u) (by simpa using hu) fun h' st' sb=>?_;have I1:Inv X pins σ H { s with heap:=h' }:=I.turned (t':=s.toks) (fun b o hb e=>(sb.2 b hb).trans e) f0 f1 f3 f4 f5;obtain⟨o,e,c,d⟩:=id st';exact(fun _=>⟨u,rfl,ak (s:={ s with heap:=h' }) e c d (by decide) fun _=>⟨x,H,I1,ru,⟨rfl,fun ys hy=>by rw[I.list_inj hy hq];exact hx⟩,st',fun b hb=>(hf b hb).1⟩⟩)
 done:=by
  intro X hP hw hK hc i pins s σ H E I hf st hg;subst hP hw hK;obtain⟨xs,hq,hx⟩:=hg;obtain⟨its,rv,p,hz⟩:=I.list hq;obtain⟨f0,f1,f2,f3,f4,f5⟩:=hf it (by simp);have hl:=rv.length;exact wpAny_pyNext_list_end (I.ok.hd hc) st p.isList (by simp;omega) fun h' eb=>(fun _=>⟨rfl,I.turned (t':=s.toks) (fun b o hb e=>eb b o hb e) f0 f1 f3 f4 f5⟩)
 self:=fun _ _ _ _ _ st h=>wpAny_pyIter_listiter st h
theorem x3y {P:Program}{w:World}{K:PySem.W.Frag}{tg:Expr}(it:Addr)(lo:Int)(n:Nat):Turn P w K tg (Itr lo n) [it] it (fun i h=>IsRangeIter h it (lo+(i:Nat) * 1) ((n:Int) - (i:Nat)) 1) where
 mem:=by simp
 obj:=fun i h st b hb=>by
  have e:b=it:=by simpa using hb
  subst e;exact⟨_,st,fun v z=>by
   have z':Data.fields _=Data.cell v:=z;cases z'⟩
 keep:=fun i h h' st k=>k it (by simp) _ st
 item:=by
  intro X hP hw hK hc i pins s σ H E I hf st hg;subst hP hw hK;obtain⟨f0,f1,f2,f3,f4,f5⟩:=hf it (by simp);have W:=Walks.range (prog:=X.prog) (w:=X.w) (I.ok.hd hc) it lo 1 n;refine W.item i s _ _ hg st fun v h' tk hv st' kk=>?_;obtain⟨t,rfl⟩:=hv;intro hk;replace hk:tk0<=tk:=hk;have I1:Inv X pins σ H { s with heap:=h',toks:=tk }:=I.turned (fun b o hb e=>kk b o (by simpa using hb) e) f0 f1 f3 f4 f5;refine⟨_,rfl,ak (s:={ s with heap:=h',toks:=tk }) (n:="range_iterator") st' rfl rfl (by decide) fun _=>⟨.int (lo+i),H,I1,⟨t,?_⟩,⟨rfl,rfl⟩,st',fun b hb=>(hf b hb).1⟩⟩;rw[Int.mul_one]
 done:=by
  intro X hP hw hK hc i pins s σ H E I hf st hg;subst hP hw hK;obtain⟨f0,f1,f2,f3,f4,f5⟩:=hf it (by simp);exact wpAny_pyNext_range_end (I.ok.hd hc) st (by have:n<=i:=hg;omega) fun h' eb=>(fun _=>⟨rfl,I.turned (t':=s.toks) (fun b o hb e=>eb b o hb e) f0 f1 f3 f4 f5⟩)
 self:=fun _ _ _ _ _ st h=>wpAny_pyIter_rangeiter st h
variable {tg:Expr}
def ck (K:W.Frag)(tl:TE):TI:=fun σ H R=>tl σ H fun x H1=>∃a,x=.ref a/\(∃xs,SqL K H1 a xs)/\R (Itl K a) H1
theorem xi {l:Expr}{tl:TE}(hl:PE X l tl):PI X tg l (ck X.K tl):=by
 intro pins s σ H R I h;refine thn (hl pins s σ H _ I h) fun v s1 zq=>?_;obtain⟨x,H1,I1,r1,q1⟩:=zq;obtain⟨a,e,⟨xs,hq⟩,q⟩:=q1;subst e;cases r1;obtain⟨its,rv,p,hz⟩:=I1.list hq;refine wpAny_pyIter_list p.isList ?_;refine⟨s1.heap.objs.size,[s1.heap.objs.size],_,_,H1,rfl,I1.kept (t':=s1.toks) fun b o e=>get?_push_of_some _ e,q2f a _,⟨_,get?_push_size _ rfl,rfl,rfl⟩,fun b hb=>?_,q⟩;have e:b=s1.heap.objs.size:=by simpa using hb
 subst e;exact I1.fpOk (le_refl _) (I1.hok.fresh (le_refl _))
theorem q5l {pins:List (Addr×Obj)}{σ:St}{H:Hp}{s:Shared}{R:It->Hp->Prop}{E:Value->Shared->Prop}{lo hi:Int}{t u v:Tok}{tk:Nat}(I:Inv X pins σ H s)(h1:-(2 ^ 62)<=lo)(h2:lo<2 ^ 62)(h3:-(2 ^ 62)<=hi)(h4:hi<2 ^ 62)
  (hk:tk0<=tk)
  (q:R (Itr lo (hi - lo).toNat) H):wpAny (model X.prog X.w) X.A (pyIter (.ref s.heap.objs.size)) (PIE X pins σ tg R) E { s with heap:=s.heap.push { cls:=.type "range",data:=.fields #[.int lo t,.int hi u,.int 1 v] },toks:=tk }:=by
 refine wpAny_pyIter_range (IsRange.new ..) (small_one h1 h2 h3 h4) ?_;have I1:Inv X pins σ H { s with heap:=s.heap.push { cls:=.type "range",data:=.fields #[.int lo t,.int hi u,.int 1 v] },toks:=tk }:=I.kept fun b o e=>get?_push_of_some _ e;refine⟨(s.heap.push { cls:=.type "range",data:=.fields #[.int lo t,.int hi u,.int 1 v] }).objs.size,[(s.heap.push { cls:=.type "range",data:=.fields #[.int lo t,.int hi u,.int 1 v] }).objs.size],_,_,H,rfl,
  I1.kept (t':=tk) fun b o e=>get?_push_of_some _ e,x3y _ lo (hi - lo).toNat,?_,fun b hb=>?_,q⟩
 ·have e1:lo+((0:Nat):Int) * 1=lo:=by simp
  have e2:(((hi - lo).toNat:Nat):Int) - ((0:Nat):Int)=Builtin.Range.rangeSize lo hi 1:=by rw[rangeSize_one];split<;>omega
  show IsRangeIter _ _ (lo+((0:Nat):Int) * 1) ((((hi - lo).toNat:Nat):Int) - ((0:Nat):Int)) 1;rw[e1,e2];exact get?_push_size _ rfl
 ·have e:b=(s.heap.push { cls:=.type "range",data:=.fields #[.int lo t,.int hi u,.int 1 v] }).objs.size:=by simpa using hb
  subst e;exact I1.fpOk (le_refl _) (I1.hok.fresh (le_refl _))
def iRng1 (ta:TA):TI:=fun σ H R=>ta σ H fun vs H1=>∃j:Int,vs=[.int j]/\-(2 ^ 62)<=j/\j<2 ^ 62/\R (Itr 0 j.toNat) H1
theorem x8e {a:Expr}{ta:TA}{p pos:Pos}(hg:Gl X "range")(hm:X.mg "range" = none)(ha:PA X [a] ta)(hs:starEach [a] X.env=[(false,eval a X.env)]:=by rfl):PI X tg (.Call (.Name "range" p) [a] [] pos) (iRng1 ta):=by
 intro pins s σ H R I h;refine Call_ (Ce I hg hm boot_range (PyProof.Rows.callWith_type1 (thn (ha pos pins s σ H _ I h) fun us s1 zq=>?_) hs rfl));obtain⟨vs,H1,I1,r1,q1⟩:=zq;obtain⟨j,e,q1,q2,q⟩:=q1;subst e;cases r1 with
 |cons r rr =>
  cases rr;obtain⟨t,rfl⟩:=r;exact call_range_1 (q5l I1 (by omega) (by omega) q1 q2 (by have:=I1.pos;first|omega|(simp;omega)) (by simpa using q))
def tFor (wi:TI)(g:TG)(tb:TS):TS:=fun D σ H=>wi σ H fun J H1=>∃W:Nat->Nat->St->Hp->Prop,(∃m,W 0 m σ H1)/\∀i m σ H,W i m σ H ->
 (J.stop i H/\D.nx σ H)\/(J.go i H/\∃N:St->Hp->Prop,(∀σ' H',N σ' H'->∃m',m' < m/\W (i+1) m' σ' H')/\∀x H',J.yld i H x H'->g x σ H' fun σ2 H2=>tb { D with nx:=N,ct:=N,bk:=D.nx } σ2 H2)
noncomputable def ag (fp:List Addr)(h:Heap):List (Addr×Obj):=fp.filterMap fun b=>(h.get? b).map fun o=>(b,o)
theorem yi {fp:List Addr}{h:Heap}{b:Addr}{o:Obj}(hb:b∈fp)(e:h.get? b=some o):(b,o)∈ag fp h:=mem_filterMap.mpr ⟨b,hb,by rw[e];rfl⟩
theorem q1d {fp:List Addr}{h:Heap}{p:Addr×Obj}(hp:p∈ag fp h):p.1∈fp/\h.get? p.1=some p.2:=by
 obtain⟨b,hb,e⟩:=mem_filterMap.mp hp;cases q:h.get? b with
 |none=>rw[q]at e;cases e
 |some o =>
  rw[q]at e;have e':(b,o)=p:=Option.some.inj e;subst e';exact⟨hb,q⟩
theorem Inv.pinned {pins:List (Addr×Obj)}{σ:St}{H:Hp}{s:Shared}{fp:List Addr}(I:Inv X pins σ H s)(hf:∀b∈fp,FpOk X pins H b)(ho:∀b∈fp,∃o,s.heap.get? b=some o/\∀v,o.data≠.cell v):Inv X (pins++ag fp s.heap) σ H s :=
 I.pins_of fun p hp=>(mem_append.mp hp).elim (fun z=>I.pin p (mem_append_right _ z)) fun z=>by
  obtain⟨hb,e⟩:=q1d z;obtain⟨f0,f1,f2,_⟩:=hf p.1 hb;obtain⟨o,e',d⟩:=ho p.1 hb;rw[e]at e';cases e';exact⟨e,f0,f1,f2,d⟩
theorem Inv.unpinned {pins pl:List (Addr×Obj)}{σ:St}{H:Hp}{s:Shared}(I:Inv X (pins++pl) σ H s):Inv X pins σ H s:=I.pins_of fun p hp=>I.pin p (mem_append_right _ (mem_append_left _ hp))
theorem zi {iter:Expr}{body:List Stmt}{wi:TI}{g:TG}{tb:TS}{pos:Pos}(hp:PassesOwn (model X.prog X.w) X.A X.env X.xe)(hc:X.calm=true)(hi:PI X tg iter wi)(hg:PG X tg g)(hb:PSs X body tb)
  (hs:∀x,foldedSetIterable iter X.env x=pure x:=by intro _;rfl):PS X (.For tg iter body [] pos) (tFor wi g tb):=by
 intro pins s σ H D I h;refine wpAny_For (thnU (hi pins s σ H _ I h) fun v s1 k1 h1=>thnU (hs:=k1) h1 fun itv s2 k2 h2=>?_) hs;obtain⟨it,fp,tn,J,H2,e,I2,T,st2,f2,W,⟨m0,w0⟩,turn⟩:=h2;subst e;have stat:∀{H':Hp},(∀b∈fp,H' b=none)->∀b∈fp,FpOk X pins H' b:=fun hn b hb=>⟨hn b hb,(f2 b hb).2⟩;refine codeAny_forLoop_any (fun n s'=>∃i σ' H',Inv X pins σ' H' s'/\tn i s'.heap/\(∀b∈fp,H' b=none)/\W i n σ' H') ?_ m0 ⟨0,σ,H2,I2,st2,fun b hb=>(f2 b hb).1,w0⟩;rintro n s3 ⟨i,σ3,H3,I3,st3,fr3,w3⟩;rcases turn i n σ3 H3 w3 with ⟨stop,qn⟩|⟨go,N,hN,step⟩
 ·refine wpAny_passesOwn hp (thn (T.done X rfl rfl rfl hc i pins s3 σ3 H3 X.xe I3 (stat fr3) st3 stop) fun r s4 zq=>?_);obtain⟨hr,I4⟩:=zq;subst hr;exact wpAny_execs_nil fun _=>⟨σ3,H3,I4,qn⟩
 ·refine wpAny_passesOwn hp (thnK (T.item X rfl rfl rfl hc i pins s3 σ3 H3 X.xe I3 (stat fr3) st3 go) fun r s4 k4 zq=>?_);obtain⟨u,hr,h4⟩:=zq;subst hr;refine wpAny_passesOwn hp (thn (hs:=k4) h4 fun _ s5 zq=>?_);obtain⟨x,H5,I5,r5,y5,st5,fr5⟩:=zq;have I5':=I5.pinned (stat fr5) (T.obj _ _ st5);refine wpAny_passesOwn hp (thn (hg _ s5 σ3 H5 x u _ I5' r5 (step x H5 y5)) fun _ s6 zq=>?_);obtain⟨σ6,H6,I6,q6⟩:=zq;refine wpAny_passesOwn hp (thn (hb _ s6 σ6 H6 _ I6 q6) fun f s7 q7=>?_);have again:∀{σ7:St}{H7:Hp},Inv X (pins++ag fp s5.heap) σ7 H7 s7->N σ7 H7->∃m,m<n/\∃i σ' H',Inv X pins σ' H' s7/\tn i s7.heap/\(∀b∈fp,H' b=none)/\W i m σ' H':=fun {σ7 H7} I7 n7=>by
   obtain⟨m',hm,w7⟩:=hN σ7 H7 n7;refine⟨m',hm,i+1,σ7,H7,I7.unpinned,T.keep _ _ _ st5 fun b hb o e=>(I7.pin (b,o) (mem_append_right _ (mem_append_right _ (yi hb e)))).1,fun b hb=>?_,w7⟩;obtain⟨o,e,d⟩:=T.obj _ _ st5 b hb;exact(I7.pin (b,o) (mem_append_right _ (mem_append_right _ (yi hb e)))).2.1
  cases f with
  |next=>obtain⟨σ7,H7,I7,n7⟩:=q7;exact again I7 n7
  |cont=>obtain⟨σ7,H7,I7,n7⟩:=q7;exact again I7 n7
  |brk=>obtain⟨σ7,H7,I7,q7⟩:=q7;exact fun _=>⟨σ7,H7,I7.unpinned,q7⟩
  |ret v=>obtain⟨x7,σ7,H7,I7,r7,q7⟩:=q7;exact fun _=>⟨x7,σ7,H7,I7.unpinned,r7,q7⟩
theorem q5k {K:PySem.W.Frag}{a:Addr}{xs:List V}{g:TG}{tb:TS}{D:Ends}{σ:St}{H:Hp}(Pv:Nat->St->Hp->Prop)(h0:Pv 0 σ H)(hl:∀i σ H,i<=xs.length->Pv i σ H->SqL K H a xs)
  (hs:∀i x σ H,xs[i]? = some x->Pv i σ H->g x σ H fun σ2 H2=>tb { D with nx:=Pv (i+1),ct:=Pv (i+1),bk:=D.nx } σ2 H2)(hd:∀σ H,Pv xs.length σ H->D.nx σ H) :
  ∃W:Nat->Nat->St->Hp->Prop,(∃m,W 0 m σ H)/\∀i m σ H,W i m σ H ->
   ((Itl K a).stop i H/\D.nx σ H)\/((Itl K a).go i H/\∃N:St->Hp->Prop,(∀σ' H',N σ' H'->∃m',m' < m/\W (i+1) m' σ' H')/\∀x H',(Itl K a).yld i H x H'->g x σ H' fun σ2 H2=>tb { D with nx:=N,ct:=N,bk:=D.nx } σ2 H2):=by
 refine⟨fun i m σ H=>m=xs.length - i/\i<=xs.length/\Pv i σ H,⟨xs.length,by simp,zero_le _,h0⟩,?_⟩;rintro i m σ H ⟨rfl,hi,p⟩;have q:=hl i σ H hi p;by_cases hlt:i<xs.length
 ·refine .inr ⟨⟨xs,xs[i],q,by simp[hlt]⟩,Pv (i+1),fun σ' H' p'=>⟨xs.length - (i+1),by omega,rfl,hlt,p'⟩,fun x H' y=>?_⟩;obtain⟨e,y⟩:=y;subst e;exact hs i x σ _ (y xs q) p
 ·have e:i=xs.length:=by omega
  subst e;exact .inl ⟨⟨xs,q,le_refl _⟩,hd σ H p⟩
abbrev R2:=V->V->Hp->VK->Prop
def OpR (X:Cx)(f:Value->Value->Sem Value)(r:R2):Prop :=
 ∀(pins:List (Addr×Obj))(s:Shared)(σ:St)(H:Hp)(x y:V)(v u:Value)(Q:VK),Inv X pins σ H s->RelV x v->RelV y u->r x y H Q ->
  wpAny (model X.prog X.w) X.A (f v u) (EP X pins σ Q) X.xe s
def UnR (X:Cx)(f:Value->Sem Value)(r:V->Hp->VK->Prop):Prop :=
 ∀(pins:List (Addr×Obj))(s:Shared)(σ:St)(H:Hp)(x:V)(v:Value)(Q:VK),Inv X pins σ H s->RelV x v->r x H Q ->
  wpAny (model X.prog X.w) X.A (f v) (EP X pins σ Q) X.xe s
def Ec (X:Cx)(f:Value)(r:List V->Hp->VK->Prop):Prop :=
 ∀(pins:List (Addr×Obj))(s:Shared)(σ:St)(H:Hp)(xs:List V)(us:List Value)(Q:VK),Inv X pins σ H s->Vals xs us->r xs H Q ->
  wpAny (model X.prog X.w) X.A (call f us) (EP X pins σ Q) X.xe s
def TruR (X:Cx)(r:V->Hp->(Bool->Hp->Prop)->Prop):Prop :=
 ∀(pins:List (Addr×Obj))(s:Shared)(σ:St)(H:Hp)(x:V)(v:Value)(Q:Bool->Hp->Prop),Inv X pins σ H s->RelV x v->r x H Q ->
  wpAny (model X.prog X.w) X.A (truthy v) (TP X pins σ Q) X.xe s
def tOp (r:R2)(ta tb:TE):TE:=fun σ H Q=>ta σ H fun x H1=>tb σ H1 fun y H2=>r x y H2 Q
def tUn (r:V->Hp->VK->Prop)(ta:TE):TE:=fun σ H Q=>ta σ H fun x H1=>r x H1 Q
def rI (C:Int->Int->Prop)(g:Int->Int->V):R2:=fun x y H Q=>∃i j,x=.int i/\y=.int j/\C i j/\Q (g i j) H
def rI0 (g:Int->Int->V):R2:=fun x y H Q=>∃i j,x=.int i/\y=.int j/\Q (g i j) H
def rU (g:Int->V):V->Hp->VK->Prop:=fun x H Q=>∃i,x=.int i/\Q (g i) H
end
section
variable {X:Cx}{a b c:Expr}{ta tb tc:TE}{pos:Pos}
theorem binT (ha:PE X a ta)(hb:PE X b tb){pins:List (Addr×Obj)}{s:Shared}{σ:St}{H:Hp}{R:V->V->Hp->Prop}(I:Inv X pins σ H s)
  (h:ta σ H fun x H1=>tb σ H1 fun y H2=>R x y H2){Q:Value->Shared->Prop}{f:Value->Value->Sem Value}
  (hf:∀v u s2 x y H2,Inv X pins σ H2 s2->RelV x v->RelV y u->R x y H2->wpAny (model X.prog X.w) X.A (f v u) Q X.xe s2) :
  wpAny (model X.prog X.w) X.A (eval a X.env) (fun v s₁=>wpAny (model X.prog X.w) X.A (eval b X.env) (fun u s₂=>wpAny (model X.prog X.w) X.A (f v u) Q X.xe s₂) X.xe s₁) X.xe s:=by
 refine thn (ha pins s σ H _ I h) fun v s1 ⟨x,H1,I1,r1,q1⟩=>?_;refine thn (hb pins s1 σ H1 _ I1 q1) fun u s2 ⟨y,H2,I2,r2,q2⟩=>?_;exact hf v u s2 x y H2 I2 r1 r2 q2
theorem wf {op:Operator}{r:R2}(ho:OpR X (binaryOp op) r)(ha:PE X a ta)(hb:PE X b tb):PE X (.BinOp a op b pos) (tOp r ta tb):=by
 intro pins s σ H Q I h;exact wpAny_BinOp (binT ha hb I h fun v u s2 x y H2 I2 rx ry q=>ho pins s2 σ H2 x y v u Q I2 rx ry q)
theorem Ai {op:UnaryOp}{r:V->Hp->VK->Prop}(ho:UnR X (unaryOp op) r)(ha:PE X a ta):PE X (.UnaryOp op a pos) (tUn r ta):=by
 intro pins s σ H Q I h;exact UnaryOp_ (thn (ha pins s σ H _ I h) fun v s1 ⟨x,H1,I1,r1,q1⟩=>ho pins s1 σ H1 x v Q I1 r1 q1)
theorem opI {f:Value->Value->Sem Value}{C:Int->Int->Prop}{g:Int->Int->Int}
  (rule:∀(i j:Int)(t u:Tok)(s:Shared)(Q:Value->Shared->Prop)(E:Value->Shared->Prop),C i j->Q (.int (g i j) s.toks) { s with toks:=s.toks+1 }->wpAny (model X.prog X.w) X.A (f (.int i t) (.int j u)) Q E s) :
  OpR X f (rI C fun i j=>.int (g i j)):=by
 intro pins s σ H x y v u Q I rx ry h;obtain⟨i,j,rfl,rfl,hc,q⟩:=h;obtain⟨t,rfl⟩:=rx;obtain⟨t',rfl⟩:=ry;exact rule i j t t' s _ _ hc (fun _=>⟨.int (g i j),H,I.tok _,⟨_,rfl⟩,q⟩)
theorem opI0 {f:Value->Value->Sem Value}{g:Int->Int->Int}
  (rule:∀(i j:Int)(t u:Tok)(s:Shared)(Q:Value->Shared->Prop)(E:Value->Shared->Prop),Q (.int (g i j) s.toks) { s with toks:=s.toks+1 }->wpAny (model X.prog X.w) X.A (f (.int i t) (.int j u)) Q E s) :
  OpR X f (rI0 fun i j=>.int (g i j)):=by
 intro pins s σ H x y v u Q I rx ry h;obtain⟨i,j,rfl,rfl,q⟩:=h;obtain⟨t,rfl⟩:=rx;obtain⟨t',rfl⟩:=ry;exact rule i j t t' s _ _ (fun _=>⟨.int (g i j),H,I.tok _,⟨_,rfl⟩,q⟩)
theorem opB0 {f:Value->Value->Sem Value}{g:Int->Int->Bool}
  (rule:∀(i j:Int)(t u:Tok)(s:Shared)(Q:Value->Shared->Prop)(E:Value->Shared->Prop),Q (.bool (g i j)) s->wpAny (model X.prog X.w) X.A (f (.int i t) (.int j u)) Q E s) :
  OpR X f (rI0 fun i j=>.bl (g i j)):=by
 intro pins s σ H x y v u Q I rx ry h;obtain⟨i,j,rfl,rfl,q⟩:=h;obtain⟨t,rfl⟩:=rx;obtain⟨t',rfl⟩:=ry;exact rule i j t t' s _ _ (fun _=>⟨.bl (g i j),H,I,rfl,q⟩)
def CMul (i j:Int):Prop:=(-(2 ^ 64)<i/\i<2 ^ 64)\/(-(2 ^ 64)<j/\j<2 ^ 64)
theorem CMul.ok {i j:Int}(h:CMul i j):IntMulOk i j:=by
 rcases h with ⟨h1,h2⟩|⟨h1,h2⟩
 ·exact .of_left (intBits_le_64 h1 h2)
 ·exact .of_right (intBits_le_64 h1 h2)
theorem Ka:OpR X (binaryOp .Add) (rI0 fun i j=>.int (i+j)):=opI0 fun _ _ _ _ _ _ _ q=>add_int q
theorem j8k:OpR X (binaryOp .Sub) (rI0 fun i j=>.int (i - j)):=opI0 fun _ _ _ _ _ _ _ q=>sub_int q
theorem De:OpR X (binaryOp .Mult) (rI CMul fun i j=>.int (i * j)):=opI fun _ _ _ _ _ _ _ hc q=>mul_int q hc.ok
theorem Wa:OpR X (binaryOp .Mod) (rI (fun _ j=>0<j) fun i j=>.int (i % j)):=opI fun i j _ _ _ _ _ hc q=>by
 have h1:(0:Int)<j:=hc;exact mod_int' (by omega) (by rw[Int.fmod_eq_emod_of_nonneg i (by omega)];exact q)
theorem unI {f:Value->Sem Value}{g:Int->Int}
  (rule:∀(i:Int)(t:Tok)(s:Shared)(Q:Value->Shared->Prop)(E:Value->Shared->Prop),Q (.int (g i) s.toks) { s with toks:=s.toks+1 }->wpAny (model X.prog X.w) X.A (f (.int i t)) Q E s) :
  UnR X f (rU fun i=>.int (g i)):=by
 intro pins s σ H x v Q I rx h;obtain⟨i,rfl,q⟩:=h;obtain⟨t,rfl⟩:=rx;exact rule i t s _ _ (fun _=>⟨.int (g i),H,I.tok _,⟨_,rfl⟩,q⟩)
theorem Bi:UnR X (unaryOp .USub) (rU fun i=>.int (-i)):=unI fun _ _ _ _ _ q=>neg_int q
noncomputable def scal:V->V->Bool
 |.non,.non=>true | .non,.int _=>true | .int _,.non=>true | .non,.bl _=>true | .bl _,.non=>true | .non,.str _=>true | .str _,.non=>true
 |.int _,.int _=>true | .bl _,.bl _=>true | .str _,.str _=>true | .byt _,.byt _=>true
 |.int _,.str _=>true | .str _,.int _=>true | .bl _,.str _=>true | .str _,.bl _=>true
 |_,_=>false
def rEq:R2:=fun x y H Q=>scal x y=true/\Q (.bl (decide (x=y))) H
def rNe:R2:=fun x y H Q=>scal x y=true/\Q (.bl (!decide (x=y))) H
theorem jo {i j:Int}:decide (V.int i=V.int j)=(i == j):=by
 rw[Bool.eq_iff_iff];simp
theorem ko {i j:Bool}:decide (V.bl i=V.bl j)=(i == j):=by
 rw[Bool.eq_iff_iff];simp
theorem oo {i j:Str}:decide (V.str i=V.str j)=(i == j):=by
 rw[Bool.eq_iff_iff];simp
theorem qo {i j:Array UInt8}:decide (V.byt i=V.byt j)=(i.toList == j.toList):=by
 rw[Bool.eq_iff_iff];cases i;cases j;simp
theorem Za {pins:List (Addr×Obj)}{σ:St}{H:Hp}{s:Shared}{Q:VK}{k k':Bool}(I:Inv X pins σ H s)(q:Q (.bl k) H)(e:k=k'):EP X pins σ Q (.bool k') s:=by
 subst e;exact(fun _=>⟨.bl k,H,I,rfl,q⟩)
theorem Ra:OpR X (compareOp .Eq) rEq:=by
 intro pins s σ H x y v u Q I rx ry h;obtain⟨hs,q⟩:=h;cases x with
 |non =>
  cases rx;cases y with
  |non=>cases ry;exact PySem.EqNone.eq_none_none (Za I q (by simp))
  |bl j=>cases ry;exact PySem.EqNone.eq_none_bool (Za I q (by simp))
  |int j=>obtain⟨t',rfl⟩:=ry;exact PySem.EqNone.eq_none_int (Za I q (by simp))
  |str j=>obtain⟨t',rfl⟩:=ry;exact PySem.EqNone.eq_none_str (Za I q (by simp))
  |_=>exact absurd (show false=true from hs) Bool.false_ne_true
 |bl i =>
  cases rx;cases y with
  |non=>cases ry;exact PySem.EqNone.eq_bool_none (Za I q (by simp))
  |bl j=>cases ry;exact eq_bool (Za I q ko)
  |str j=>obtain⟨t',rfl⟩:=ry;exact PySem.EqMixed.eq_bool_str (Za I q (by simp))
  |_=>exact absurd (show false=true from hs) Bool.false_ne_true
 |int i =>
  obtain⟨t,rfl⟩:=rx;cases y with
  |non=>cases ry;exact PySem.EqNone.eq_int_none (Za I q (by simp))
  |int j=>obtain⟨t',rfl⟩:=ry;exact eq_int (Za I q jo)
  |str j=>obtain⟨t',rfl⟩:=ry;exact PySem.EqMixed.eq_int_str (Za I q (by simp))
  |_=>exact absurd (show false=true from hs) Bool.false_ne_true
 |str i =>
  obtain⟨t,rfl⟩:=rx;cases y with
  |non=>cases ry;exact PySem.EqNone.eq_str_none (Za I q (by simp))
  |bl j=>cases ry;exact PySem.EqMixed.eq_str_bool (Za I q (by simp))
  |int j=>obtain⟨t',rfl⟩:=ry;exact PySem.EqMixed.eq_str_int (Za I q (by simp))
  |str j=>obtain⟨t',rfl⟩:=ry;exact eq_str (Za I q oo)
  |_=>exact absurd (show false=true from hs) Bool.false_ne_true
 |byt i =>
  obtain⟨t,rfl⟩:=rx;cases y with
  |byt j=>obtain⟨t',rfl⟩:=ry;exact W.eq_bytes (Za I q qo)
  |_=>exact absurd (show false=true from hs) Bool.false_ne_true
 |_=>cases y<;>exact absurd (show false=true from hs) Bool.false_ne_true
theorem vc:OpR X (compareOp .NotEq) rNe:=by
 intro pins s σ H x y v u Q I rx ry h;obtain⟨hs,q⟩:=h;cases x with
 |non =>
  cases rx;cases y with
  |non=>cases ry;exact PySem.EqNone.ne_none_none (Za I q (by simp))
  |bl j=>cases ry;exact PySem.EqNone.ne_none_bool (Za I q (by simp))
  |int j=>obtain⟨t',rfl⟩:=ry;exact PySem.EqNone.ne_none_int (Za I q (by simp))
  |str j=>obtain⟨t',rfl⟩:=ry;exact PySem.EqNone.ne_none_str (Za I q (by simp))
  |_=>exact absurd (show false=true from hs) Bool.false_ne_true
 |bl i =>
  cases rx;cases y with
  |non=>cases ry;exact PySem.EqNone.ne_bool_none (Za I q (by simp))
  |bl j=>cases ry;exact ne_bool (Za I q (congrArg not ko))
  |str j=>obtain⟨t',rfl⟩:=ry;exact PySem.EqMixed.ne_bool_str (Za I q (by simp))
  |_=>exact absurd (show false=true from hs) Bool.false_ne_true
 |int i =>
  obtain⟨t,rfl⟩:=rx;cases y with
  |non=>cases ry;exact PySem.EqNone.ne_int_none (Za I q (by simp))
  |int j=>obtain⟨t',rfl⟩:=ry;exact ne_int (Za I q (congrArg not jo))
  |str j=>obtain⟨t',rfl⟩:=ry;exact PySem.EqMixed.ne_int_str (Za I q (by simp))
  |_=>exact absurd (show false=true from hs) Bool.false_ne_true
 |str i =>
  obtain⟨t,rfl⟩:=rx;cases y with
  |non=>cases ry;exact PySem.EqNone.ne_str_none (Za I q (by simp))
  |bl j=>cases ry;exact PySem.EqMixed.ne_str_bool (Za I q (by simp))
  |int j=>obtain⟨t',rfl⟩:=ry;exact PySem.EqMixed.ne_str_int (Za I q (by simp))
  |str j=>obtain⟨t',rfl⟩:=ry;exact ne_str (Za I q (congrArg not oo))
  |_=>exact absurd (show false=true from hs) Bool.false_ne_true
 |byt i =>
  obtain⟨t,rfl⟩:=rx;cases y with
  |byt j=>obtain⟨t',rfl⟩:=ry;exact W.ne_bytes (Za I q (congrArg not qo))
  |_=>exact absurd (show false=true from hs) Bool.false_ne_true
 |_=>cases y<;>exact absurd (show false=true from hs) Bool.false_ne_true
theorem Vg:OpR X (compareOp .Lt) (rI0 fun i j=>.bl (decide (i<j))):=opB0 fun _ _ _ _ _ _ _ q=>lt_int q
theorem so:OpR X (compareOp .LtE) (rI0 fun i j=>.bl (decide (i<=j))):=opB0 fun _ _ _ _ _ _ _ q=>le_int q
theorem Wg:OpR X (compareOp .Gt) (rI0 fun i j=>.bl (decide (j<i))):=opB0 fun _ _ _ _ _ _ _ q=>gt_int q
theorem op_ge:OpR X (compareOp .GtE) (rI0 fun i j=>.bl (decide (j<=i))):=opB0 fun _ _ _ _ _ _ _ q=>ge_int q
theorem Ee:OpR X (compareOp .Is) (fun x y H Q=>y=.non/\Q (.bl (decide (x=.non))) H):=by
 intro pins s σ H x y v u Q I rx ry h;obtain⟨rfl,q⟩:=h;cases ry;refine is_none_gen (Za I q ?_);cases x<;>first
  |(cases rx;rfl)
  |(obtain⟨t,rfl⟩:=rx;rfl)
theorem fk:OpR X (compareOp .IsNot) (fun x y H Q=>y=.non/\Q (.bl (!decide (x=.non))) H):=by
 intro pins s σ H x y v u Q I rx ry h;obtain⟨rfl,q⟩:=h;cases ry;refine isnot_none_gen (Za I q ?_);cases x<;>first
  |(cases rx;rfl)
  |(obtain⟨t,rfl⟩:=rx;rfl)
theorem za (b:Expr){op:CmpOp}(h:op≠.In:=by decide)(h2:op≠.NotIn:=by decide):behindInMarks op b=false:=by
 have e1:(op == CmpOp.In)=false:=by cases op<;>first|rfl|exact absurd rfl h
 have e2:(op == CmpOp.NotIn)=false:=by cases op<;>first|rfl|exact absurd rfl h2
 cases b<;>simp[behindInMarks,e1,e2]
theorem uo {op:CmpOp}{r:R2}(ho:OpR X (compareOp op) r)(ha:PE X a ta)(hb:PE X b tb)(hm:behindInMarks op b=false):PE X (.Compare a [op] [b] pos) (tOp r ta tb):=by
 intro pins s σ H Q I h;exact wpAny_Compare1 (binT ha hb I h fun v u s2 x y H2 I2 rx ry q=>ho pins s2 σ H2 x y v u Q I2 rx ry q) hm
def q2z (t:TE):TT:=fun σ H Q=>t σ H fun x H'=>∃k,x=.bl k/\Q k H'
theorem Ab {op:CmpOp}{r:R2}(ho:OpR X (compareOp op) r)(ha:PE X a ta)(hb:PE X b tb)(hm:behindInMarks op b=false):PT X (.Compare a [op] [b] pos) (q2z (tOp r ta tb)):=by
 intro pins s σ H Q I h;refine wpAny_isTrue_Compare1 (thn (ha pins s σ H _ I h) fun v s1 ⟨x,H1,I1,r1,q1⟩=>thn (hb pins s1 σ H1 _ I1 q1) fun u s2 ⟨y,H2,I2,r2,q2⟩ =>
  thn (ho pins s2 σ H2 x y v u _ I2 r1 r2 q2) fun c s3 ⟨z,H3,I3,r3,k,e,q3⟩=>?_) hm
 subst e;cases r3;exact wpAny_truthy_bool (fun _=>⟨H3,I3,q3⟩)
def j9n (r r':R2)(ta tb tc:TE):TE:=fun σ H Q=>ta σ H fun x H1=>tb σ H1 fun y H2=>r x y H2 fun z H3=>∃k,z=.bl k /\
 (if k=true then tc σ H3 fun w' H4=>r' y w' H4 Q else Q (.bl false) H3)
theorem vo {op op':CmpOp}{r r':R2}(ho:OpR X (compareOp op) r)(ho':OpR X (compareOp op') r')(ha:PE X a ta)(hb:PE X b tb)(hc:PE X c tc)
  (hm:lastMarks [op,op'] [b,c]=false:=by with_unfolding_all rfl):PE X (.Compare a [op,op'] [b,c] pos) (j9n r r' ta tb tc):=by
 intro pins s σ H Q I h;refine Compare_chain (thn (ha pins s σ H _ I h) fun v s1 ⟨x,H1,I1,r1,q1⟩=>chain_link (thn (hb pins s1 σ H1 _ I1 q1) fun u s2 ⟨y,H2,I2,r2,q2⟩ =>
  thn (ho pins s2 σ H2 x y v u _ I2 r1 r2 q2) fun d s3 ⟨z,H3,I3,r3,k,e,q3⟩=>?_)) hm
 subst e;cases r3;refine wpAny_truthy_bool ?_;cases k with
 |false=>exact ite_ff (fun _=>⟨.bl false,H3,I3,rfl,q3⟩)
 |true=>exact ite_tt (chain_last (thn (hc pins s3 σ H3 _ I3 q3) fun w' s4 ⟨z',H4,I4,r4,q4⟩=>ho' pins s4 σ H4 y z' u w' Q I4 r2 r4 q4))
def TruV (K:W.Frag)(x:V)(H:Hp)(k:Bool):Prop :=
 match x with
 |.non=>k=false
 |.bl b=>k=b
 |.int i=>k=(i != 0)
 |.str y=>y.length<=sizeLine/\k=((y.length:Int) != 0)
 |.byt y=>y.size<=sizeLine/\k=((y.size:Int) != 0)
 |.ref p=>(∃xs,SqL K H p xs/\k = !xs.isEmpty)\/(∃xs,SqT K H p xs/\k = !xs.isEmpty) \/ ∃kvs,H p=some (.dK kvs)/\k = !kvs.isEmpty
 |_=>False
theorem x3o {κ:Type}{kvs:List (κ×V)}{vs:List (κ×Value)}(r:KV kvs vs):(!vs.isEmpty) = !kvs.isEmpty:=by
 cases r<;>rfl
theorem wo {xs:List V}{its:List Value}(r:Vals xs its):(!its.toArray.isEmpty) = !xs.isEmpty:=by
 cases r<;>simp
theorem xf:(sizeLine:Nat)<2 ^ 63:=by rw[sizeLine_eq];decide
theorem j5z:TruR X (fun x H Q=>∃k,TruV X.K x H k/\Q k H):=by
 intro pins s σ H x v Q I rx h;obtain⟨k,e,q⟩:=h;have hl:=xf;have hs:sizeLine=16777216:=sizeLine_eq;cases x with
 |non =>
  cases rx;have e':k=false:=e;subst e';exact truthy_none (fun _=>⟨H,I,q⟩)
 |bl b =>
  cases rx;have e':k=b:=e;subst e';exact wpAny_truthy_bool (fun _=>⟨H,I,q⟩)
 |int i =>
  obtain⟨t,rfl⟩:=rx;have e':k=(i != 0):=e;subst e';exact PySem.P.truthy_int (fun _=>⟨H,I,q⟩)
 |str y =>
  obtain⟨t,rfl⟩:=rx;obtain⟨hy,e'⟩:y.length<=sizeLine/\k=((y.length:Int) != 0):=e;subst e';exact PySem.P.truthy_str (by omega) (fun _=>⟨H,I.tok _,q⟩)
 |byt y =>
  obtain⟨t,rfl⟩:=rx;obtain⟨hy,e'⟩:y.size<=sizeLine/\k=((y.size:Int) != 0):=e;subst e';exact W.truthy_bytes (by omega) (fun _=>⟨H,I.tok _,q⟩)
 |ref p =>
  cases rx;have e':(∃xs,SqL X.K H p xs/\k = !xs.isEmpty)\/(∃xs,SqT X.K H p xs/\k = !xs.isEmpty) \/ ∃kvs,H p=some (.dK kvs)/\k = !kvs.isEmpty:=e;rcases e' with ⟨xs,hx,e'⟩|⟨xs,hx,e'⟩|⟨kvs,hx,e'⟩
  ·subst e';obtain⟨its,r,pl,hz⟩:=I.list hx;have hlen:=r.length;exact wpAny_truthy_list pl.isList (by simp only[size_toArray];omega) (fun _=>⟨H,I.tok _,by rw[wo r];exact q⟩)
  ·subst e';obtain⟨its,r,pl,hz⟩:=I.tuple hx;have hlen:=r.length;exact truthy_tuple pl (by simp only[size_toArray];omega) (fun _=>⟨H,I.tok _,by rw[wo r];exact q⟩)
  ·subst e';obtain⟨hz,hS,vs,r,m⟩:kvs.length<=sizeLine/\(p == sysModules)=false/\∃vs,KV kvs vs/\s.heap.DictOf (nc X.prog X.w) p vs:=I.hok p _ hx;have hlen:kvs.length=vs.length:=Paired.length r;exact wpAny_truthy_dict hS m (by omega) (fun _=>⟨H,I.tok _,by rw[x3o r];exact q⟩)
 |_=>exact(show False from e).elim
theorem q2q (ha:PE X a ta)(he:∀whole,isTrue a X.env whole=(do let v <-whole;standAt a.pos;holding [v] (truthy v))) :
  PT X a (fun σ H Q=>ta σ H fun x H'=>∃k,TruV X.K x H' k/\Q k H'):=by
 intro pins s σ H Q I h;exact isTrue_plain (thn (ha pins s σ H _ I h) fun v s1 ⟨x,H1,I1,r1,q1⟩=>j5z pins s1 σ H1 x v Q I1 r1 q1) (he _)
theorem Bb:OpR X (binaryOp .Add) (fun x y H Q=>∃i j,x=.str i/\y=.str j/\i.length+j.length<=sizeLine/\Q (.str (i++j)) H):=by
 intro pins s σ H x y v u Q I rx ry h;obtain⟨i,j,rfl,rfl,hz,q⟩:=h;obtain⟨t,rfl⟩:=rx;obtain⟨t',rfl⟩:=ry;exact add_str (fun t' tk=>(fun _=>⟨.str (i++j),H,I.tok _,⟨_,rfl⟩,q⟩)) hz
theorem Mc {x:V}{us:List Value}(r:Vals [x] us):∃u,us=[u]/\RelV x u:=by
 cases r with
 |cons r1 r2=>cases r2;exact⟨_,rfl,r1⟩
theorem gk {x y:V}{us:List Value}(r:Vals [x,y] us):∃u w',us=[u,w']/\RelV x u/\RelV y w':=by
 cases r with
 |cons r1 r2 =>
  cases r2 with
  |cons r3 r4=>cases r4;exact⟨_,_,rfl,r1,r3⟩
theorem yo:Ec X (.type "int") (fun xs H Q=>(∃i,xs=[.int i]/\Q (.int i) H) \/ ∃k,xs=[.bl k]/\Q (.int (if k then 1 else 0)) H):=by
 intro pins s σ H xs us Q I r h;rcases h with ⟨i,rfl,q⟩|⟨k,rfl,q⟩
 ·obtain⟨u,rfl,t,rfl⟩:=Mc r;exact call_int_int (fun _=>⟨.int i,H,I,⟨_,rfl⟩,q⟩)
 ·obtain⟨u,rfl,r1⟩:=Mc r;cases r1;exact call_int_bool (fun _=>⟨.int (if k then 1 else 0),H,I.tok _,⟨_,rfl⟩,q⟩)
theorem zo:Ec X (.builtin "ord") (fun xs H Q=>∃x,xs=[.str x]/\x.length=1/\Q (.int (x.cps.getD 0 0:Nat)) H):=by
 intro pins s σ H xs us Q I r h;obtain⟨x,rfl,hz,q⟩:=h;obtain⟨u,rfl,t,rfl⟩:=Mc r;exact ord_of_one hz (fun _=>⟨.int _,H,I.tok _,⟨_,rfl⟩,q⟩)
structure ObjM (h:Heap)(x dx C:Addr)(mA:Str->Option Value):Prop where
 obj:h.get? x=some (instObj C dx)
 ns:h.Ns1 dx mA
 ne:dx≠x
theorem x8r {h:Heap}{dx:Addr}{mA:Str->Option Value}(n:h.Ns1 dx mA):∃od,h.get? dx=some od/\∀name,lookIn name od=some (mA name):=by
 obtain⟨o,es,ep,ho,hd,hk,_,hm⟩:=n;refine⟨o,ho,fun name=>?_⟩;have e:=hm name;unfold nsFind findBy at e;rw[<-Array.find?_toList]at e;unfold lookIn;rw[hd];dsimp only;split
 ·rename_i y q;rw[q]at e;exact congrArg some e
 ·rename_i q;rw[q]at e;have a:es.toList.any (·.refKey)=false:=by
   rw[List.any_eq_false];intro y hy;obtain⟨z,t,hkey⟩:=hk y (Array.mem_toList_iff.mp hy);simp[DictEntry.refKey,hkey]
  have a':¬es.toList.any (·.refKey)=true:=by rw[a];exact Bool.false_ne_true
  rw[if_neg a'];exact congrArg some e
theorem ObjM.look {h:Heap}{x dx C:Addr}{mA:Str->Option Value}(I:ObjM h x dx C mA):∃od,W.InstAt h x (instObj C dx) C (some od)/\∀name,lookIn name od=some (mA name) :=
 let ⟨od,ho,hl⟩:=x8r I.ns
 ⟨od,⟨I.obj,rfl,rfl,ho⟩,hl⟩
end
section
variable {P:Program}{w:World}{H H':Hp}{h h':Heap}{a C dx:Addr}{fs fs':List (Str×V)}
theorem j2m (hok:HOk P w H h)(e:H a=some (.ins C dx fs)):∃mA,ObjM h a dx C mA/\(∀f,RelO (fs.lookup f) (mA f))/\PySem.Within mA (fs.map (·.1))/\fs.length<=1000/\H dx=some (.own a):=by
 obtain⟨d,z,ne,ob,mA,n,r,q⟩:=(show ObjOk P w H h a (.ins C dx fs) from hok a _ e);exact⟨mA,⟨ob,n,ne⟩,r,q,z,d⟩
structure Cls (K:W.Frag)(C:Addr):Prop where
 pg:plainGet K C Str.empty=true
 hd:W.hasDictIn K C=true
 po:W.plainOver K C=true
 sa:findIn K (.ref C) "__setattr__" = some (some (.builtin "object.__setattr__"))
theorem Cls.get {K:W.Frag}{C:Addr}(c:Cls K C)(f:Str):plainGet K C f=true:=c.pg
structure Con (K:W.Frag)(C:Addr)(f:Str)(v:V)(u:Value):Prop where
 at_:findIn K (.ref C) f=some (some u)
 rel:RelV v u
 get:specialIn K u "__get__" = some none
 cp:W.copiedNames.contains f=false
structure Meth (K:W.Frag)(C:Addr)(m:Str)(f:Addr):Prop where
 at_:findIn K (.ref C) m=some (some (.ref f))
 fn:isFn K (.ref f)=true
 kp:keepIn K (.ref f)=true
variable {X:Cx}{pins:List (Addr×Obj)}{σ:St}{s:Shared}{f:Str}{v:V}{A:Around}{E:Value->Shared->Prop}
theorem Ao {prog:Program}{w:World}{env:Env}{e:Expr}{f:Str}{pos:Pos}{s:Shared}{Q:Value->Shared->Prop}(hb:attributeBase e f env (eval e env)=eval e env)
  (h:wpAny (model prog w) A (eval e env) (fun o s₁=>wpAny (model prog w) A (getAttr o f true) Q E s₁) E s):wpAny (model prog w) A (eval (.Attribute e f pos) env) Q E s :=
 Attribute_any_ h (by rw[arm_eval_Attribute,hb])
variable {Q:Value->Shared->Prop}{c:Value}{b:Bool}
inductive TyOf (K:W.Frag)(H:Hp):V->Value->Prop where
 |non:TyOf K H .non (.type "NoneType")
 |bl (x:Bool):TyOf K H (.bl x) (.type "bool")
 |int (i:Int):TyOf K H (.int i) (.type "int")
 |str (x:Str):TyOf K H (.str x) (.type "str")
 |flt (x:UInt64):TyOf K H (.flt x) (.type "float")
 |lst {a:Addr}{xs:List V}(e:H a=some (.lst xs)):TyOf K H (.ref a) (.type "list")
 |frz {a:Addr}{o:Obj}{xs:List V}(e:H a=some (.frz o (.lst xs))):TyOf K H (.ref a) (.type "list")
 |tup {a:Addr}{xs:List V}(e:H a=some (.tup xs)):TyOf K H (.ref a) (.type "tuple")
 |dK {a:Addr}{kvs:List (Key×V)}(e:H a=some (.dK kvs)):TyOf K H (.ref a) (.type "dict")
 |dT {a:Addr}{kvs:List (List KeyO×V)}(e:H a=some (.dT kvs)):TyOf K H (.ref a) (.type "dict")
 |ins {a C dx:Addr}{fs:List (Str×V)}(e:H a=some (.ins C dx fs)) (cl:Cls K C) (ha:findIn K (.ref C) "__class__" = some (some (.builtin "object.__class__")))
   (hn:specialIn K (.builtin "object.__class__") "__get__" = some (some (.builtin "getset_descriptor.__get__"))) (htk:W.takesIn K (.builtin "object.__class__")=some true)
   (hm:mroIn K C (.type "object")=some true):TyOf K H (.ref a) (.ref C)
theorem x5y {x:V}{u t:Value}(I:Inv X pins σ H s)(rx:RelV x u)(ty:TyOf X.K H x t)(e:kitOne X.K t c=some b)(h:∀tk,Q (.bool b) { s with toks:=tk }) :
  wpAny (model X.prog X.w) A (call (.builtin "isinstance") [u,c]) Q E s:=by
 cases ty with
 |non=>cases(show u=Value.none from rx);exact kia_one kitx_none I.kIn True.intro e (fun z=>nomatch z) h
 |bl y=>cases(show u=Value.bool y from rx);exact kia_one W.kitx_bool I.kIn True.intro e (fun z=>nomatch z) h
 |int i=>obtain⟨t,q⟩:=(show ∃t,u=Value.int i t from rx);cases q;exact kia_one W.kitx_int I.kIn True.intro e (fun z=>nomatch z) h
 |str y=>obtain⟨t,q⟩:=(show ∃t,u=Value.str y t from rx);cases q;exact kia_one W.kitx_str I.kIn True.intro e (fun z=>nomatch z) h
 |flt y=>obtain⟨t,q⟩:=(show ∃t,u=Value.float y t from rx);cases q;exact kia_one W.kitx_float I.kIn True.intro e (fun z=>nomatch z) h
 | @lst a xs ea =>
  cases(show u=Value.ref a from rx);obtain⟨_,_,n,_,h1⟩:=(show ObjOk X.prog X.w H s.heap a (.lst xs) from I.hok a _ ea);exact kia_one kitx_list I.kIn ⟨_,h1,rfl⟩ e (fun z=>nomatch z) h
 | @frz a ob xs ea =>
  cases(show u=Value.ref a from rx);obtain⟨_,_,_,n,_,h1⟩:=(show ObjOk X.prog X.w H s.heap a (.frz ob (.lst xs)) from I.hok a _ ea);exact kia_one kitx_list I.kIn ⟨_,h1,rfl⟩ e (fun z=>nomatch z) h
 | @tup a xs ea =>
  cases(show u=Value.ref a from rx);obtain⟨_,_,_,p⟩:=(show ObjOk X.prog X.w H s.heap a (.tup xs) from I.hok a _ ea);obtain⟨o,h1,h2,_⟩:=p;exact kia_one W.kitx_tuple I.kIn ⟨o,h1,h2⟩ e (fun z=>nomatch z) h
 | @dK a kvs ea =>
  cases(show u=Value.ref a from rx);obtain⟨_,_,vs,_,p⟩:=(show ObjOk X.prog X.w H s.heap a (.dK kvs) from I.hok a _ ea);obtain⟨o,es,ep,h1,h2,_⟩:=p;exact kia_one kitx_dict I.kIn ⟨o,h1,h2.1⟩ e (fun z=>nomatch z) h
 | @dT a kvs ea =>
  cases(show u=Value.ref a from rx);obtain⟨_,_,xs,_,o,es,ep,h1,h2,_⟩:=(show ObjOk X.prog X.w H s.heap a (.dT kvs) from I.hok a _ ea);exact kia_one kitx_dict I.kIn ⟨o,h1,h2.1⟩ e (fun z=>nomatch z) h
 | @ins a C dx fs ea cl ha hn htk hm =>
  cases(show u=Value.ref a from rx);obtain⟨mA,O,_⟩:=j2m I.hok ea;obtain⟨od,J,_⟩:=O.look;exact kia_one (W.kitx_own (cl.get _) cl.hd ha hn htk hm) I.kIn J e (fun z=>nomatch z) h
structure Room (k:Nat)(A:Around):Prop where
 hd:A.handled=none
 dp:A.depth+2 * k+5<recursionLimit
 un:A.units+16 * k+200<cLine
theorem Room.mono {j k:Nat}{A:Around}(r:Room k A)(h:j<=k):Room j A:=⟨r.hd,by have:=r.dp;omega,by have:=r.un;omega⟩
theorem Room.deeper {k:Nat}{A:Around}(r:Room (k+1) A)(env:Env):Room k (A.deeper env) :=
 ⟨r.hd,by have:=r.dp;show A.depth+1+2 * k+5<_;omega,by have:=r.un;show A.units+3+16 * k+200<_;omega⟩
theorem x4a {A:Around}{C:Addr}{us:List Value}{kw:List (Str×Value)}:(A.under (.builtin "type.__call__" ⟨.ref C::us,kw⟩)).depth=A.depth+1:=by
 first|rfl|simp[Around.under,Code.weight,Code.isCreation,Code.isGuard,Code.isCaller,Code.frames,Code.isFrame,guardIds]
theorem x3t {A:Around}{C:Addr}{us:List Value}{kw:List (Str×Value)}:(A.under (.builtin "type.__call__" ⟨.ref C::us,kw⟩)).units=A.units+1:=by
 first|rfl|simp[Around.under,Code.cUnits,Code.frames,Code.isFrame]
theorem Room.make {k:Nat}{A:Around}(r:Room (k+1) A)(C:Addr)(us:List Value)(kw:List (Str×Value)):Room k (A.under (.builtin "type.__call__" ⟨.ref C::us,kw⟩)) :=
 ⟨r.hd,by have:=r.dp;rw[x4a];omega,by have:=r.un;rw[x3t];omega⟩
theorem Room.depth {k:Nat}{A:Around}(r:Room k A):A.depth<recursionLimit:=by have:=r.dp;omega
def tNil:TA:=fun _ H Q=>Q [] H
def y2i (ta:TE)(tr:TA):TA:=fun σ H Q=>ta σ H fun x H1=>tr σ H1 fun xs H2=>Q (x::xs) H2
variable {e:Expr}{es:List Expr}{te:TE}{t:TA}{pos:Pos}
theorem Ca:PA X [] tNil:=fun _ _ _ _ H Q I h=>Calls.spliced_nil (fun _=>⟨[],H,I,.nil,h⟩)
theorem xa (ha:PE X e te)(hr:PA X es t)(hs:starEach (e::es) X.env=(false,eval e X.env)::starEach es X.env:=by rfl):PA X (e::es) (y2i te t):=by
 intro pos pins s σ H Q I h;rw[hs];show wpAny _ _ (spliced ((false,eval e X.env)::backTo pos (starEach es X.env))) _ _ s;refine Calls.spliced_cons (thn (ha pins s σ H _ I h) fun u s1 ⟨x,H1,I1,r1,q1⟩=>?_);exact thn (hr pos pins s1 σ H1 _ I1 q1) fun us s2 ⟨xs,H2,I2,r2,q2⟩=>(fun _=>⟨x::xs,H2,I2,.cons r1 r2,q2⟩)
def tTup (t:TA):TE:=fun σ H Q=>t σ H fun xs H1=>xs.length<=sizeLine/\∀p,H1 p=none->Q (.ref p) (upd H1 p (.tup xs))
def tLst (t:TA):TE:=fun σ H Q=>t σ H fun xs H1=>xs.length<=sizeLine/\∀p,H1 p=none->Q (.ref p) (upd H1 p (.lst xs))
theorem Ci {x1}(h:PA X es t):PE X (.Tuple es x1 pos) (tTup t):=by
 intro pins s σ H Q I hq;refine wpAny_Tuple_spliced (thn (h pos pins s σ H _ I hq) fun us s1 ⟨xs,H1,I1,r,z,q⟩=>⟨by rw[<-r.length];exact z,?_⟩);have hf:H1 s1.heap.objs.size=none:=I1.hok.fresh (le_refl _);refine(fun _=>⟨.ref s1.heap.objs.size,upd H1 s1.heap.objs.size (.tup xs),I1.laid (t':=s1.toks) (fun b u e=>get?_push_of_some _ e) (le_refl _) ?_,rfl,q _ hf⟩);exact⟨z,us,r,⟨_,get?_push_size _ rfl,rfl,_,rfl⟩⟩
theorem Fc (h:PA X es t):PE X (.List es pos) (tLst t):=by
 intro pins s σ H Q I hq;refine wpAny_List_spliced (thn (h pos pins s σ H _ I hq) fun us s1 ⟨xs,H1,I1,r,z,q⟩=>⟨by rw[<-r.length];exact z,?_⟩);have hf:H1 s1.heap.objs.size=none:=I1.hok.fresh (le_refl _);refine(fun _=>⟨.ref s1.heap.objs.size,upd H1 s1.heap.objs.size (.lst xs),I1.laid (t':=s1.toks) (fun b u e=>get?_push_of_some _ e) (le_refl _) ?_,rfl,q _ hf⟩);exact⟨z,us,0,r,get?_push_size _ rfl⟩
abbrev Sp:=List V->Hp->VK->XK->Prop
abbrev CXT:=List Env->Hp->Shared->XK->Value->Shared->Prop
end
section
structure Env0 (P:Program)(w:World)(K:W.Frag)(mg:Str->Option Value)(base:Heap)(A:Around)(outer:List Env)(s:Shared)(H:Hp):Prop where
 frames:A.frames=some outer
 mod:Mod K mg base
 bs:∀b o,base.get? b=some o->s.heap.get? b=some o/\H b=none
 bsz:base.objs.size<=s.heap.objs.size
 funs:s.heap.FunFrames base outer
 frf:∀b∈frs outer,H b=none
 lam:Wj H
 hok:HOk P w H s.heap
 bare:AllBare s.gens
 pos:tk0<=s.toks
def CE (outer:List Env)(P:Program)(w:World)(H:Hp)(s:Shared)(Q:VK)(u:Value)(s':Shared):Prop :=
 ∃v H',s'.os=s.os/\AllBare s'.gens/\Un (frs outer) [] H H' s.heap s'.heap/\HOk P w H' s'.heap/\RelV v u/\Q v H'
def CR (CX:CXT)(outer:List Env)(P:Program)(w:World)(H:Hp)(s:Shared)(Q:VK)(E:XK)(r:Result)(s':Shared):Prop :=
 match r with
 |.ok (.ret u)=>CE outer P w H s Q u s'
 |.ok _=>False
 |.error e=>CX outer H s E e s'
structure FnOk (P:Program)(w:World)(K:W.Frag)(mg:Str->Option Value)(base:Heap)(CX:CXT)(k:Nat)(f:Addr)(fd:FuncData)(ps:List Str)(sp:Sp):Prop where
 len:∀vs H Q E,sp vs H Q E->vs.length=ps.length
 run:∀(A:Around)(outer:List Env)(s:Shared)(H:Hp)(args:Args)(us:List Value)(vs:List V)(Q:VK)(E:XK),Room k A->Env0 P w K mg base A outer s H->BindsTo s fd args (ps.zip us)->Vals vs us->sp vs H Q E ->
  codeAny (model P w) A (.call (.ref f) args) (CR CX outer P w H s Q E) s
theorem Env0.make {P:Program}{w:World}{K:W.Frag}{mg:Str->Option Value}{base:Heap}{A:Around}{outer:List Env}{s:Shared}{H:Hp}(e:Env0 P w K mg base A outer s H)(C:Addr)(us:List Value)(kw:List (Str×Value)) :
  Env0 P w K mg base (A.under (.builtin "type.__call__" ⟨.ref C::us,kw⟩)) outer s H:=⟨by first|exact e.frames|(simpa[Around.under,Code.envs,Code.isFrame,pushEnvs] using e.frames),e.mod,e.bs,e.bsz,e.funs,e.frf,e.lam,e.hok,e.bare,e.pos⟩
variable {X:Cx}{pins:List (Addr×Obj)}{σ:St}{H:Hp}{s s':Shared}
theorem Inv.env0 (I:Inv X pins σ H s):Env0 X.prog X.w X.K X.mg X.base X.A X.stack s H :=
 ⟨I.ok.frames,I.ok.mod,I.bs,le_trans I.ok.bsz I.sz,I.stack,I.stkFree,fun p e=>I.base.tbls p (I.ok.lam p e),I.hok,I.bare,I.pos⟩
theorem Inv.after {Q:VK}{u:Value}(I:Inv X pins σ H s)(h:CE X.stack X.prog X.w H s Q u s'):EP X pins σ Q u s':=by
 obtain⟨v,H',os,bare,un,hok,r,q⟩:=h;obtain⟨hh,g,d,t,os'⟩:=s';obtain rfl:os' = s.os:=os;exact(fun _=>⟨v,H',I.call (h':=hh) (g':=g) (d':=d) (t':=t) (ch:=[]) un hok bare (fun b z=>absurd z (by simp)),r,q⟩)
def x5t (sp:Sp)(dvs:List V)(E:XK)(t:TA):TE:=fun σ H Q=>t σ H fun vs H1=>sp (vs++dvs) H1 Q E
def Binds (K:W.Frag)(fd:FuncData)(ps:List Str)(ds:List Value):Prop :=
 ∀(s:Shared)(us:List Value),K.In s.heap->(us++ds).length=ps.length->BindsTo s fd ⟨us,[]⟩ (ps.zip (us++ds))
theorem Binds.all {K:W.Frag}{fd:FuncData}{ps:List Str}(h:∀us:List Value,us.length=ps.length->bindArgs fd ⟨us,[]⟩=pure (ps.zip us)):Binds K fd ps []:=fun s us _ hl=>by
 rw[append_nil]at hl ⊢;exact .of_eq (h us hl)
def Fe (CX:CXT)(X:Cx)(E:XK):Prop:=∀(pins:List (Addr×Obj))(σ:St)(H:Hp)(s:Shared)(e:Value)(s':Shared),Inv X pins σ H s->CX X.stack H s E e s'->X.xe e s'
variable {CX:CXT}{k:Nat}{f C:Addr}{fd:FuncData}{ps:List Str}{sp:Sp}{dvs:List V}{ds:List Value}{E:XK}{x m:Str}{p pos apos:Pos}{e o:Expr}{es:List Expr}{ta:TE}{t:TA}
theorem Bo {pins:List (Addr×Obj)}{σ:St}{H:Hp}{s:Shared}{Q:VK}{us:List Value}{vs:List V}(F:FnOk X.prog X.w X.K X.mg X.base CX k f fd ps sp)(hr:Room k X.A)(hb:Binds X.K fd ps ds)(hd:Vals dvs ds)(hx:Fe CX X E)
  (I:Inv X pins σ H s)(r:Vals vs us)(h:sp (vs++dvs) H Q E):wpAny (model X.prog X.w) X.A (call (.ref f) us) (EP X pins σ Q) X.xe s:=by
 have r2:Vals (vs++dvs) (us++ds):=r.append hd;have hl:(us++ds).length=ps.length:=by rw[<-r2.length];exact F.len _ _ _ _ h
 refine wpAny_call (codeAny_mono (F.run X.A X.stack s H ⟨us,[]⟩ (us++ds) (vs++dvs) Q E hr I.env0 (hb s us I.kIn hl) r2 h) fun r s' hq=>?_);cases r with
 |error e=>exact hx pins σ H s e s' I hq
 |ok fl =>
  cases fl with
  |ret u=>exact I.after hq
  |next=>exact False.elim hq
  |brk=>exact False.elim hq
  |cont=>exact False.elim hq
theorem yb (F:FnOk X.prog X.w X.K X.mg X.base CX k f fd ps sp)(hr:Room k X.A)(hg:Gl X x)(hm:X.mg x=some (.ref f))(hk:keepIn X.K (.ref f)=true)(hb:Binds X.K fd ps ds)(hd:Vals dvs ds)(hx:Fe CX X E)
  (ha:PA X (e::es) t)(hdb:(x == ("__debug__":Str))=false:=by decide)(he:starEach (e::es) X.env=(false,eval e X.env)::starEach es X.env:=by rfl)(hpl:(backTo pos (starEach es X.env)).any (·.1)=false:=by rfl) :
  PE X (.Call (.Name x p) (e::es) [] pos) (x5t sp dvs E t):=by
 intro pins s σ H Q I h;refine wpAny_Call_Name_kw (qf I hg hm ?_ hdb);refine callWith_K (h₀:=X.base) I.ok.mod.kin hk (thn (ha pos pins s σ H _ I h) fun us s1 ⟨vs,H1,I1,r,q⟩=>⟨I1.kIn,?_⟩) he hpl;exact Bo F hr hb hd hx I1 r q
structure Mk (K:W.Frag)(C f:Addr):Prop where
 makes:W.makesIn K C=true
 init:findIn K (.ref C) "__init__" = some (some (.ref f))
 fn:isFn K (.ref f)=true
 kp:keepIn K (.ref C)=true
variable {ks:List Str}{kpos:Pos}{kws:List Keyword}{te:TE}{tk:TA}{nm:Option Str}
structure KBinds (K:W.Frag)(fd:FuncData)(ps ks:List Str)(g:List Value->List Value->List Value)(gV:List V->List V->List V):Prop where
 to:∀(s:Shared)(us ws:List Value),K.In s.heap->(g us ws).length=ps.length->BindsTo s fd ⟨us,ks.zip ws⟩ (ps.zip (g us ws))
 rel:∀{vs:List V}{us:List Value}{zs:List V}{ws:List Value},Vals vs us->Vals zs ws->Vals (gV vs zs) (g us ws)
structure FnScope (N P:List Str)(sc:Scope):Prop where
 kind:sc.kind=.function
 co:sc.isCoroutine=false
 gen:sc.isGenerator=false
 nd:N.Nodup
 pre:N.take P.length=P
 par:∀x∈P,sc.names.lookup x=some .local\/sc.names.lookup x=some .cell
 nofree:∀y∈sc.names,y.2≠.free
theorem Co {kindOf:Str->Option NameKind}{x:Str}:∀{binds:List (Str×Value)}{m:Str->Option Value},(∀v,(x,v)∉binds)->bindL kindOf binds m x=m x
 | [],_,_=>rfl
 |(n,v)::r,m,h=>by
  unfold bindL;rw[Co fun w hw=>h w (mem_cons_of_mem _ hw)];split
  ·have:x≠n:=by rintro rfl;exact h v mem_cons_self
   simp[this]
  ·rfl
theorem Eo {kindOf:Str->Option NameKind}{x:Str}:∀{binds:List (Str×Value)}{m:Str->Option Value},(∀v,(x,v)∉binds)->bindC kindOf binds m x=m x
 | [],_,_=>rfl
 |(n,v)::r,m,h=>by
  unfold bindC;rw[Eo fun w hw=>h w (mem_cons_of_mem _ hw)];split
  ·rfl
  ·have:x≠n:=by rintro rfl;exact h v mem_cons_self
   simp[this]
theorem Fo {kindOf:Str->Option NameKind}{x:Str}{v:Value}:∀{P:List Str}{vs:List Value}{i:Nat}{m:Str->Option Value},P.Nodup->P[i]? = some x->vs[i]? = some v->kindOf x=some .local ->
  bindL kindOf (P.zip vs) m x=some v
 | [],_,_,_,_,h,_,_=>by simp at h
 |_::_,[],_,_,_,_,h,_=>by simp at h
 |p::P,w::vs,0,m,nd,h1,h2,hk=>by
  simp at h1 h2;subst h1;subst h2;show bindL kindOf ((p,w)::P.zip vs) m p=_;unfold bindL;rw[Co fun v hv=>(nodup_cons.mp nd).1 (of_mem_zip hv).1,if_pos hk];simp
 |p::P,w::vs,i+1,m,nd,h1,h2,hk=>by
  show bindL kindOf ((p,w)::P.zip vs) m x=_;unfold bindL;exact Fo (i:=i) (nodup_cons.mp nd).2 (by simpa using h1) (by simpa using h2) hk
theorem Go {kindOf:Str->Option NameKind}{x:Str}{v:Value}:∀{P:List Str}{vs:List Value}{i:Nat}{m:Str->Option Value},P.Nodup->P[i]? = some x->vs[i]? = some v->kindOf x≠some .local ->
  bindC kindOf (P.zip vs) m x=some v
 | [],_,_,_,_,h,_,_=>by simp at h
 |_::_,[],_,_,_,_,h,_=>by simp at h
 |p::P,w::vs,0,m,nd,h1,h2,hk=>by
  simp at h1 h2;subst h1;subst h2;show bindC kindOf ((p,w)::P.zip vs) m p=_;unfold bindC;rw[Eo fun v hv=>(nodup_cons.mp nd).1 (of_mem_zip hv).1,if_neg hk];simp
 |p::P,w::vs,i+1,m,nd,h1,h2,hk=>by
  show bindC kindOf ((p,w)::P.zip vs) m x=_;unfold bindC;exact Go (i:=i) (nodup_cons.mp nd).2 (by simpa using h1) (by simpa using h2) hk
noncomputable def start (N:List Str)(vs:List V):St:=vs.map some++replicate (N.length - vs.length) none
noncomputable def cxOf (CX:CXT)(P:Program)(w:World)(K:W.Frag)(mg:Str->Option Value)(base:Heap)(N:List Str)(qual:Str)(scope:Scope)(f:Addr)(cd:Value)(A:Around)(outer:List Env)(s:Shared)(H:Hp)(E:XK):Cx where
 prog:=P
 w:=w
 K:=K
 mg:=mg
 base:=base
 A:=A.deeper (envOfC qual scope s.heap.objs.size f cd)
 N:=N
 s₀:=s
 H₀:=H
 env:=envOfC qual scope s.heap.objs.size f cd
 outer:=outer
 stack:=envOfC qual scope s.heap.objs.size f cd::outer
 ex:=[]
 calm:=true
 fn:=fun _=>true
 pn:=[]
 xe:=fun e s'=>wpAny (model P w) (A.deeper (envOfC qual scope s.heap.objs.size f cd)) (leaving (envOfC qual scope s.heap.objs.size f cd) e) (fun _ s''=>CX outer H s E e s'') (fun e' s''=>CX outer H s E e' s'') s'
theorem Ho {sc:Scope}{n:Nat}{x:Str}(h:sc.names.lookup x=some .cell):∃c,(cellsFrom n sc.names []).lookup x=some c:=by
 have q:=cellsFrom_some sc.names n [] (.inl h);exact isSome_iff_exists.mp q
theorem x7u {CX:CXT}{P:Program}{w:World}{K:W.Frag}{mg:Str->Option Value}{base:Heap}{N ps:List Str}{qual:Str}{scope:Scope}{f:Addr}{cd:Value}{A:Around}{outer:List Env}{s s1:Shared}{H:Hp}{E:XK}{us:List Value}{vs:List V}
  (S:FnScope N ps scope)(hk1:tk0<=s1.toks)(hd:A.handled=none)(e0:Env0 P w K mg base A outer s H)(hl:vs.length=ps.length)(r:Vals vs us)
  (x:InCallC s s.heap.objs.size (bindL (envOfC qual scope s.heap.objs.size f cd).kindOf (ps.zip us) fun _=>none) (cellsFrom (s.heap.objs.size+1) scope.names []) (bindC (envOfC qual scope s.heap.objs.size f cd).kindOf (ps.zip us) fun _=>none) s1) :
  Inv (cxOf CX P w K mg base N qual scope f cd A outer s H E) [] (start N vs) H s1:=by
 have hpl:ps.length<=N.length:=by have:=congrArg List.length S.pre;rw[length_take]at this;omega
 obtain⟨h1,tk,rfl,hk⟩:=x.done;have noA:∀b:Addr,b∉(cxOf CX P w K mg base N qual scope f cd A outer s H E).ex:=fun b z=>absurd (show b∈([]:List Addr) from z) (by simp);refine⟨⟨e0.mod,S.kind,rfl,rfl,le_refl _,fun y z c h1 h2=>?_,fun y hy=>?_,fun y c _ h=>?_,fun _=>hd,Around.frames_deeper e0.frames,.inr ⟨rfl,rfl⟩,fun b z=>absurd z (noA b),e0.bs,e0.bsz,fun b _ _=>noA b,fun b z=>absurd z (noA b),e0.funs,e0.frf,e0.lam⟩,
  rfl,e0.bare,Un.kept hk,⟨_,x.toInCall.ns,fun i y v h1 h2 h3=>?_⟩,fun y c h=>⟨_,x.cell y c h⟩,e0.hok.fresh (le_refl _),fun y c h=>?_,fun p hp=>absurd (show p∈([]:List (Addr×Obj)) from hp) (by simp),e0.hok.kept hk,?_,hk1⟩
 ·exact name_of_addr x.apart (PySem.mem_of_lookup h1) (PySem.mem_of_lookup h2)
 ·have hy:scope.names.lookup y=some .cell\/scope.names.lookup y=some .free:=hy;rcases hy with hy|hy
  ·exact Ho hy
  ·exact absurd rfl (S.nofree _ (PySem.mem_of_lookup hy))
 ·exact le_of_lt (x.above y c (PySem.mem_of_lookup h))
 ·have hi:i<vs.length:=by
   unfold start at h2;by_cases hi:i<vs.length
   ·exact hi
   ·rw[getElem?_append_right (by simpa using hi)]at h2;rw[getElem?_replicate]at h2;split at h2<;>cases h2
  have ha:vs[i]? = some v:=by
   unfold start at h2;rw[getElem?_append_left (by simpa using hi),getElem?_map]at h2;cases e:vs[i]? with
   |none=>rw[e]at h2;cases h2
   |some a=>rw[e]at h2;cases h2;rfl
  obtain⟨u,hu,rv⟩:=r.get ha;have hp:ps[i]? = some y:=by
   rw[<-S.pre,List.getElem?_take_of_lt (by omega)];exact h1
  have ndP:ps.Nodup:=by rw[<-S.pre];exact S.nd.sublist (List.take_sublist _ _)
  refine⟨u,rv,?_⟩;rcases S.par y (mem_of_getElem? hp) with k|k
  ·exact .inl ⟨k,Fo ndP hp hu k⟩
  ·obtain⟨c,e⟩:=Ho (n:=s.heap.objs.size+1) k;refine .inr ⟨.inl k,c,e,?_⟩;have q:=x.cell y c e;rw[Go ndP hp hu (by show scope.names.lookup y≠_;rw[k];decide)]at q;exact q
 ·exact e0.hok.fresh (le_of_lt (x.above y c (PySem.mem_of_lookup h)))
 ·unfold start;show _=N.length;rw[length_append,length_map,List.length_replicate];omega
theorem ik {CX:CXT}{P:Program}{w:World}{K:W.Frag}{mg:Str->Option Value}{base:Heap}{k:Nat}{f:Addr}{name qual:Str}{params:Arguments}{body:List Stmt}{scope:Scope}{dV kV doc pm cdv ct oc:Value}{an od:Option Addr}
  {osl:Array (Option Value)}{N ps:List Str}{sp:Sp}(lk:K.lookup f=some ⟨oc,od,.func (fnOf name qual params body scope dV kV doc pm an cdv ct),osl⟩)(hcd:codeIn K cdv qual=true)(S:FnScope N ps scope)
  (len:∀vs H Q E,sp vs H Q E->vs.length=ps.length)
  (hbody:∀(A:Around)(outer:List Env)(s:Shared)(H:Hp)(vs:List V)(Q:VK)(E:XK),Room k (A.deeper (envOfC qual scope s.heap.objs.size f cdv))->sp vs H Q E ->
   ∃t,PSs (cxOf CX P w K mg base N qual scope f cdv A outer s H E) body t/\t { nx:=fun _ H'=>Q .non H',rt:=Q } (start N vs) H) :
  FnOk P w K mg base CX (k+1) f (fnOf name qual params body scope dV kV doc pm an cdv ct) ps sp:=by
 refine⟨len,fun A outer s H args us vs Q E hr e0 hb r hsp=>?_⟩;have hl:=len _ _ _ _ hsp;have KX:K.In s.heap:=e0.mod.kin.keeps fun b o e=>(e0.bs b o e).1;have lim:s.heap.NoLimit:=e0.mod.nolimit.keeps fun b o e=>(e0.bs b o e).1;have hkind:∀y∈ps.zip us,scope.names.lookup y.1=some .local\/(scope.names.lookup y.1=some .cell/\((cellsFrom (s.heap.objs.size+1) scope.names []).lookup y.1).isSome=true):=fun⟨n,v⟩ hy=>by
  rcases S.par n (of_mem_zip hy).1 with q|q
  ·exact .inl q
  ·exact .inr ⟨q,cellsFrom_some _ _ _ (.inl q)⟩
 refine codeAny_call_function hr.depth (KX _ _ lk) rfl S.co S.gen rfl (W.codeRec_of KX hcd) (hb _ _ _ _ ?_);refine wpAny_with_toks (n:=tk0) e0.pos ?_;refine wpAny_newFunctionEnv_cells S.kind hkind fun env he s1 x=>fun hk1=>?_;subst he;refine⟨lim.keeps x.toInCall.keep,codeAny_func ?_⟩;obtain⟨t,ht,hq⟩:=hbody A outer s H vs Q E (hr.deeper _) hsp;have I:Inv (cxOf CX P w K mg base N qual scope f cdv A outer s H E) [] (start N vs) H s1:=x7u S hk1 hr.hd e0 hl r x;refine wpAny_mono (wpAny_toks_of I.pos (ht [] s1 (start N vs) H _ I hq)) (fun fl s' hs=>?_) fun e s' hs=>hs.2;replace hs:=hs.2 hs.1;have fin:∀{σ':St}{H':Hp}{v:V}{u:Value},Inv (cxOf CX P w K mg base N qual scope f cdv A outer s H E) [] σ' H' s'->RelV v u->Q v H'->CE outer P w H s Q u s' :=
  fun {σ' H' v u} J rv q=>⟨v,H',J.os,J.bare,J.base,J.hok,rv,q⟩
 cases fl with
 |ret u =>
  obtain⟨v,σ',H',J,rv,q⟩:=hs;exact fin J rv q
 |next =>
  obtain⟨σ',H',J,q⟩:=hs;exact fin (v:=V.non) (u:=Value.none) J rfl q
 |brk =>
  obtain⟨_,_,_,q⟩:=hs;exact False.elim q
 |cont =>
  obtain⟨_,_,_,q⟩:=hs;exact False.elim q
variable {id T:String}{r:List V->Hp->VK->Prop}
def tCB (r:List V->Hp->VK->Prop)(t:TA):TE:=fun σ H Q=>t σ H fun vs H1=>r vs H1 Q
theorem Nc (hc:Ec X (.builtin id) r)(hg:Gl X x)(hm:X.mg x=none)(hv:bootBuiltins x=some (.builtin id))(ha:PA X (e::es) t)(hn:x ≠ "__name__":=by decide)(hdb:(x == ("__debug__":Str))=false:=by decide)
  (he:starEach (e::es) X.env=(false,eval e X.env)::starEach es X.env:=by rfl)(hpl:(backTo pos (starEach es X.env)).any (·.1)=false:=by rfl):PE X (.Call (.Name x p) (e::es) [] pos) (tCB r t):=by
 intro pins s σ H Q I h;refine wpAny_Call_Name_kw (Ce I hg hm hv ?_ hn hdb);exact PyProof.Rows.callWith_builtin1 (thn (ha pos pins s σ H _ I h) fun us s1 ⟨vs,H1,I1,r1,q1⟩=>hc pins s1 σ H1 vs us Q I1 r1 q1) he hpl
theorem q0q (hc:Ec X (.type T) r)(hg:Gl X x)(hm:X.mg x=none)(hv:bootBuiltins x=some (.type T))(ha:PA X (e::es) t)(hn:x ≠ "__name__":=by decide)(hdb:(x == ("__debug__":Str))=false:=by decide)
  (he:starEach (e::es) X.env=(false,eval e X.env)::starEach es X.env:=by rfl)(hpl:(backTo pos (starEach es X.env)).any (·.1)=false:=by rfl):PE X (.Call (.Name x p) (e::es) [] pos) (tCB r t):=by
 intro pins s σ H Q I h;refine wpAny_Call_Name_kw (Ce I hg hm hv ?_ hn hdb);exact PyProof.Rows.callWith_type1 (thn (ha pos pins s σ H _ I h) fun us s1 ⟨vs,H1,I1,r1,q1⟩=>hc pins s1 σ H1 vs us Q I1 r1 q1) he hpl
end
end L2
namespace HT
open PySem PyProof.Rows
open PySem.SeqAt
open PySem.AutoSeq1 (wpAny_loadPart')
open PySem.MeetsSeq PySem.MeetsSeq2 PySem.MeetsSeq3
section
variable {prog:Program}{w:World}{A:Around}{E:Value->Shared->Prop}{s:Shared}
noncomputable def sIx (n d:Nat):Option Int->Nat
 |none=>d
 |some v=>if v<0 then(v+(n:Int)).toNat else min v.toNat n
theorem sIx_none (n d:Nat):sIx n d none=d:=rfl
theorem sIx_nat (n d k:Nat):sIx n d (some (k:Int))=min k n:=by
 show(if (k:Int)<0 then((k:Int)+(n:Int)).toNat else min (k:Int).toNat n)=min k n;rw[if_neg (by omega),toNat_natCast]
end
end HT
namespace L2
open PySem PySem.Spec PyProof.Rows
abbrev TO:=St->Hp->(Option Int->Hp->Prop)->Prop
def PO (X:Cx)(e:Option Expr)(t:TO):Prop :=
 ∀(pins:List (Addr×Obj))(s:Shared)(σ:St)(H:Hp)(Q:Option Int->Hp->Prop),Inv X pins σ H s->t σ H Q ->
  wpAny (model X.prog X.w) X.A (evalPart e X.env) (fun u s'=>tk0<=s'.toks->∃o H',Inv X pins σ H' s'/\IsPart u o/\Q o H') X.xe s
def j5b:TO:=fun _ H Q=>Q none H
def tPart (t:TE):TO:=fun σ H Q=>t σ H fun x H1=>∃i,x=.int i/\Q (some i) H1
section
variable {X:Cx}{e:Expr}{te:TE}{lo hi:Option Expr}{tl th:TO}{pos p2:Pos}
theorem j0c:PO X none j5b:=by
 intro pins s σ H Q I h;rw[evalPart_none];exact wpAny_pure (fun _=>⟨none,H,I,.none,h⟩)
theorem j3q (h:PE X e te):PO X (some e) (tPart te):=by
 intro pins s σ H Q I hw;rw[evalPart_some];refine thn (h pins s σ H _ I hw) fun u s1 ⟨x,H1,I1,r1,q1⟩=>?_;obtain⟨i,rfl,q⟩:=q1;obtain⟨t,rfl⟩:=r1;exact(fun _=>⟨some i,H1,I1,.int i t,q⟩)
def SlR (X:Cx)(r:V->Option Int->Option Int->Hp->VK->Prop):Prop :=
 ∀(pins:List (Addr×Obj))(s:Shared)(σ:St)(H:Hp)(x:V)(v vl vu:Value)(lo hi:Option Int)(sl:Addr)(Q:VK),Inv X pins σ H s->RelV x v->s.heap.IsSliceOf sl vl vu .none->IsPart vl lo->IsPart vu hi->r x lo hi H Q ->
  ∃T id,typeLookup (.type T) "__getitem__" = pure (some (.builtin id))/\s.TypeIs v T/\wpAny (model X.prog X.w) X.A (getItem v (.ref sl)) (EP X pins σ Q) X.xe s
def tSl (r:V->Option Int->Option Int->Hp->VK->Prop)(te:TE)(tl th:TO):TE:=fun σ H Q=>te σ H fun x H1=>tl σ H1 fun l H2=>th σ H2 fun u H3=>r x l u H3 Q
theorem jk {r:V->Option Int->Option Int->Hp->VK->Prop}(hr:SlR X r)(he:PE X e te)(hl:PO X lo tl)(hu:PO X hi th):PE X (.Subscript e (.Slice lo hi none p2) pos) (tSl r te tl th):=by
 intro pins s σ H Q I h;refine Subscript_ (thn (he pins s σ H _ I h) fun v s1 ⟨x,H1,I1,r1,q1⟩=>?_);refine wpAny_Slice (thn (hl pins s1 σ H1 _ I1 q1) fun vl s2 ⟨l,H2,I2,pl,q2⟩=>thn (hu pins s2 σ H2 _ I2 q2) fun vu s3 ⟨u,H3,I3,pu,q3⟩=>?_);rw[evalPart_none];refine wpAny_pure ?_;have I4:Inv X pins σ H3 { s3 with heap:=s3.heap.push { cls:=.type "slice",data:=.fields #[vl,vu,.none] } }:=I3.kept (t':=s3.toks) fun b ob q=>get?_push_of_some _ q;obtain⟨T,id,hT,ht,hg⟩:=hr pins { s3 with heap:=s3.heap.push { cls:=.type "slice",data:=.fields #[vl,vu,.none] } } σ H3 x v vl vu l u s3.heap.objs.size Q I4 r1 (Heap.IsSliceOf.new ..) pl pu q3;show wpAny (model X.prog X.w) X.A (subscriptTail e (.Slice lo hi none p2) v (.ref s3.heap.objs.size)) (EP X pins σ Q) X.xe { s3 with heap:=s3.heap.push { cls:=.type "slice",data:=.fields #[vl,vu,.none] } };exact tail_any (ops:=[.ref s3.heap.objs.size,v]) ht hT hg (by with_unfolding_all rfl)
noncomputable def cutV (xs:List V)(lo hi:Option Int):List V:=(xs.drop (HT.sIx xs.length 0 lo)).take (HT.sIx xs.length xs.length hi - HT.sIx xs.length 0 lo)
theorem x0o (xs:List V)(lo hi:Option Int):(cutV xs lo hi).length<=xs.length:=by
 unfold cutV;rw[length_take,length_drop];omega
noncomputable def ixN (n:Nat)(i:Int):Option Nat:=if 0<=i then(if i<n then some i.toNat else none) else if -(n:Int)<=i then some (i+n).toNat else none
noncomputable def atI {α:Type}(xs:List α)(i:Int):Option α:=(ixN xs.length i).bind fun j=>xs[j]?
theorem Io {n:Nat}{i:Int}{j:Nat}(h:ixN n i=some j):seqIndex? i n=some j/\j<n/\-(n:Int)<=i/\i<n:=by
 unfold ixN at h;by_cases h0:0<=i
 ·rw[if_pos h0]at h;by_cases h1:i<n
  ·rw[if_pos h1]at h;have e:i.toNat=j:=Option.some.inj h;exact⟨by rw[seqIndex_of h0 h1,e],by omega,by omega,h1⟩
  ·rw[if_neg h1]at h;cases h
 ·rw[if_neg h0]at h;by_cases h1:-(n:Int)<=i
  ·rw[if_pos h1]at h;have e:(i+n).toNat=j:=Option.some.inj h;exact⟨by rw[seqIndex_neg (by omega) h1,e],by omega,h1,by omega⟩
  ·rw[if_neg h1]at h;cases h
theorem nk {α:Type}{xs:List α}{i:Int}{v:α}(h:atI xs i=some v):∃j,seqIndex? i xs.length=some j/\xs[j]? = some v/\j<xs.length/\-(xs.length:Int)<=i/\i<xs.length:=by
 unfold atI at h;cases e:ixN xs.length i with
 |none=>rw[e]at h;cases h
 |some j =>
  rw[e]at h;obtain⟨h1,h2,h3,h4⟩:=Io e;exact⟨j,h1,h,h2,h3,h4⟩
theorem wc {α:Type}{xs:List α}{j:Nat}{v:α}(h:xs[j]? = some v):atI xs (j:Int)=some v:=by
 have hj:j<xs.length:=(List.getElem?_eq_some_iff.mp h).1;have e:ixN xs.length (j:Int)=some j:=by
  unfold ixN;rw[if_pos (by omega),if_pos (by omega)];simp
 unfold atI;rw[e];exact h
theorem qk {α:Type}(xs:List α)(v:α):atI (xs++[v]) (-1)=some v:=by
 have hl:(xs++[v]).length=xs.length+1:=by simp
 have e:ixN (xs++[v]).length (-1)=some xs.length:=by
  unfold ixN;rw[hl,if_neg (by decide),if_pos (by omega)];congr 1;omega
 unfold atI;rw[e];show(xs++[v])[xs.length]? = some v;simp
def sk (b:Expr):Prop:=∀o i,subscripted b false o i=operate [o,i] (getItem o i)
def IxR (X:Cx)(r:R2):Prop :=
 ∀(value slice:Expr)(pins:List (Addr×Obj))(s:Shared)(σ:St)(H:Hp)(x y:V)(v u:Value)(Q:VK),Inv X pins σ H s->RelV x v->RelV y u->r x y H Q ->
  subscripted slice false v u=operate [v,u] (getItem v u)->wpAny (model X.prog X.w) X.A (subscriptTail value slice v u) (EP X pins σ Q) X.xe s
def MtR (X:Cx)(id:String)(r:V->List V->Hp->VK->Prop):Prop :=
 ∀(pins:List (Addr×Obj))(s:Shared)(σ:St)(H:Hp)(x:V)(xs:List V)(v:Value)(us:List Value)(Q:VK),Inv X pins σ H s->RelV x v->Vals xs us->r x xs H Q ->
  wpAny (model X.prog X.w) X.A (call (.builtin id) (v::us)) (EP X pins σ Q) X.xe s
variable {a b:Expr}{ta tb:TE}
theorem IxR.or {r r':R2}(h:IxR X r)(h':IxR X r'):IxR X (fun x y H Q=>r x y H Q\/r' x y H Q):=by
 intro value slice pins s σ H x y v u Q I rx ry q hs;rcases q with q|q
 ·exact h value slice pins s σ H x y v u Q I rx ry q hs
 ·exact h' value slice pins s σ H x y v u Q I rx ry q hs
theorem bd {r:R2}(hr:IxR X r)(ha:PE X a ta)(hb:PE X b tb)(hs:sk b):PE X (.Subscript a b pos) (tOp r ta tb):=by
 intro pins s σ H Q I h;exact Subscript_ (binT ha hb I h fun v u s2 x y H2 I2 rx ry q=>hr a b pins s2 σ H2 x y v u Q I2 rx ry q (hs _ _))
def rIxL (K:W.Frag):R2:=fun x y H Q=>∃p xs i v,x=.ref p/\y=.int i/\SqL K H p xs/\atI xs i=some v/\Q v H
def rIxT (K:W.Frag):R2:=fun x y H Q=>∃p xs i v,x=.ref p/\y=.int i/\SqT K H p xs/\atI xs i=some v/\Q v H
def rIxS:R2:=fun x y H Q=>∃z i c,x=.str z/\y=.int i/\z.length<=sizeLine/\atI z.cps.toList i=some c/\Q (.str ⟨#[c]⟩) H
theorem ix_list:IxR X (rIxL X.K):=by
 intro value slice pins s σ H x y v u Q I rx ry h hs;obtain⟨p,xs,i,z,rfl,rfl,hq,he,q⟩:=h;cases rx;obtain⟨t,rfl⟩:=ry;obtain⟨its,r,pl,hz⟩:=I.list hq;obtain⟨j,h1,h2,h3,h4,h5⟩:=nk he;obtain⟨w,ew,rw'⟩:=r.get h2;have hl:=r.length;have hn:=xf;have fin:EP X pins σ Q w s:=(fun _=>⟨z,H,I,rw',q⟩);by_cases h0:0<=i
 ·have hj:i.toNat=j:=by
   rw[seqIndex_of h0 h5]at h1;exact Option.some.inj h1
  exact item_listR pl.isList h0 (by omega) (by rw[hj];simpa using ew) fin hs
 ·have hj:(i+(its.toArray.size:Int)).toNat=j:=by
   rw[seqIndex_neg (by omega) h4]at h1;rw[size_toArray,<-hl];exact Option.some.inj h1
  exact subscriptTail_builtinR (x:=w) pl.isList.typeIs slot_list_getitem.lookup
   (wpAny_getItem_list_neg (Q:=fun r s'=>r=w/\EP X pins σ Q r s') pl.isList (by omega) (by rw[size_toArray]<;>omega) (by omega) (by rw[hj];simpa using ew) ⟨rfl,fin⟩) hs
theorem ix_tup:IxR X (rIxT X.K):=by
 intro value slice pins s σ H x y v u Q I rx ry h hs;obtain⟨p,xs,i,z,rfl,rfl,hq,he,q⟩:=h;cases rx;obtain⟨t,rfl⟩:=ry;obtain⟨its,r,pl,hz⟩:=I.tuple hq;obtain⟨j,h1,h2,h3,h4,h5⟩:=nk he;obtain⟨w,ew,rw'⟩:=r.get h2;have hl:=r.length;have hn:=xf;have fin:EP X pins σ Q w s:=(fun _=>⟨z,H,I,rw',q⟩);exact subscriptTail_builtinR (x:=w) pl.typeIs slot_tuple_getitem.lookup
  (getItem_tuple (j:=j) (Q:=fun r s'=>r=w/\EP X pins σ Q r s') pl (by omega) (by omega) (by rw[size_toArray,<-hl];exact h1) (by simpa using ew) ⟨rfl,fin⟩) hs
theorem He:IxR X rIxS:=by
 intro value slice pins s σ H x y v u Q I rx ry h hs;obtain⟨z,i,c,rfl,rfl,hz,he,q⟩:=h;obtain⟨t,rfl⟩:=rx;obtain⟨t',rfl⟩:=ry;obtain⟨j,h1,h2,h3,h4,h5⟩:=nk he;have hl:z.cps.toList.length=z.length:=by simp[Str.length]
 rw[hl]at h1 h4 h5;have hn:=xf;exact tail_any (typeIs_str s z t) slot_str_getitem.lookup (getItem_str (c:=c) (by
  have e1:decide (i < -(2 ^ 63:Int))=false:=decide_eq_false (by omega);have e2:decide (i ≥ 2 ^ 63)=false:=decide_eq_false (by omega);rw[e1,e2,Bool.or_false]) (by rw[h1];simpa using h2) (fun _=>⟨.str ⟨#[c]⟩,H,I.tok _,⟨_,rfl⟩,q⟩)) hs
def rIx (K:W.Frag):R2:=fun x y H Q=>rIxL K x y H Q\/rIxT K x y H Q\/rIxS x y H Q
theorem Jo:IxR X (rIx X.K):=ix_list.or (ix_tup.or He)
theorem x3s (its:List Value)(n j:Nat)(u:Value):Obj.mapSeq (·.setIfInBounds j u) { cls:=.type "list",data:=.seq its.toArray n } = { cls:=.type "list",data:=.seq (its.set j u).toArray n }:=by
 simp[Obj.mapSeq]
theorem Inv.lst {pins:List (Addr×Obj)}{σ:St}{H:Hp}{s:Shared}{p:Addr}{xs:List V}(I:Inv X pins σ H s)(h:H p=some (.lst xs)) :
  ∃(its:List Value)(n:Nat),Vals xs its/\s.heap.get? p=some { cls:=.type "list",data:=.seq its.toArray n }/\xs.length<=sizeLine:=by
 obtain⟨z,its,n,r,e⟩:=I.hok p _ h;exact⟨its,n,r,e,z⟩
theorem Inv.lstUpd {pins:List (Addr×Obj)}{σ:St}{H:Hp}{s:Shared}{p:Addr}{xs ys:List V}{its its':List Value}{n n':Nat}{f:Obj->Obj}(I:Inv X pins σ H s)(h:H p=some (.lst xs))
  (ho:s.heap.get? p=some { cls:=.type "list",data:=.seq its.toArray n })(hf:f { cls:=.type "list",data:=.seq its.toArray n } = { cls:=.type "list",data:=.seq its'.toArray n' })(r:Vals ys its')(hz:ys.length<=sizeLine)(t:Nat)(hk:tk0<=t:=by first|assumption|exact Inv.pos (by assumption)|exact le_trans (Inv.pos (by assumption)) (le_add_right _ _)|exact le_trans (le_trans (Inv.pos (by assumption)) (le_add_right _ _)) (le_add_right _ _)) :
  Inv X pins σ (upd H p (.lst ys)) { s with heap:=s.heap.update p f,toks:=t }:=by
 have e:(s.heap.update p f).get? p=some { cls:=.type "list",data:=.seq its'.toArray n' }:=by
  rw[get?_update_self f ho (by rw[hf]<;>rfl),hf]
 refine I.write (x:=p) (e:=p) (by rw[h];trivial) (.inl rfl) (fun b u hb q=>(get?_update_other _ _ (Ne.symm hb)).trans q) ⟨_,e⟩ ?_;exact⟨hz,its',n',r,e⟩
def rSetL:V->V->V->Hp->(Hp->Prop)->Prop:=fun o i v H Q=>∃p xs k j,o=.ref p/\i=.int k/\H p=some (.lst xs)/\ixN xs.length k=some j/\Q (upd H p (.lst (xs.set j v)))
theorem q3g:PSet X rSetL:=by
 intro pins s σ H o i v ov iv u Q I ro ri rv h;obtain⟨p,xs,k,j,rfl,rfl,hp,hj,q⟩:=h;cases ro;obtain⟨t,rfl⟩:=ri;obtain⟨its,n,r,ho,hz⟩:=I.lst hp;obtain⟨h1,h2,h3,h4⟩:=Io hj;have hl:=r.length;have hn:=xf;have I':Inv X pins σ (upd H p (.lst (xs.set j v))) { s with heap:=s.heap.update p (Obj.mapSeq (·.setIfInBounds j u)) } :=
  I.lstUpd hp ho (x3s its n j u) (r.set rv j) (by rw[List.length_set];exact hz) s.toks
 by_cases h0:0<=k
 ·have hk:k.toNat=j:=by
   rw[seqIndex_of h0 h4]at h1;exact Option.some.inj h1
  exact W.ki_setAt ho h0 (by omega) (by rw[size_toArray,<-hl];exact h4) (by rw[hk];exact(fun _=>⟨_,I',q⟩))
 ·have hk:(k+(its.toArray.size:Int)).toNat=j:=by
   rw[seqIndex_neg (by omega) h3]at h1;rw[size_toArray,<-hl];exact Option.some.inj h1
  exact W.ki_setBack ho (by omega) (by rw[size_toArray,<-hl];exact h3) (by omega) (by rw[hk];exact(fun _=>⟨_,I',q⟩))
end
section
variable {X:Cx}{a b:Expr}{ta tb:TE}{pos:Pos}
theorem y7b (lo hi:Option Int)(n:Nat):(sliceBounds lo hi none n).1=((HT.sIx n 0 lo:Nat):Int)/\(sliceBounds lo hi none n).2.1=((HT.sIx n n hi:Nat):Int)/\(sliceBounds lo hi none n).2.2=1:=by
 refine⟨?_,?_,rfl⟩
 ·cases lo with
  |none=>simp[sliceBounds,HT.sIx]
  |some i =>
   simp only[sliceBounds,HT.sIx,getD_none,show(1:Int) > 0 by decide,if_true];by_cases h:i<0
   ·simp only[h,if_true]<;>omega
   ·simp only[h,if_false]<;>omega
 ·cases hi with
  |none=>simp[sliceBounds,HT.sIx]
  |some i =>
   simp only[sliceBounds,HT.sIx,getD_none,show(1:Int) > 0 by decide,if_true];by_cases h:i<0
   ·simp only[h,if_true]<;>omega
   ·simp only[h,if_false]<;>omega
theorem y6d (its:List Value)(lo hi:Option Int):slicePick its.toArray lo hi none=((its.drop (HT.sIx its.length 0 lo)).take (HT.sIx its.length its.length hi - HT.sIx its.length 0 lo)).toArray:=by
 obtain⟨h1,h2,h3⟩:=y7b lo hi its.toArray.size;unfold slicePick;rw[h1,h2,h3];simp only[sliceRange_one,pick_run,size_toArray]<;>rfl
def rSlL (K:W.Frag):V->Option Int->Option Int->Hp->VK->Prop:=fun x lo hi H Q=>∃a xs,x=.ref a/\SqL K H a xs/\∀p,H p=none->Q (.ref p) (upd H p (.lst (cutV xs lo hi)))
theorem Ko:SlR X (rSlL X.K):=by
 intro pins s σ H x v vl vu lo hi sl Q I rx hs pl pu h;obtain⟨a,xs,rfl,hx,q⟩:=h;cases rx;obtain⟨its,r,ht,hz⟩:=I.list hx;have hlen:=r.length;refine⟨"list",_,slot_list_getitem.lookup,ht.isList.typeIs,?_⟩;refine wpAny_getItem_list_slice ht.isList hs pl pu .none (by simp) ?_ (by rw[size_toArray]<;>omega);rw[y6d,<-hlen];refine(fun _=>⟨.ref s.heap.objs.size,_,I.laid (t':=s.toks) (o:=.lst (cutV xs lo hi)) (fun b ob q=>get?_push_of_some _ q) (le_refl _) ?_,rfl,q _ (I.hok.fresh (le_refl _))⟩);exact⟨le_trans (x0o xs lo hi) hz,_,0,(r.drop (HT.sIx xs.length 0 lo)).take (HT.sIx xs.length xs.length hi - HT.sIx xs.length 0 lo),get?_push_size _ rfl⟩
def Mb:V->Bool
 |.non=>true
 |.bl _=>true
 |.int _=>true
 |.str _=>true
 |_=>false
noncomputable def eqV:V->V->Bool
 |.non,.non=>true
 |.bl a,.bl b=>a == b
 |.bl a,.int b=>(if a then 1 else 0) == b
 |.int a,.bl b=>a == (if b then 1 else 0)
 |.int a,.int b=>a == b
 |.str a,.str b=>a == b
 |_,_=>false
theorem j8t {A:Around}{s:Shared}{y x:V}{u v:Value}(ry:RelV y u)(rx:RelV x v)(fy:Mb y=true)(fx:Mb x=true):SeqAt.EqAt A s u v (eqV y x):=by
 cases y with
 |non =>
  cases ry;cases x with
  |non=>cases rx;exact SeqAt.EqAt.same _
  |bl b=>cases rx;exact SeqAt.EqAt.none_bool b
  |int b=>obtain⟨t,rfl⟩:=rx;exact SeqAt.EqAt.none_int b t
  |str b=>obtain⟨t,rfl⟩:=rx;exact SeqAt.EqAt.none_str b t
  |_=>exact absurd (show false=true from fx) Bool.false_ne_true
 |bl a =>
  cases ry;cases x with
  |non=>cases rx;exact SeqAt.EqAt.bool_none a
  |bl b=>cases rx;exact SeqAt.EqAt.bool_bool a b
  |int b=>obtain⟨t,rfl⟩:=rx;exact SeqAt.EqAt.bool_int a b t
  |str b=>obtain⟨t,rfl⟩:=rx;exact SeqAt.EqAt.bool_str a b t
  |_=>exact absurd (show false=true from fx) Bool.false_ne_true
 |int a =>
  obtain⟨t',rfl⟩:=ry;cases x with
  |non=>cases rx;exact SeqAt.EqAt.int_none a t'
  |bl b=>cases rx;exact SeqAt.EqAt.int_bool a t' b
  |int b=>obtain⟨t,rfl⟩:=rx;exact SeqAt.EqAt.int_int a t' b t
  |str b=>obtain⟨t,rfl⟩:=rx;exact SeqAt.EqAt.int_str a t' b t
  |_=>exact absurd (show false=true from fx) Bool.false_ne_true
 |str a =>
  obtain⟨t',rfl⟩:=ry;cases x with
  |non=>cases rx;exact SeqAt.EqAt.str_none a t'
  |bl b=>cases rx;exact SeqAt.EqAt.str_bool a t' b
  |int b=>obtain⟨t,rfl⟩:=rx;exact SeqAt.EqAt.str_int a t' b t
  |str b=>obtain⟨t,rfl⟩:=rx;exact SeqAt.EqAt.str_str a t' b t
  |_=>exact absurd (show false=true from fx) Bool.false_ne_true
 |_=>exact absurd (show false=true from fy) Bool.false_ne_true
noncomputable def eqU (x:V)(u:Value):Bool:=match u with
 |.none=>eqV .non x
 |.bool b=>eqV (.bl b) x
 |.int i _=>eqV (.int i) x
 |.str z _=>eqV (.str z) x
 |_=>false
theorem Lo {x y:V}{u:Value}(r:RelV y u)(f:Mb y=true):eqU x u=eqV y x:=by
 cases y with
 |non=>cases r;rfl
 |bl b=>cases r;rfl
 |int i=>obtain⟨t,rfl⟩:=r;rfl
 |str z=>obtain⟨t,rfl⟩:=r;rfl
 |_=>exact absurd (show false=true from f) Bool.false_ne_true
theorem Xg {x:V}:∀{xs:List V}{us:List Value},Vals xs us->xs.all Mb=true->us.any (eqU x)=xs.any fun y=>eqV y x
 |_,_,.nil,_=>rfl
 |y::xs,u::us,.cons r t,f=>by
  rw[all_cons,and_eq_true]at f;rw[any_cons,any_cons,Lo r f.1,Xg t f.2]
theorem Yg {A:Around}{s:Shared}{x:V}{v:Value}(rx:RelV x v)(fx:Mb x=true):∀{xs:List V}{us:List Value},Vals xs us->xs.all Mb=true->∀u∈us,SeqAt.EqAt A s u v (eqU x u)
 |_,_,.nil,_=>fun u hu=>by cases hu
 |y::xs,u::us,.cons r t,f=>fun u' hu=>by
  rw[all_cons,and_eq_true]at f;rcases mem_cons.mp hu with rfl|hu
  ·rw[Lo r f.1];exact j8t r rx f.1 fx
  ·exact Yg rx fx t f.2 u' hu
def inV (x:V)(xs:List V):Bool:=xs.any fun y=>eqV y x
def rIn (K:W.Frag)(neg:Bool):R2:=fun x y H Q=>∃p xs,y=.ref p/\(SqL K H p xs\/SqT K H p xs)/\Mb x=true/\xs.all Mb=true/\Q (.bl (if neg then !inV x xs else inV x xs)) H
theorem x7i:OpR X (compareOp .In) (rIn X.K false):=by
 intro pins s σ H x y v u Q I rx ry h;obtain⟨p,xs,rfl,hq,fx,fs,q⟩:=h;cases ry;rcases hq with hq|hq
 ·obtain⟨its,r,pl,hz⟩:=I.list hq;refine SeqAt.in_listAt (eqU x) pl.isList (fun w hw=>Yg rx fx r fs w (by simpa using hw)) (fun _=>⟨.bl _,H,I,rfl,?_⟩);rw[show its.toArray.any (eqU x)=its.any (eqU x) by simp,Xg r fs];exact q
 ·obtain⟨its,r,pl,hz⟩:=I.tuple hq;refine SeqAt.in_tupleAt (eqU x) pl (fun w hw=>Yg rx fx r fs w (by simpa using hw)) (fun _=>⟨.bl _,H,I,rfl,?_⟩);rw[show its.toArray.any (eqU x)=its.any (eqU x) by simp,Xg r fs];exact q
theorem Mo:OpR X (compareOp .NotIn) (rIn X.K true):=by
 intro pins s σ H x y v u Q I rx ry h;obtain⟨p,xs,rfl,hq,fx,fs,q⟩:=h;cases ry;rcases hq with hq|hq
 ·obtain⟨its,r,pl,hz⟩:=I.list hq;refine SeqAt.notIn_listAt (eqU x) pl.isList (fun w hw=>Yg rx fx r fs w (by simpa using hw)) (fun _=>⟨.bl _,H,I,rfl,?_⟩);rw[show its.toArray.any (eqU x)=its.any (eqU x) by simp,Xg r fs];exact q
 ·obtain⟨its,r,pl,hz⟩:=I.tuple hq;refine SeqAt.notIn_tupleAt (eqU x) pl (fun w hw=>Yg rx fx r fs w (by simpa using hw)) (fun _=>⟨.bl _,H,I,rfl,?_⟩);rw[show its.toArray.any (eqU x)=its.any (eqU x) by simp,Xg r fs];exact q
theorem Zg:Ec X (.builtin "len") (fun xs H Q=>∃p ys,xs=[.ref p]/\(SqL X.K H p ys\/SqT X.K H p ys)/\Q (.int ys.length) H):=by
 intro pins s σ H xs us Q I r h;obtain⟨p,ys,rfl,hq,q⟩:=h;obtain⟨u,rfl,rx⟩:=Mc r;cases rx;have hn:=xf;rcases hq with hq|hq
 ·obtain⟨its,r',pl,hz⟩:=I.list hq;have hlen:=r'.length;exact Calls.call_len_list pl.isList (by simp only[size_toArray]<;>omega) (fun _=>⟨.int ys.length,H,I.tok _,⟨s.toks+1,by rw[size_toArray,hlen]⟩,q⟩)
 ·obtain⟨its,r',pl,hz⟩:=I.tuple hq;have hlen:=r'.length;exact len_tuple pl (by simp only[size_toArray]<;>omega) (fun _=>⟨.int ys.length,H,I.tok _,⟨s.toks+1,by rw[size_toArray,hlen]⟩,q⟩)
theorem de:Ec X (.builtin "len") (fun xs H Q=>∃z,xs=[.str z]/\z.length<=sizeLine/\Q (.int z.length) H):=by
 intro pins s σ H xs us Q I r h;obtain⟨z,rfl,hz,q⟩:=h;obtain⟨u,rfl,t,rfl⟩:=Mc r;have hn:=xf;exact len_str (by omega) (fun _=>⟨.int z.length,H,I.tok _,⟨_,rfl⟩,q⟩)
theorem y8c:Ec X (.type "list") (fun xs H Q=>∃p ys,xs=[.ref p]/\(SqL X.K H p ys\/SqT X.K H p ys)/\∀l,H l=none->Q (.ref l) (upd H l (.lst ys))):=by
 intro pins s σ H xs us Q I r h;obtain⟨p,ys,rfl,hq,q⟩:=h;obtain⟨u,rfl,rx⟩:=Mc r;cases rx;have fin:∀(its:List Value),Vals ys its->ys.length<=sizeLine->∀(h':Heap)(c':Nat),(∀b o',s.heap.get? b=some o'->h'.get? b=some o') ->
   h'.get? s.heap.objs.size=some { cls:=.type "list",dict:=none,data:=.seq its.toArray c',slots:=#[] }->EP X pins σ Q (.ref s.heap.objs.size) { s with heap:=h' }:=fun its r' hz h' c' kp e =>
  (fun _=>⟨.ref s.heap.objs.size,_,I.laid (t':=s.toks) kp (le_refl _) (show ObjOk X.prog X.w _ h' _ (.lst ys) from⟨hz,its,c',r',e⟩),rfl,q _ (I.hok.fresh (le_refl _))⟩)
 rcases hq with hq|hq
 ·obtain⟨its,r',pl,hz⟩:=I.list hq;have hlen:=r'.length;obtain⟨o,ho,hc,n,hd⟩:=pl.isList;exact call_list_seq p (.inl rfl) ho hc hd (fun h' c' kp e=>fin its r' hz h' c' kp e) (by simp only[size_toArray]<;>omega)
 ·obtain⟨its,r',pl,hz⟩:=I.tuple hq;have hlen:=r'.length;obtain⟨o,ho,hc,n,hd⟩:=pl;exact call_list_seq p (.inr rfl) ho hc hd (fun h' c' kp e=>fin its r' hz h' c' kp e) (by simp only[size_toArray]<;>omega)
def tyV (K:W.Frag)(T:String)(x:V)(H:Hp):Prop:=match x with
 |.str _=>T = "str"
 |.int _=>T = "int"
 |.ref p=>(T = "list"/\∃xs,SqL K H p xs)\/(T = "tuple"/\∃o,K.lookup p=some o/\o.cls=.type "tuple"/\o.dict=none) \/
   (T = "dict"/\((∃kvs,H p=some (.dK kvs)) \/ ∃kvs,H p=some (.dT kvs)))\/(T = "set"/\∃S n,H p=some (.set S n))
 |_=>False
theorem uk {pins:List (Addr×Obj)}{σ:St}{H:Hp}{s:Shared}{T:String}{x:V}{v:Value}(I:Inv X pins σ H s)(r:RelV x v)(ty:tyV X.K T x H) :
  s.TypeIs v T/\∀a,v=.ref a->∃ob,s.heap.get? a=some ob/\ob.dict=none:=by
 cases x with
 |str z =>
  obtain⟨t,rfl⟩:=r;cases(show T = "str" from ty);exact⟨typeIs_str s z t,fun _ e=>nomatch e⟩
 |int i =>
  obtain⟨t,rfl⟩:=r;cases(show T = "int" from ty);exact⟨typeIs_int s i t,fun _ e=>nomatch e⟩
 |ref p =>
  cases r;rcases ty with ⟨rfl,xs,hq⟩|⟨rfl,o,hk,hc,hd⟩|⟨rfl,hk⟩|⟨rfl,S,n,hk⟩
  ·obtain⟨its,_,pl,_⟩:=I.list hq;refine⟨pl.isList.typeIs,fun a e=>?_⟩;cases e;obtain⟨o,n,e,c,hd,_⟩:=pl;exact⟨o,e,hd⟩
  ·refine⟨⟨o,I.kIn p o hk,hc⟩,fun a e=>?_⟩;cases e;exact⟨o,I.kIn _ o hk,hd⟩
  ·have z:∃o,s.heap.get? p=some o/\o.ExactDict:=by
    rcases hk with ⟨kvs,hk⟩|⟨kvs,hk⟩
    ·obtain⟨_,_,_,_,o,_,_,e,ex,_⟩:=I.hok p _ hk;exact⟨o,e,ex⟩
    ·obtain⟨_,_,_,_,o,_,_,e,ex,_⟩:=I.hok p _ hk;exact⟨o,e,ex⟩
   obtain⟨o,e,ex⟩:=z;refine⟨⟨o,e,ex.1⟩,fun a e2=>?_⟩;cases e2;exact⟨o,e,ex.2.1⟩
  ·obtain⟨o,_,_,_,e,ex,_⟩:=I.hok p _ hk;refine⟨⟨o,e,ex.1⟩,fun a e2=>?_⟩;cases e2;exact⟨o,e,ex.2.1⟩
 |_=>exact False.elim ty
def tBM (K:W.Frag)(T:String)(r:V->List V->Hp->VK->Prop)(to:TE)(t:TA):TE:=fun σ H Q=>to σ H fun x H1=>tyV K T x H1/\t σ H1 fun xs H2=>r x xs H2 Q
variable {o e:Expr}{es:List Expr}{to:TE}{t:TA}{name:Str}{apos cpos:Pos}{T id:String}{r:V->List V->Hp->VK->Prop}
theorem yf (pa:PlainAttrs T)(slot:Slot T name id)(hty:typeOf (.builtin id)=pure (.type "method_descriptor"))(hm:MtR X id r)(ho:PE X o to)(ha:PA X (e::es) t)
  (hbase:attributeBase o name X.env (eval o X.env)=eval o X.env:=by rfl)
  (hfew:((backTo cpos (starEach (e::es) X.env)).all (fun x=>!x.1)&&(backToKw cpos (keywordEach [] X.env)).all (fun x=>x.1.isSome)
  &&decide ((e::es).length+([]:List Keyword).length+(if ([]:List Keyword).isEmpty then 0 else 1)<30))=true:=by rfl)
  (hline:(apos.endLine == cpos.line)=true:=by rfl)(hs:starEach (e::es) X.env=(false,eval e X.env)::starEach es X.env:=by rfl)(hplain:(backTo cpos (starEach es X.env)).any (·.1)=false:=by rfl) :
  PE X (.Call (.Attribute o name apos) (e::es) [] cpos) (tBM X.K T r to t):=by
 intro pins s σ H Q I h;refine wpAny_Call_method_late hbase hfew hline rfl (thn (ho pins s σ H _ I h) fun v s1 zq=>?_);obtain⟨x,H1,I1,r1,ty,q1⟩:=zq;obtain⟨h1,h2⟩:=uk I1 r1 ty;refine⟨T,id,pa,slot,hty,h1,h2,?_⟩;have hA:=ha cpos pins s1 σ H1 _ I1 q1;rw[hs]at hA ⊢;refine Calls.callWith_builtin (by show(false||(backTo cpos (starEach es X.env)).any (·.1))=false;rw[hplain]<;>rfl) (Calls.evalArgs_plain ?_);exact thn hA fun us s2 ⟨vs,H2,I2,r2,q2⟩=>hm pins s2 σ H2 x vs v us Q I2 r1 r2 q2
end
section
def MtM (X:Cx)(id:String)(r:V->List V->Hp->VK->Prop):Prop :=
 ∀(pins:List (Addr×Obj))(s:Shared)(σ:St)(H:Hp)(x:V)(xs:List V)(v:Value)(us:List Value)(Q:VK),Inv X pins σ H s->RelV x v->Vals xs us->r x xs H Q ->
  wpAny (model X.prog X.w) X.A (call (.builtin id) (v::us)) (EP X pins σ Q) X.xe s
theorem Vals.one {x:V}{us:List Value}(h:Vals [x] us):∃u,us=[u]/\RelV x u:=by
 cases h with
 |cons r t=>cases t;exact⟨_,rfl,r⟩
theorem Vals.zero:∀{us:List Value},Vals [] us->us=[]
 |_,.nil=>rfl
theorem Vals.dropLast {xs:List V}{us:List Value}(h:Vals xs us):Vals xs.dropLast us.dropLast:=by
 induction h with
 |nil=>exact .nil
 |cons r t ih =>
  cases t with
  |nil=>exact .nil
  |cons q t'=>exact .cons r ih
theorem Vals.reverse {xs:List V}{us:List Value}(h:Vals xs us):Vals xs.reverse us.reverse:=by
 induction h with
 |nil=>exact .nil
 |cons r t ih=>rw[reverse_cons,reverse_cons];exact Vals.append ih (.cons r .nil)
theorem x3d {α:Type}(l:List α):l.eraseIdx (l.length - 1)=l.dropLast:=by
 induction l with
 |nil=>rfl
 |cons a r ih =>
  cases r with
  |nil=>rfl
  |cons b r =>
   have e:(a::b::r).length - 1=((b::r).length - 1)+1:=by
    have h1:(a::b::r).length=r.length+2:=rfl;have h2:(b::r).length=r.length+1:=rfl;omega
   rw[e,List.eraseIdx_cons_succ,ih]
   all_goals rfl
variable {X:Cx}{pins:List (Addr×Obj)}{σ:St}{H:Hp}{s:Shared}{l b:Addr}{xs ys zs:List V}
theorem Inv.lset {its its':List Value}{n:Nat}{f:Array Value->Array Value}{t':Nat}(I:Inv X pins σ H s)(hH:H l=some (.lst xs))
  (e:s.heap.get? l=some { cls:=.type "list",data:=.seq its.toArray n })(hf:f its.toArray=its'.toArray)(hv:Vals ys its')(hz:ys.length<=sizeLine)(hk:tk0<=t':=by first|assumption|exact Inv.pos (by assumption)|exact le_trans (Inv.pos (by assumption)) (le_add_right _ _)|exact le_trans (le_trans (Inv.pos (by assumption)) (le_add_right _ _)) (le_add_right _ _)) :
  Inv X pins σ (upd H l (.lst ys)) { s with heap:=s.heap.update l (Obj.mapSeq f),toks:=t' }:=by
 have q:=PySem.IsL.update e f;rw[hf]at q;refine I.write (x:=l) (e:=l) (by rw[hH];exact trivial) (.inl rfl) (fun b' u hb hu=>(get?_update_other s.heap (Obj.mapSeq f) (Ne.symm hb)).trans hu) ⟨_,q⟩ ?_;exact⟨hz,its',_,hv,q⟩
theorem Inv.lnew {its:List Value}{t':Nat}(I:Inv X pins σ H s)(hv:Vals ys its)(hz:ys.length<=sizeLine)(hk:tk0<=t':=by first|assumption|exact Inv.pos (by assumption)|exact le_trans (Inv.pos (by assumption)) (le_add_right _ _)|exact le_trans (le_trans (Inv.pos (by assumption)) (le_add_right _ _)) (le_add_right _ _)) :
  Inv X pins σ (upd H s.heap.objs.size (.lst ys)) { s with heap:=s.heap.push { cls:=.type "list",data:=.seq its.toArray },toks:=t' } :=
 I.laid (fun _ _ q=>get?_push_of_some _ q) (le_refl _) ⟨hz,its,0,hv,get?_push_size _ rfl⟩
theorem Inv.fresh (I:Inv X pins σ H s):H s.heap.objs.size=none:=I.hok.fresh (le_refl _)
theorem Inv.lstM (I:Inv X pins σ H s)(hH:H l=some (.lst xs)):xs.length<=sizeLine/\∃(its:List Value)(n:Nat),Vals xs its/\xs.length=its.length/\s.heap.get? l=some { cls:=.type "list",data:=.seq its.toArray n }:=by
 obtain⟨z,its,n,r,e⟩:=I.hok l _ hH;exact⟨z,its,n,r,r.length,e⟩
theorem q5z {n:Nat}(h:n<=sizeLine):Builtin.List.listTooLong n=false:=by
 unfold Builtin.List.listTooLong;exact decide_eq_false (by omega)
def z6c:V->List V->Hp->VK->Prop:=fun x vs H Q=>∃l xs y,x=.ref l/\vs=[y]/\H l=some (.lst xs)/\xs.length<sizeLine/\Q .non (upd H l (.lst (xs++[y])))
theorem zb:MtM X "list.append" z6c:=by
 intro pins s σ H x vs v us Q I rx rv h;obtain⟨l,xs,y,rfl,rfl,hH,hz,q⟩:=h;cases rx;obtain⟨u,rfl,ru⟩:=rv.one;obtain⟨z,its,n,r,hl,e⟩:=I.lstM hH;refine call_meets F.slot_list_append ⟨_,e,rfl⟩ F.entry_list_append (F.args_list_append_2 _ _) (PySem.list_append l its.toArray n u (by rw[size_toArray];omega)) ⟨e,?_⟩;refine(fun _=>⟨.non,_,I.lset (its':=its++[u]) hH e (by simp) (r.append (.cons ru .nil)) ?_,rfl,q⟩);rw[length_append,length_singleton];omega
def Oo:V->List V->Hp->VK->Prop:=fun x vs H Q=>∃l b xs zs,x=.ref l/\vs=[.ref b]/\H l=some (.lst xs)/\H b=some (.lst zs)/\xs.length+zs.length<=sizeLine/\Q .non (upd H l (.lst (xs++zs)))
theorem Po:MtM X "list.extend" Oo:=by
 intro pins s σ H x vs v us Q I rx rv h;obtain⟨l,b,xs,zs,rfl,rfl,hH,hB,hz,q⟩:=h;cases rx;obtain⟨u,rfl,ru⟩:=rv.one;cases ru;obtain⟨z,its,n,r,hl,e⟩:=I.lstM hH;obtain⟨z2,its2,n2,r2,hl2,e2⟩:=I.lstM hB;have hsz:its.toArray.size+its2.toArray.size<=sizeLine:=by rw[size_toArray,size_toArray];omega
 have hlong:¬(!its.toArray.isEmpty&&Builtin.List.listTooLong (its.toArray.size+its2.toArray.size))=true:=by
  rw[q5z hsz,Bool.and_false];exact Bool.false_ne_true
 refine call_meets F.slot_list_extend ⟨_,e,rfl⟩ F.entry_list_extend (F.args_list_extend_2 _ _)
  (AutoSeq1.list_extend_list_list_0 l its.toArray n b its2.toArray n2 hlong (by rw[size_toArray];omega) (by omega)) ⟨e,e2,?_⟩
 refine(fun _=>⟨.non,_,I.lset (its':=its++its2) hH e (by simp) (r.append r2) ?_,rfl,q⟩);rw[length_append];omega
def rPop:V->List V->Hp->VK->Prop:=fun x vs H Q=>∃l xs y,x=.ref l/\vs=[]/\H l=some (.lst xs)/\xs[xs.length - 1]? = some y/\Q y (upd H l (.lst xs.dropLast))
theorem Di:MtM X "list.pop" rPop:=by
 intro pins s σ H x vs v us Q I rx rv h;obtain⟨l,xs,y,rfl,rfl,hH,hy,q⟩:=h;cases rx;have hus:=rv.zero;subst hus;obtain⟨z,its,n,r,hl,e⟩:=I.lstM hH;obtain⟨u,hu,ru⟩:=r.get hy;have hy':its.toArray[its.toArray.size - 1]? = some u:=by
  show its.toArray[its.length - 1]? = some u;rw[<-Array.getElem?_toList,<-hl];exact hu
 refine call_meets F.slot_list_pop ⟨_,e,rfl⟩ F.entry_list_pop (F.args_list_pop_1 _) (MeetsSeq.list_pop_last l its.toArray n u hy' (by rw[size_toArray];omega)) ⟨e,?_⟩;refine(fun _=>⟨y,_,I.lset (its':=its.dropLast) hH e ?_ r.dropLast ?_,ru,q⟩)
 ·show its.toArray.eraseIdxIfInBounds (its.toArray.size - 1)=its.dropLast.toArray;rw[size_toArray,List.eraseIdxIfInBounds_toArray,x3d]
 ·rw[List.length_dropLast];omega
def rCat:R2:=fun x y H Q=>∃l b xs zs,x=.ref l/\y=.ref b/\H l=some (.lst xs)/\H b=some (.lst zs)/\xs.length+zs.length<=sizeLine/\∀p,H p=none->Q (.ref p) (upd H p (.lst (xs++zs)))
theorem Cb:OpR X (binaryOp .Add) rCat:=by
 intro pins s σ H x y v u Q I rx ry h;obtain⟨l,b,xs,zs,rfl,rfl,hH,hB,hz,q⟩:=h;cases rx;cases ry;obtain⟨z,its,n,r,hl,e⟩:=I.lstM hH;obtain⟨z2,its2,n2,r2,hl2,e2⟩:=I.lstM hB;refine PySem.P.add_list e e2 ?_ (by rw[size_toArray,size_toArray];omega);have ea:its.toArray++its2.toArray=(its++its2).toArray:=by simp
 rw[ea];exact(fun _=>⟨.ref _,_,I.lnew (t':=s.toks) (r.append r2) (by rw[length_append];omega),rfl,q _ I.fresh⟩)
variable {κ:Type}[DecidableEq κ]
noncomputable def valV (kvs:List (κ×V))(k:κ):Option V:=(kvs.find? fun kv=>decide (kv.1=k)).map (·.2)
noncomputable def putK (kvs:List (κ×V))(k:κ)(v:V):List (κ×V) :=
 if (kvs.any fun kv=>decide (kv.1=k))=true then kvs.map (fun kv=>if kv.1=k then(kv.1,v) else kv) else kvs++[(k,v)]
theorem vk {p:κ×V}{r:List (κ×V)}{k:κ}(e:p.1=k):valV (p::r) k=some p.2:=by simp[valV,find?_cons,e]
theorem wk {p:κ×V}{r:List (κ×V)}{k:κ}(e:¬p.1=k):valV (p::r) k=valV r k:=by simp[valV,find?_cons,e]
theorem Qo (k:κ):∀kvs:List (κ×V),(kvs.any fun kv=>decide (kv.1=k))=(valV kvs k).isSome
 | []=>rfl
 |p::r=>by
  rw[any_cons];by_cases e:p.1=k
  ·simp only[vk e,decide_eq_true e,Bool.true_or,Option.isSome_some]
  ·rw[wk e,decide_eq_false e,Bool.false_or];exact Qo k r
theorem Ro (kvs:List (κ×V))(k:κ)(v:V):(putK kvs k v).length<=kvs.length+1:=by
 unfold putK;split
 ·rw[length_map];omega
 ·rw[length_append,length_cons,length_nil];omega
theorem RelO.isSome_eq {o:Option V}{u:Option Value}(r:RelO o u):o.isSome=u.isSome:=by
 cases o with
 |none=>cases u with
  |none=>rfl
  |some _=>exact(show False from r).elim
 |some _=>cases u with
  |none=>exact(show False from r).elim
  |some _=>rfl
theorem RelO.getD {o:Option V}{u:Option Value}{d:V}{d':Value}(r:RelO o u)(rd:RelV d d'):RelV (o.getD d) (u.getD d'):=by
 cases o with
 |none=>cases u with
  |none=>exact rd
  |some _=>exact(show False from r).elim
 |some _=>cases u with
  |none=>exact(show False from r).elim
  |some _=>exact r
theorem KV.val {kvs:List (κ×V)}{vs:List (κ×Value)}(r:KV kvs vs)(k:κ):RelO (valV kvs k) (valueAt vs k):=by
 unfold KV at r;induction r with
 |nil=>exact True.intro
 | @cons p q ps qs h t ih =>
  obtain⟨h1,h2⟩:=h;by_cases e:p.1=k
  ·have e':q.1=k:=h1.symm.trans e;have b:valueAt (q::qs) k=some q.2:=by simp[valueAt,find?_cons,e']
   rw[vk e,b];exact h2
  ·have e':¬q.1=k:=fun z=>e (h1.trans z);have b:valueAt (q::qs) k=valueAt qs k:=by simp[valueAt,find?_cons,e']
   rw[wk e,b];exact ih
theorem KV.any {kvs:List (κ×V)}{vs:List (κ×Value)}(r:KV kvs vs)(k:κ):(kvs.any fun kv=>decide (kv.1=k))=vs.any fun kv=>decide (kv.1=k):=by
 unfold KV at r;induction r with
 |nil=>rfl
 |cons h t ih=>rw[any_cons,any_cons,ih,h.1]
theorem KV.repl {kvs:List (κ×V)}{vs:List (κ×Value)}(r:KV kvs vs)(k:κ){y:V}{u:Value}(ry:RelV y u) :
  KV (kvs.map fun kv=>if kv.1=k then(kv.1,y) else kv) (vs.map fun kv=>if kv.1=k then(kv.1,u) else kv):=by
 unfold KV at r ⊢;induction r with
 |nil=>exact .nil
 | @cons p q ps qs h t ih =>
  rw[map_cons,map_cons];refine .cons ?_ ih;obtain⟨h1,h2⟩:=h;by_cases e:p.1=k
  ·rw[if_pos e,if_pos (h1.symm.trans e)];exact⟨h1,ry⟩
  ·rw[if_neg e,if_neg (fun z=>e (h1.trans z))];exact⟨h1,h2⟩
theorem KV.put {kvs:List (κ×V)}{vs:List (κ×Value)}(r:KV kvs vs)(k:κ){y:V}{u:Value}(ry:RelV y u):KV (putK kvs k y) (stored vs k u):=by
 unfold putK stored;rw[r.any k];by_cases e:(vs.any fun kv=>decide (kv.1=k))=true
 ·rw[if_pos e,if_pos e];exact r.repl k ry
 ·rw[if_neg e,if_neg e];exact Paired.snoc r ⟨rfl,ry⟩
theorem KV.length {kvs:List (κ×V)}{vs:List (κ×Value)}(r:KV kvs vs):kvs.length=vs.length:=Paired.length r
theorem bg {P:Program}{w:World}{k:Key}{u:Value}(r:RelV (kV k) u):(nc P w).is k u=true:=by
 cases k with
 |inl i=>obtain⟨t,e⟩:=(show ∃t,u=Value.int i t from r);subst e;exact y8q P w i t
 |inr x=>obtain⟨t,e⟩:=(show ∃t,u=Value.str x t from r);subst e;exact x0l P w x t
theorem kO_is {P:Program}{w:World}{k:KeyO}{u:Value}(r:RelV (kO k) u):(Be P w).is k u=true:=by
 cases k with
 |none=>cases(show u=Value.none from r);rfl
 |some k=>exact(bg r:(nc P w).is k u=true)
theorem So {P:Program}{w:World}:∀{ks:List KeyO}{us:List Value},Vals (ks.map kO) us->ItemsAre (Be P w) ks us
 | [],_,r=>by rw[map_nil]at r;cases r;exact .nil
 |k::ks,_,r=>by
  rw[map_cons]at r;cases r with
  |cons h t=>exact .cons (kO_is h) (So t)
abbrev KT (H:Hp):List (List KeyO×V)->List (List KeyO×Addr×Value)->Prop:=Paired fun p q=>p.1=q.1/\H q.2.1=some (.tup (p.1.map kO))/\RelV p.2 q.2.2
theorem KT.val {H:Hp}{kvs:List (List KeyO×V)}{xs:List (List KeyO×Addr×Value)}(r:KT H kvs xs)(k:List KeyO):RelO (valV kvs k) ((atKey xs k).map (·.2)):=by
 induction r with
 |nil=>exact True.intro
 | @cons p q ps qs h t ih =>
  obtain⟨h1,_,h2⟩:=h;by_cases e:p.1=k
  ·have e':q.1=k:=h1.symm.trans e;have b:atKey (q::qs) k=some q.2:=by simp[atKey,find?_cons,e']
   rw[vk e,b];exact h2
  ·have e':¬q.1=k:=fun z=>e (h1.trans z);have b:atKey (q::qs) k=atKey qs k:=by simp[atKey,find?_cons,e']
   rw[wk e,b];exact ih
theorem KT.repl {H:Hp}{kvs:List (List KeyO×V)}{xs:List (List KeyO×Addr×Value)}(r:KT H kvs xs)(k:List KeyO){y:V}{u:Value}(ry:RelV y u) :
  KT H (kvs.map fun kv=>if kv.1=k then(kv.1,y) else kv) (xs.map (putAt k u)):=by
 induction r with
 |nil=>exact .nil
 | @cons p q ps qs h t ih =>
  rw[map_cons,map_cons];refine .cons ?_ ih;obtain⟨h1,h2,h3⟩:=h;unfold putAt;by_cases e:p.1=k
  ·rw[if_pos e,if_pos (h1.symm.trans e)];exact⟨h1,h2,ry⟩
  ·rw[if_neg e,if_neg (fun z=>e (h1.trans z))];exact⟨h1,h2,h3⟩
theorem KT.put {H:Hp}{kvs:List (List KeyO×V)}{xs:List (List KeyO×Addr×Value)}(r:KT H kvs xs)(k:List KeyO){b:Addr}{y:V}{u:Value}(hb:H b=some (.tup (k.map kO)))(ry:RelV y u) :
  KT H (putK kvs k y) (storedH xs k b u):=by
 have e:(kvs.any fun kv=>decide (kv.1=k))=(atKey xs k).isSome:=by
  rw[Qo,(r.val k).isSome_eq,isSome_map]
 unfold putK storedH;rw[e];by_cases q:(atKey xs k).isSome=true
 ·rw[if_pos q,if_pos q];exact r.repl k ry
 ·rw[if_neg q,if_neg q];exact Paired.snoc r ⟨rfl,hb,ry⟩
theorem KT.keeps {H H':Hp}{kvs:List (List KeyO×V)}{xs:List (List KeyO×Addr×Value)}(r:KT H kvs xs)(ht:∀b ys,H b=some (.tup ys)->H' b=some (.tup ys)):KT H' kvs xs :=
 Paired.mapP r fun _ _ z=>⟨z.1,ht _ _ z.2.1,z.2.2⟩
variable {P:Program}{w:World}{h:Heap}{a:Addr}
theorem Uo {u:HO}(ok:HOk P w H h)(e:Rd H a u):ObjOk P w H h a u:=e.ok ok
theorem Ei {kvs:List (Key×V)}(ok:HOk P w H h)(e:Rd H a (.dK kvs)):kvs.length<=sizeLine/\(a == sysModules)=false/\∃vs,KV kvs vs/\h.DictOf (nc P w) a vs :=
 show ObjOk P w H h a (.dK kvs) from Uo ok e
theorem Vo {kvs:List (Key×V)}(ok:HOk P w H h)(e:H a=some (.dK kvs)):kvs.length<=sizeLine/\(a == sysModules)=false/\∃vs,KV kvs vs/\h.DictOf (nc P w) a vs:=Ei ok (.inl e)
theorem Fi {ks:List KeyO}(ok:HOk P w H h)(e:H a=some (.tup (ks.map kO))):(tupleKind (Be P w)).is h ks a:=by
 obtain⟨_,its,r,o,h1,h2,n,h3⟩:=(show ObjOk P w H h a (.tup (ks.map kO)) from ok a _ e);exact⟨o,its.toArray,n,h1,h2,h3,by simpa using So r⟩
theorem Gi {kvs:List (List KeyO×V)}(ok:HOk P w H h)(e:Rd H a (.dT kvs)):kvs.length<=sizeLine/\(a == sysModules)=false /\
  ∃xs,KT H kvs xs/\h.DictOfH (tupleKind (Be P w)) a xs:=by
 obtain⟨z,y,xs,r,o,es,ep,h1,h2,h3,h4,h5⟩:=(show ObjOk P w H h a (.dT kvs) from Uo ok e);refine⟨z,y,xs,r,o,es,ep,h1,h2,h3,h4,fun x hx=>?_,h5⟩;have all:∀{l:List (List KeyO×V)}{m:List (List KeyO×Addr×Value)},KT H l m->∀x∈m,(tupleKind (Be P w)).is h x.1 x.2.1:=by
  intro l m q;induction q with
  |nil=>intro x hx;exact nomatch hx
  | @cons p q ps qs hq t ih =>
   intro x hx;rcases mem_cons.mp hx with e|hx
   ·subst e;exact Fi ok (by rw[<-hq.1];exact hq.2.1)
   ·exact ih x hx
 exact all r x hx
theorem dt_of {kvs:List (List KeyO×V)}(ok:HOk P w H h)(e:H a=some (.dT kvs)):kvs.length<=sizeLine/\(a == sysModules)=false /\
  ∃xs,KT H kvs xs/\h.DictOfH (tupleKind (Be P w)) a xs:=Gi ok (.inl e)
def DGet (H:Hp)(a:Addr)(y:V)(r:Option V):Prop :=
 (∃kvs k,Rd H a (.dK kvs)/\y=kV k/\r=valV kvs k) \/ ∃kvs k b,Rd H a (.dT kvs)/\y=.ref b/\H b=some (.tup (k.map kO))/\r=valV kvs k
def DPut (H:Hp)(a:Addr)(y v:V)(H':Hp):Prop :=
 (∃kvs k,H a=some (.dK kvs)/\y=kV k/\kvs.length<sizeLine/\H' = upd H a (.dK (putK kvs k v))) \/
 ∃kvs k b,H a=some (.dT kvs)/\y=.ref b/\H b=some (.tup (k.map kO))/\kvs.length<sizeLine/\H' = upd H a (.dT (putK kvs k v))
theorem DGet.k {H:Hp}{a:Addr}{kvs:List (Key×V)}{k:Key}(e:H a=some (.dK kvs)):DGet H a (kV k) (valV kvs k):=.inl ⟨kvs,k,.inl e,rfl,rfl⟩
theorem DPut.k {H:Hp}{a:Addr}{kvs:List (Key×V)}{k:Key}{v:V}(e:H a=some (.dK kvs))(hl:kvs.length<sizeLine):DPut H a (kV k) v (upd H a (.dK (putK kvs k v))):=.inl ⟨kvs,k,e,rfl,hl,rfl⟩
variable {y v:V}{u r:Value}{o:Option V}{A:Around}{E:Value->Shared->Prop}
theorem Inv.big (I:Inv X pins σ H s):sysModules<s.heap.objs.size:=by
 have h:mainGlobals<s.heap.objs.size:=(I.mod.glob.keeps I.bk).lt;exact Nat.lt_trans (by decide) h
theorem d_in {Q:Value->Shared->Prop}(hu:A.units+1<cLine)(I:Inv X pins σ H s)(g:DGet H a y o)(ry:RelV y u)(h:∀s',Inv X pins σ H s'->Q (.bool o.isSome) s') :
  wpAny (model X.prog X.w) A (compareOp .In u (.ref a)) Q E s:=by
 rcases g with ⟨kvs,k,e,ey,l⟩|⟨kvs,k,b,e,ey,eb,l⟩
 ·subst ey;obtain⟨z,hd,vs,rel,dd⟩:=Ei I.hok e;refine wpAny_in_of (bg ry) hd dd.mapOf ?_;rw[<-(rel.val k).isSome_eq,<-l];exact h _ (I.tok _)
 ·subst ey;cases(show u=Value.ref b from ry);obtain⟨z,hd,xs,rel,dd⟩:=Gi I.hok e;refine wpAny_in_heap (tupleKind_room_in1 hu) (Fi I.hok eb) hd dd ?_;have q:=(rel.val k).isSome_eq;rw[isSome_map]at q;rw[<-q,<-l];exact h _ (I.tok _)
theorem xk {h':Heap}{t':Nat}{ob:HO}(I:Inv X pins σ H s)(mu:Mut (H a))(hs:Heap.SameBut a s.heap h')(he:∃q,h'.get? a=some q)(new:ObjOk X.prog X.w (upd H a ob) h' a ob)(hk:tk0<=t':=by first|assumption|exact Inv.pos (by assumption)|exact le_trans (Inv.pos (by assumption)) (le_add_right _ _)|exact le_trans (le_trans (Inv.pos (by assumption)) (le_add_right _ _)) (le_add_right _ _)) :
  Inv X pins σ (upd H a ob) { s with heap:=h',toks:=t' } :=
 I.write (x:=a) (e:=a) mu (.inl rfl) (fun b q hb z=>(hs.2 b hb).trans z) he new
theorem Wo {P:Program}{w:World}{H':Hp}{h':Heap}{kvs:List (Key×V)}{vs:List (Key×Value)}(z:kvs.length<=sizeLine)(hd:(a == sysModules)=false)(rel:KV kvs vs)(dd:h'.DictOf (nc P w) a vs) :
  ObjOk P w H' h' a (.dK kvs):=⟨z,hd,vs,rel,dd⟩
theorem x7t {H':Hp}{Q:Unit->Shared->Prop}(hu:A.units+1<cLine)(I:Inv X pins σ H s)(g:DPut H a y v H')(ry:RelV y u)(rv:RelV v r)(h:∀s',Inv X pins σ H' s'->Q () s') :
  wpAny (model X.prog X.w) A (setItem (.ref a) u r) Q E s:=by
 rcases g with ⟨kvs,k,e,ey,l,eH⟩|⟨kvs,k,b,e,ey,eb,l,eH⟩
 ·subst ey eH;obtain⟨z,hd,vs,rel,dd⟩:=Vo I.hok e;have hz:vs.length<=sizeLine:=by rw[<-rel.length];exact z
  have hl:(putK kvs k v).length<=sizeLine:=by have:=Ro kvs k v;omega
  refine wpAny_setItem_pairs (hsz:=hz) (bg ry) dd fun h' dd' hs=>h _ ?_;have he:∃q,h'.get? a=some q:=let ⟨q,_,_,hq,_⟩:=dd';⟨q,hq⟩;exact xk I (by rw[e];exact True.intro) hs he (Wo hl hd (rel.put k rv) dd')
 ·subst ey eH;cases(show u=Value.ref b from ry);obtain⟨z,hd,xs,rel,dd⟩:=dt_of I.hok e;have hz:xs.length<=sizeLine:=by rw[<-Paired.length rel];exact z
  have hl:(putK kvs k v).length<=sizeLine:=by have:=Ro kvs k v;omega
  refine wpAny_setItem_heap (hsz:=hz) (tupleKind_room_in1 hu) (Fi I.hok eb) dd fun h' dd' hs=>h _ ?_;obtain⟨q,es,ep,hq,h2,h3,h4,_,h5⟩:=dd';refine xk I (by rw[e];exact True.intro) hs ⟨q,hq⟩ ⟨hl,hd,_,(rel.put k eb rv).keeps fun c ys ec=>?_,q,es,ep,hq,h2,h3,h4,h5⟩;rw[wa (oi ec e (fun z=>nomatch z))];exact ec
def NoSl (i:Expr):Prop:=∀ov iv,subscripted i false ov iv=operate [ov,iv] (getItem ov iv)
def tDIn (ty td:TE):TE:=fun σ H Q=>ty σ H fun y H1=>td σ H1 fun x H2=>∃a o,x=.ref a/\DGet H2 a y o/\Q (.bl o.isSome) H2
def q9l (ty td:TE):TE:=fun σ H Q=>ty σ H fun y H1=>td σ H1 fun x H2=>∃a o,x=.ref a/\DGet H2 a y o/\Q (.bl (!o.isSome)) H2
def j3k (td ty tv:TE):TS:=fun D σ H=>tv σ H fun v H1=>td σ H1 fun x H2=>ty σ H2 fun y H3=>∃a H4,x=.ref a/\DPut H3 a y v H4/\D.nx σ H4
end
section
variable {X:Cx}{o i e value:Expr}{pos pos' tpos:Pos}{td ty tv:TE}
theorem Xo (hu:X.A.units+1<cLine)(hi:PE X i ty)(ho:PE X o td):PC X .In i o (tDIn ty td):=by
 intro pins s σ H Q I h;refine thn (hi pins s σ H _ I h) fun iv s1 ⟨y,H1,I1,ry,q1⟩=>thn (ho pins s1 σ H1 _ I1 q1) fun u s2 zq=>?_;obtain⟨x,H2,I2,rx,a,ov,ex,g,q2⟩:=zq;subst ex;obtain rfl:u=Value.ref a:=rx;exact d_in hu I2 g ry fun s3 I3=>(fun _=>⟨.bl ov.isSome,H2,I3,rfl,q2⟩)
theorem Yo (hu:X.A.units+1<cLine)(ho:PE X o td)(hi:PE X i ty)(hv:PE X value tv)(hs:swapsWith value (some (.Subscript o i pos')) pos.line X.env=pure false) :
  PS X (.Assign [.Subscript o i pos'] value pos) (j3k td ty tv):=by
 intro pins s σ H D I h;refine wpAny_Assign_Subscript (thn (hv pins s σ H _ I h) fun r s1 ⟨v,H1,I1,rv,q1⟩=>thn (ho pins s1 σ H1 _ I1 q1) fun u s2 ⟨x,H2,I2,rx,q2⟩=>thn (hi pins s2 σ H2 _ I2 q2) fun iv s3 zq=>?_) hs;obtain⟨y,H3,I3,ry,a,H4,ex,g,q3⟩:=zq;subst ex;obtain rfl:u=Value.ref a:=rx;exact x7t hu I3 g ry rv fun s4 I4=>(fun _=>⟨σ,H4,I4,q3⟩)
theorem Zo {P:Program}{w:World}{H:Hp}(h:Heap)(hb:sysModules<h.objs.size):ObjOk P w H (h.push { cls:=.type "dict",data:=.dict #[] }) h.objs.size (.dK []) :=
 ⟨zero_le _,beq_eq_false_iff_ne.mpr (Ne.symm (ne_of_lt hb)),[],.nil,Heap.DictOf.new h⟩
def y0z:TE:=fun _ H Q=>∀p,H p=none->Q (.ref p) (upd H p (.dK []))
theorem ap:PE X (.Dict [] [] pos) y0z:=fun pins s σ H Q I h =>
 wpAny_Dict_empty (fun _=>⟨.ref s.heap.objs.size,_,I.laid (a:=s.heap.objs.size) (o:=.dK []) (t':=s.toks) (fun _ _ q=>get?_push_of_some _ q) (le_refl _) (Zo s.heap I.big),rfl,h _ (I.hok.fresh (le_refl _))⟩)
structure M1 (X:Cx)(o:Expr)(m:Str)(apos:Pos)(e:Expr)(cpos:Pos):Prop where
 base:attributeBase o m X.env (eval o X.env)=eval o X.env
 few:((backTo cpos (starEach [e] X.env)).all (fun x=>!x.1)&&(backToKw cpos (keywordEach [] X.env)).all (fun x=>x.1.isSome)
 &&decide (([e]:List Expr).length+([]:List Keyword).length+(if ([]:List Keyword).isEmpty then 0 else 1)<30))=true
 line:(apos.endLine == cpos.line)=true
 trees:backTo cpos (starEach [e] X.env)=[(false,eval e X.env)]
structure M2 (X:Cx)(o:Expr)(m:Str)(apos:Pos)(e f:Expr)(cpos:Pos):Prop where
 base:attributeBase o m X.env (eval o X.env)=eval o X.env
 few:((backTo cpos (starEach [e,f] X.env)).all (fun x=>!x.1)&&(backToKw cpos (keywordEach [] X.env)).all (fun x=>x.1.isSome)
 &&decide (([e,f]:List Expr).length+([]:List Keyword).length+(if ([]:List Keyword).isEmpty then 0 else 1)<30))=true
 line:(apos.endLine == cpos.line)=true
 trees:backTo cpos (starEach [e,f] X.env)=[(false,eval e X.env),(false,eval f X.env)]
def IsD (H:Hp)(a:Addr):Prop:=(∃kvs,Rd H a (.dK kvs)) \/ ∃kvs,Rd H a (.dT kvs)
theorem j9a {X:Cx}{pins:List (Addr×Obj)}{σ:St}{H:Hp}{s:Shared}{a:Addr}(I:Inv X pins σ H s)(d:IsD H a) :
  s.TypeIs (.ref a) "dict"/\(∀b,Value.ref a=.ref b->∃ob,s.heap.get? b=some ob/\ob.dict=none)/\(a == sysModules)=false:=by
 rcases d with ⟨kvs,e⟩|⟨kvs,e⟩
 ·obtain⟨_,hd,vs,_,dd⟩:=Ei I.hok e;refine⟨dd.typeIs,fun b q=>?_,hd⟩;cases q;obtain⟨ob,_,_,h1,h2,_⟩:=dd;exact⟨ob,h1,h2.2.1⟩
 ·obtain⟨_,hd,xs,_,dd⟩:=Gi I.hok e;refine⟨dd.typeIs,fun b q=>?_,hd⟩;cases q;obtain⟨ob,_,_,h1,h2,_⟩:=dd;exact⟨ob,h1,h2.2.1⟩
end
section
variable {X:Cx}{pins:List (Addr×Obj)}{σ:St}{H:Hp}{s:Shared}{a:Addr}{y d:V}{u r:Value}{o:Option V}{A:Around}{E:Value->Shared->Prop}
theorem j7y {Q:Value->Shared->Prop}(hu:A.units+1<cLine)(I:Inv X pins σ H s)(g:DGet H a y o)(ry:RelV y u)(rd:RelV d r)(h:∀w' s',Inv X pins σ H s'->RelV (o.getD d) w'->Q w' s') :
  wpAny (model X.prog X.w) A (call (.builtin "dict.get") [.ref a,u,r]) Q E s:=by
 rcases g with ⟨kvs,k,e,ey,l⟩|⟨kvs,k,b,e,ey,eb,l⟩
 ·subst ey;obtain⟨z,hd,vs,rel,dd⟩:=Ei I.hok e;refine call_meetsIn slot_dict_get dd.typeIs entry_dict_get (PySem.F.args_dict_get_3 _ _ _) (meets_dict_get_default (nc X.prog X.w) a (bg ry) hd r) ⟨_,dd.mapOf,h _ _ (I.tok _) ?_⟩;rw[l];exact(rel.val k).getD rd
 ·subst ey;cases(show u=Value.ref b from ry);obtain⟨z,hd,xs,rel,dd⟩:=Gi I.hok e;refine call_meetsIn slot_dict_get dd.typeIs entry_dict_get (PySem.F.args_dict_get_3 _ _ _) (meetsH_dict_get_default (tupleKind (Be X.prog X.w)) a b hd r) ⟨tupleKind_room_in1 hu,k,xs,Fi I.hok eb,dd,h _ _ (I.tok _) ?_⟩;rw[l];exact(rel.val k).getD rd
def j8r (td ty tx:TE):TE:=fun σ H Q=>td σ H fun x H1=>∃a,x=.ref a/\IsD H1 a/\ty σ H1 fun y H2=>tx σ H2 fun z H3=>∃o,DGet H3 a y o/\Q (o.getD z) H3
end
section
variable {X:Cx}{o e f:Expr}{apos cpos:Pos}{td ty tx:TE}
theorem q4j (hu:X.A.units+1<cLine)(ho:PE X o td)(he:PE X e ty)(hf:PE X f tx)(m:M2 X o "get" apos e f cpos):PE X (.Call (.Attribute o "get" apos) [e,f] [] cpos) (j8r td ty tx):=by
 intro pins s σ H Q I h;refine wpAny_Call_method m.base m.few m.line PySem.F.plainAttrs_dict slot_dict_get PySem.F.type_dict_get (thn (ho pins s σ H _ I h) fun u s1 ⟨x,H1,I1,rx,a,ex,d,q1⟩=>?_);subst ex;obtain rfl:u=Value.ref a:=rx;obtain⟨t1,t2,_⟩:=j9a I1 d;refine⟨t1,t2,?_⟩;rw[m.trees];refine Calls.callWith_builtin rfl (Calls.evalArgs_plain (Calls.spliced_cons (thn (he pins s1 σ H1 _ I1 q1) fun iv s2 ⟨y,H2,I2,ry,q2⟩ =>
  Calls.spliced_cons (thn (hf pins s2 σ H2 _ I2 q2) fun fv s3 ⟨z,H3,I3,rz,ov,g,q3⟩=>Calls.spliced_nil ?_))))
 exact j7y hu I3 g ry rz fun w' s4 I4 rw'=>(fun _=>⟨_,H3,I4,rw',q3⟩)
end
end L2
namespace Att
open PySem PySem.W PySem.Calls PyProof.Rows
theorem y1c {P:Params}{h:Heap}:∀(ns:List Int)(vs:List Value),WellAll P h vs (ns.map WData.int)->IntsAre vs ns:=by
 intro ns;induction ns with
 |nil =>
  intro vs w;rw[map_nil]at w;cases w;exact .nil
 |cons n ns ih =>
  intro vs w;rw[map_cons]at w;cases w with
  |cons a b =>
   cases a;exact .cons _ _ (ih _ b)
theorem script_of {l:OpenLaw}{n:Nat}(hn:l.most=some n){P:Params}{h:Heap}{args:List WData}{vals:List Value}
  (hpre:l.row.toRowW.claim.pre args=true)(hwl:WellAll P h vals args) :
  ∃a vs ns,vals=[Value.ref a]/\args=[WData.list (ns.map WData.int)]/\h.get? a=some { cls:=.type "list",data:=.seq vs.toArray }/\IntsAre vs ns/\ns.length<=n:=by
 have hsh:WShape.hasAll [] args [.list .int]=true:=(pre_splitW hpre).1;have hc:l.pre.holds [] { args:=args }=true:=(pre_splitW hpre).2;obtain⟨d,r,rfl,h1,h2⟩:=hasAllW_cons hsh;obtain rfl:=hasAllW_nil h2;obtain⟨xs,rfl,h3⟩:=hasW_list h1;obtain⟨ns,rfl⟩:=items_int h3;have hlen:ns.length<=n:=by
  unfold OpenLaw.pre at hc;have h4:(WTm.not (.lt (.lit (.int (n:Int))) (.len (.arg 0)))).holds [] { args:=[.list (ns.map .int)] }=true:=by
   have h4:=(holds_andW hc).1;rw[hn]at h4;exact h4
  have h5:=condW_of h4 (w_not (w_lt w_lit (w_len_list (w_arg rfl))));rw[length_map]at h5;refine Nat.le_of_not_lt fun q=>?_;have q':(n:Int)<((ns.length:Nat):Int):=by omega
  first
   |(rw[decide_eq_true q']at h5;exact absurd h5 (by decide))
   |(simp at h5;omega)
 cases hwl with
 |cons w1 w2 =>
  cases w2;cases w1 with
  |list ho hall=>exact⟨_,_,ns,rfl,rfl,ho,y1c ns _ hall,hlen⟩
theorem post_true (l:OpenLaw)(args:List WData):l.row.toRowW.claim.post args (.bool true) args=true :=
 postW_of (r:=l.row.toRowW) (X:=(true == true))
  (show WShape.has [] (.bool true) .bool=true by first|rfl|decide|simp[WShape.has,WShape.arms,WShape.armsAll])
  (show(WTm.eq .res (.lit (.bool true))).value [] { args:=args,res:=some (.bool true),after:=args }=some (.bool (true == true)) from w_eq_bool (w_res rfl) w_lit) rfl
end Att
namespace L2
open PySem PySem.Spec PyProof.Rows
theorem bp:∀{vs:List Value}{ns:List Int},IntsAre vs ns->Vals (ns.map V.int) vs
 |_,_,.nil=>.nil
 |_,_,.cons n t h=>.cons ⟨t,rfl⟩ (bp h)
def Only (H:Hp):Prop:=∀b,H b=none\/(∃o xs,H b=some (.frz o (.lst xs)))\/(H b=some .lam/\lamP=some b)
theorem q4m {P:Program}{w:World}{K:W.Frag}{mg mb:Str->Option Value}{CX:CXT}{k:Nat}{fa a:Addr}{fd:FuncData}{x:Str}{sp:Sp}{s₁:Shared}{vs:List Value}{ns:List Int}
  (hpos:tk0<=s₁.toks)(KX:K.In s₁.heap)(hns:s₁.heap.Ns mainGlobals mg)(hb:s₁.heap.Ns builtinsNs mb)(hbb:∀x:Str,x ≠ "__name__"->mb x=bootBuiltins x)(hlim:s₁.heap.NoLimit)(hg:s₁.gens = #[])
  (hbm:∃bm ob,mg "__builtins__" = some (.ref bm)/\bm≠builtinsNs/\s₁.heap.get? bm=some ob/\ob.cls=.type "module"/\ob.dict=some builtinsNs/\ob.data=.plain)
  (hP:∀p,lamP=some p->s₁.heap.get? p=some { cls:=.none,data:=.fields #[] }/\K.lookup p=none/\∃c,W.CodeHd s₁.heap c p)
  (ha:s₁.heap.get? a=some { cls:=.type "list",data:=.seq vs.toArray })(hi:IntsAre vs ns)(hl:ns.length<=sizeLine)(hr:Room k callerA)
  (F:∀base:Heap,K.In base->base.Ns mainGlobals mg->FnOk P w K mg base CX k fa fd [x] sp)(hbind:∀(s:Shared)(u:Value),BindsTo s fd ⟨[u],[]⟩ [(x,u)])
  (hsp:∀H:Hp,Only H->SqL K H a (ns.map V.int)->sp [.ref a] H (fun v _=>v=.bl true) fun _ _ _=>False)
  (hCX:∀H e s',CX [] H s₁ (fun _ _ _=>False) e s'->False) :
  codeAny (model P w) callerA (.call (.ref fa) ⟨[.ref a],[]⟩) (fun r s'=>r=.ok (.ret (.bool true))/\OldK s₁.heap s'.heap/\s'.os=s₁.os/\AllBare s'.gens) s₁:=by
 have rv:=bp hi;have lenV:=hi.length;have core:∀H:Hp,Only H->SqL K H a (ns.map V.int)->HOk P w H s₁.heap->(∀b,H b≠none->b=a\/lamP=some b)->(H a≠none->K.lookup a=none)->Wj H ->
   codeAny (model P w) callerA (.call (.ref fa) ⟨[.ref a],[]⟩) (fun r s'=>r=.ok (.ret (.bool true))/\OldK s₁.heap s'.heap/\s'.os=s₁.os/\AllBare s'.gens) s₁:=by
  intro H hO hS hok hA hK hL;have base_of:∀{b:Addr}{o:Obj},s₁.heap.get? b=some o->H b=none->(hidT s₁.heap H).get? b=some o:=fun e n=>q3q e n;have noA:∀{b:Addr}{o:Obj}{es:Array DictEntry}{ep:Nat},s₁.heap.get? b=some o->o.data=.dict es ep->H b=none:=fun {b o es ep} e d=>by
   cases q:H b with
   |none=>rfl
   |some u =>
    rcases hA b (by rw[q];simp) with e' | e'
    ·subst e';rw[ha]at e;cases e;have d':Data.seq vs.toArray _=Data.dict es ep:=d;cases d'
    ·rw[(hP b e').1]at e;cases e;cases d
  have noB:∀{b:Addr}{o:Obj},s₁.heap.get? b=some o->o.data=.plain->H b=none:=fun {b o} e d=>by
   cases q:H b with
   |none=>rfl
   |some u =>
    rcases hA b (by rw[q];simp) with e' | e'
    ·subst e';rw[ha]at e;cases e;have d':Data.seq vs.toArray _=Data.plain:=d;cases d'
    ·rw[(hP b e').1]at e;cases e;cases d
  have nsK:∀{b:Addr}{m:Str->Option Value},s₁.heap.Ns b m->(hidT s₁.heap H).Ns b m:=fun {b m} ⟨o,es,ep,e,d,r⟩=>⟨o,es,ep,base_of e (noA e d),d,r⟩;have hKb:K.In (hidT s₁.heap H):=fun b o e=>base_of (KX b o e) (by
   cases q:H b with
   |none=>rfl
   |some u =>
    rcases hA b (by rw[q];simp) with e' | e'
    ·subst e';rw[hK (by rw[q];simp)]at e;cases e
    ·rw[(hP b e').2.1]at e;cases e)
  have hM:Mod K mg (hidT s₁.heap H):=⟨hKb,nsK hns,⟨mb,nsK hb,hbb⟩,let ⟨mc,h1,h2⟩:=hlim;⟨mc,nsK h1,h2⟩,let ⟨bm,ob,b1,b2,b3,b4,b5,b6⟩:=hbm;⟨bm,ob,b1,b2,base_of b3 (noB b3 b6),b4,b5,b6⟩⟩;have e0:Env0 P w K mg (hidT s₁.heap H) callerA [] s₁ H:=⟨rfl,hM,fun b o e=>q9n e,le_of_eq (x6s _ _),trivial,fun b hb=>absurd (show b∈([]:List Addr) from hb) (by simp),hL,hok,.of_eq hg,hpos⟩;refine codeAny_mono ((F _ hKb (nsK hns)).run callerA [] s₁ H ⟨[.ref a],[]⟩ [.ref a] [.ref a] _ _ hr e0 (hbind s₁ (.ref a)) (.cons rfl .nil) (hsp H hO hS)) fun r s' h=>?_;cases r with
  |error e=>exact(hCX H e s' h).elim
  |ok fl =>
   cases fl with
   |next=>exact False.elim h
   |brk=>exact False.elim h
   |cont=>exact False.elim h
   |ret u =>
    obtain⟨v,H',os,bare,un,hok',r',q⟩:=h;have q':v=.bl true:=q;subst q';obtain rfl:u=Value.bool true:=r';refine⟨rfl,⟨fun b o e=>?_,fun b o e=>un.there b o e (by simp)⟩,os,bare⟩;cases q:H b with
    |none=>exact .inl (un.keep b o e q (by intro z;exact absurd (show b∈([]:List Addr) from z) (by simp)) (by simp))
    |some u =>
     rcases hO b with z|⟨ob,xs,z⟩|⟨z,zp⟩
     ·rw[q]at z;cases z
     ·have z2:=un.frzs b ob _ z;obtain⟨e1,_⟩:=hok b _ z;obtain⟨e2,_⟩:=hok' b _ z2;rw[e]at e1;cases e1;exact .inl e2
     ·obtain⟨ps,e2,_⟩:=hok' b _ (un.tbls b z);obtain⟨e1,_,c,C⟩:=hP b zp;have ht:=C.tab e1;rw[e1]at e;cases e;exact .inr (.inl ⟨ht.isCodeTable,rfl,#[],ps,rfl,by simpa using e2⟩)
 have naP:∀b,lamP=some b->b≠a:=fun b e z=>by subst z;have:=(hP b e).1;rw[ha]at this;cases this
 cases hk:K.lookup a with
 |some o =>
  have e:=KX a o hk;rw[ha]at e;cases e;refine core (fun b=>if lamP=some b then some .lam else none) (fun b=>?_) (.inr ⟨_,vs.toArray,_,hk,rfl,rfl,rfl,by rw[size_toArray,lenV];exact hl,by simpa using rv⟩) (fun b u z=>?_) (fun b z=>?_) (fun z=>?_) (fun p e=>if_pos e)
  ·by_cases hb:lamP=some b
   ·exact .inr (.inr ⟨if_pos hb,hb⟩)
   ·exact .inl (if_neg hb)
  ·by_cases hb:lamP=some b
   ·have z':=(if_pos hb).symm.trans z;cases z';exact⟨#[],(hP b hb).1,.inl rfl⟩
   ·have z':=(if_neg hb).symm.trans z;cases z'
  ·by_cases hb:lamP=some b
   ·exact .inr hb
   ·exact absurd (if_neg hb) z
  ·by_cases hb:lamP=some a
   ·exact absurd rfl (naP a hb)
   ·exact absurd (if_neg hb) z
 |none =>
  refine core (fun b=>if b=a then some (.frz { cls:=.type "list",data:=.seq vs.toArray } (.lst (ns.map V.int))) else if lamP=some b then some .lam else none) (fun b=>?_) (.inl (.inr ⟨{ cls:=.type "list",data:=.seq vs.toArray },if_pos rfl⟩)) (fun b u z=>?_) (fun b z=>?_) (fun _=>hk) (fun p e=>?_)
  ·by_cases hb:b=a
   ·exact .inr (.inl ⟨_,_,if_pos hb⟩)
   ·by_cases hp:lamP=some b
    ·exact .inr (.inr ⟨(if_neg hb).trans (if_pos hp),hp⟩)
    ·exact .inl ((if_neg hb).trans (if_neg hp))
  ·by_cases hb:b=a
   ·have z':=(if_pos hb).symm.trans z;cases z';subst hb;exact⟨ha,by rw[length_map];exact hl,vs,_,rv,ha⟩
   ·by_cases hp:lamP=some b
    ·have z':=((if_neg hb).trans (if_pos hp)).symm.trans z;cases z';exact⟨#[],(hP b hp).1,.inl rfl⟩
    ·have z':=((if_neg hb).trans (if_neg hp)).symm.trans z;cases z'
  ·by_cases hb:b=a
   ·exact .inl hb
   ·by_cases hp:lamP=some b
    ·exact .inr hp
    ·exact absurd ((if_neg hb).trans (if_neg hp)) z
  ·exact(if_neg (naP p e)).trans (if_pos e)
noncomputable def yk (s:Stmt)(j:Nat):Stmt:=match s with
 |.ClassDef _ _ _ body _ _ _ _ _ _ _=>body.getD j (.Pass ⟨0,0,0,0⟩)
 |_=>.Pass ⟨0,0,0,0⟩
noncomputable def jd (s:Stmt):Arguments:=match s with
 |.FunctionDef _ a _ _ _ _ _ _ _ _=>a
 |_=>{ posonlyargs:=[],args:=[],vararg:=none,kwonlyargs:=[],kw_defaults:=[],kwarg:=none,defaults:=[] }
def Yb (s:Stmt):List Stmt:=match s with
 |.FunctionDef _ _ b _ _ _ _ _ _ _=>b
 |_=>[]
noncomputable def ya (s:Stmt):Scope:=match s with
 |.FunctionDef _ _ _ _ _ _ sc _ _ _=>sc
 |_=>{ kind:=.function,names:=[],isGenerator:=false,isCoroutine:=false }
abbrev CX0:CXT:=fun _ _ _ _ _ _=>False
abbrev E0:XK:=fun _ _ _=>False
theorem Ea {X:Cx}:Fe CX0 X E0:=fun _ _ _ _ _ _ _ h=>h.elim
structure Fun (K:W.Frag)(x qual:Str)(st:Stmt)(f:Addr)(fd:FuncData):Prop where
 ex:∃(oc:Value)(od:Option Addr)(kV doc pm:Value)(an:Option Addr)(cdv ct:Value)(osl:Array (Option Value)),
  fd=fnOf x qual (jd st) (Yb st) (ya st) .none kV doc pm an cdv ct/\K.lookup f=some ⟨oc,od,.func fd,osl⟩/\codeIn K cdv qual=true
 kp:keepIn K (.ref f)=true
section
variable {P:Program}{w:World}{K:W.Frag}{mg:Str->Option Value}{base:Heap}
theorem Fun.ok {x qual:Str}{st:Stmt}{f:Addr}{fd:FuncData}{N ps:List Str}{k:Nat}{sp:Sp}(F:Fun K x qual st f fd)(S:FnScope N ps (ya st))(len:∀vs H Q E,sp vs H Q E->vs.length=ps.length)
  (hbody:∀(cdv:Value)(A:Around)(outer:List Env)(s:Shared)(H:Hp)(vs:List V)(Q:VK)(E:XK),Room k (A.deeper (envOfC qual (ya st) s.heap.objs.size f cdv))->sp vs H Q E ->
   ∃t,PSs (cxOf CX0 P w K mg base N qual (ya st) f cdv A outer s H E).nox (Yb st) t/\t { nx:=fun _ H'=>Q .non H',rt:=Q } (start N vs) H):FnOk P w K mg base CX0 (k+1) f fd ps sp:=by
 obtain⟨oc,od,kV,doc,pm,an,cdv,ct,osl,rfl,lk,hcd⟩:=F.ex;refine ik lk hcd S len fun A outer s H vs Q E hr hsp=>?_;obtain⟨t,h,q⟩:=hbody cdv A outer s H vs Q E hr hsp;exact⟨t,h.nox,q⟩
theorem Fun.binds {x qual:Str}{st:Stmt}{f:Addr}{fd:FuncData}{ps:List Str}(F:Fun K x qual st f fd)
  (h:∀(kV doc pm:Value)(an:Option Addr)(cdv ct:Value)(us:List Value),us.length=ps.length->bindArgs (fnOf x qual (jd st) (Yb st) (ya st) .none kV doc pm an cdv ct) ⟨us,[]⟩=pure (ps.zip us)):Binds K fd ps []:=by
 obtain⟨oc,od,kV,doc,pm,an,cdv,ct,osl,rfl,lk,hcd⟩:=F.ex;exact .all (h kV doc pm an cdv ct)
theorem ah {x qual:Str}{st:Stmt}{f:Addr}{oc:Value}{od an:Option Addr}{osl:Array (Option Value)}{kV doc pm cdv ct:Value}(l:K.lookup f=some ⟨oc,od,.func (fnOf x qual (jd st) (Yb st) (ya st) .none kV doc pm an cdv ct),osl⟩)
  (c:codeIn K cdv qual=true)(k:keepIn K (.ref f)=true):Fun K x qual st f (fnOf x qual (jd st) (Yb st) (ya st) .none kV doc pm an cdv ct):=⟨⟨oc,od,kV,doc,pm,an,cdv,ct,osl,rfl,l,c⟩,k⟩
variable {X:Cx}
theorem pv (i:Nat){x:Str}{pos:Pos}(hN:X.N[i]? = some x:=by rfl)(hv:Vis X.env.scope x:=by first|exact Or.inl rfl|exact Or.inr (Or.inl rfl)|exact Or.inr (Or.inr rfl))(hd:(x == ("__debug__":Str))=false:=by decide)
  (hcd:(x == ("__classdict__":Str))=false:=by decide):PE X (.Name x pos) (tVar i):=mf hN hv hd hcd
theorem iteF {A B:Prop}(h:B):if false=true then A else B:=by
 rw[if_neg Bool.false_ne_true];exact h
theorem iteT {A B:Prop}(h:A):if true=true then A else B:=by
 rw[if_pos rfl];exact h
theorem ite2 {c A B:Prop}[Decidable c](h1:c->A)(h2:¬c->B):if c then A else B:=by
 by_cases h:c
 ·rw[if_pos h];exact h1 h
 ·rw[if_neg h];exact h2 h
def Same (H H':Hp):Prop:=∀b o,H b=some o->H' b=some o
theorem Same.refl (H:Hp):Same H H:=fun _ _ h=>h
theorem Same.trans {H H1 H2:Hp}(a:Same H H1)(b:Same H1 H2):Same H H2:=fun c o h=>b c o (a c o h)
theorem Same.free {H H':Hp}(e:Same H H'){l:Addr}(h:H' l=Option.none):H l=Option.none:=by
 cases q:H l with
 |none=>rfl
 |some o =>
  rw[e l o q]at h;cases h
theorem Same.seq {K:W.Frag}{H H':Hp}{a:Addr}{xs:List V}(e:Same H H')(h:SqL K H a xs):SqL K H' a xs:=by
 rcases h with (h|⟨o,h⟩)|h
 ·exact .inl (.inl (e _ _ h))
 ·exact .inl (.inr ⟨o,e _ _ h⟩)
 ·exact .inr h
variable {κ:Type}[DecidableEq κ]
theorem gp:∀{l:List κ}{k:κ},l.Nodup->¬k∈l->(l++[k]).Nodup
 | [],k,_,_=>by simp
 |a::r,k,h,hk=>by
  obtain⟨h1,h2⟩:=nodup_cons.mp h;show(a::(r++[k])).Nodup;refine nodup_cons.mpr ⟨fun m=>?_,gp h2 fun m=>hk (mem_cons.mpr (Or.inr m))⟩;rcases mem_append.mp m with q|q
  ·exact h1 q
  ·exact hk (mem_cons.mpr (Or.inl (mem_singleton.mp q).symm))
theorem thnE {β:Type}{m:Sem β}{P P':β->Shared->Prop}{M:Model}{A:Around}{F F':Value->Shared->Prop}{s:Shared}(h:wpAny M A m (fun a r=>tk0<=r.toks->P a r) F s)(hP:∀a r,P a r->P' a r)(hF:∀e r,F e r->F' e r)(hs:tk0<=s.toks:=by first|assumption|exact Inv.pos (by assumption)):wpAny M A m P' F' s :=
 wpAny_mono (wpAny_toks_of hs h) (fun _ _ x=>hP _ _ (x.2 x.1)) fun _ _ x=>hF _ _ x.2
theorem Oc:OpR X (binaryOp .FloorDiv) (rI (fun _ j=>0<j/\j.natAbs.log2<9000) fun i j=>.int (i / j)):=opI fun i j _ _ _ _ _ hc q=>by
 have h1:(0:Int)<j:=hc.1;exact floordiv_int (by omega) (by rw[Int.fdiv_eq_ediv_of_nonneg i (by omega)];exact q) (.inl (PyProof.noPylong_of_log2 hc.2))
theorem yc {K:W.Frag}(hK:X.K=K):Ec X (.builtin "isinstance") (fun xs H Q=>∃x T t b,xs=[x,.ty T]/\TyOf K H x t/\kitOne K t (.type T)=some b/\Q (.bl b) H):=by
 subst hK;intro pins s σ H xs us Q I r h;obtain⟨x,T,t,b,rfl,ty,e,q⟩:=h;obtain⟨u,w',rfl,rx,rt⟩:=gk r;cases(show w' = Value.type T from rt);exact x5y I rx ty e fun tk=>fun hk=>⟨.bl b,H,I.tok tk hk,rfl,q⟩
theorem q0g:typeLookup (.type "list_reverseiterator") "__len__" = pure none:=by rw[typeLookup_type,builtinLookup_eq_fast];kernel_rfl
theorem q4u:typeLookup (.type "list_reverseiterator") "__length_hint__" = pure (some (.builtin "list_reverseiterator.__length_hint__")):=by rw[typeLookup_type,builtinLookup_eq_fast];kernel_rfl
theorem q1k {items acc:Array Value}(h:ItemsOf (fun i v=>items[items.size - 1 - i]? = some v) acc items.size):acc.toList=items.toList.reverse:=by
 obtain⟨h1,h2⟩:=h;apply List.ext_getElem?;intro j;by_cases hj:j<acc.size
 ·have e:=h2 j acc[j] (by simp[hj]);have hj':j<items.toList.length:=by simpa[h1] using hj
  rw[List.getElem?_reverse hj'];have e1:acc.toList[j]? = some acc[j]:=by simp[hj]
  rw[e1];have e2:items.toList[items.toList.length - 1 - j]? = items[items.size - 1 - j]?:=by simp
  rw[e2,e]
 ·rw[getElem?_eq_none (by simpa using hj),getElem?_eq_none (by simp;omega)]
variable {prog:Program}{A:Around}{E:Value->Shared->Prop}{s:Shared}
theorem x3v {R:Result->Shared->Prop}{r l S:Addr}{items:Array Value}{c₀:Nat}{res:Value}(hh:A.handled=none)(hr:s.heap.IsRevIter r l ((items.size:Int) - 1))(hl:s.heap.IsList l items)(hne:l≠r)(hn:items.size<=sizeLine)
  (hSr:S≠r)(hSl:S≠l)(hS:s.heap.get? S=some { cls:=.type "list",data:=.seq #[] c₀ })
  (hR:∀h' tk acc' c',(∀b o,b≠r->b≠S->s.heap.get? b=some o->h'.get? b=some o)->h'.get? S=some { cls:=.type "list",dict:=none,data:=.seq acc' c',slots:=#[] }->acc'.toList=items.toList.reverse->R (.ok (.ret res)) { s with heap:=h',toks:=tk }) :
  wpAny (model prog w) A.in1 (Builtin.List.listExtendWith (.ref S) (.ref r) res)
   (fun fin s'=>match fin with | .done f=>R (.ok f) s' | .again c'=>c'.quiet=true/\codeAny (model prog w) A c' R s') (fun e s'=>R (.error e) s') s:=by
 have W:=(Walks.listRev (prog:=prog) (w:=w) (A:=A.in1) hh r l hne items).toS;have hST:s.TypeIs (.ref r) "list_reverseiterator":=hr.typeIs;have h1:Builtin.List.listSameRef (.ref S) (.ref r)=false:=by
  unfold Builtin.List.listSameRef;exact beq_eq_false_iff_ne.mpr hSr
 have hst:(0:Nat)<=items.size/\s.heap.IsRevIter r l ((items.size:Int) - 1 - ((0:Nat):Int))/\s.heap.IsList l items:=⟨zero_le _,by simpa using hr,hl⟩;unfold Builtin.List.listExtendWith;refine wpAny_bind (wpAny_typeOf hST ?_);rw[if_neg (by rw[h1];decide)];refine wpAny_bind (W.self 0 _ _ _ hst ?_);refine wpAny_bind (wpAny_holding ?_);unfold Builtin.List.listLengthHint;refine wpAny_bind (wpAny_specialOf hST q0g ?_);show wpAny _ A.in1 (specialOf (Value.ref r) (Str.ofString "__length_hint__") >>= _) _ _ _;refine wpAny_bind (wpAny_specialOf hST q4u ?_);generalize hid:("list_reverseiterator.__length_hint__":String)=id0
 wp_delta
 rw[show splitId id0=some ("list_reverseiterator","__length_hint__") from by subst hid;decide +kernel];subst hid;refine wpAny_bind (wpAny_isInstance (b:=true) hST (by rw[isSubtype_type];kernel_rfl) ?_);refine wpAny_pure ?_;rw[if_neg (by decide)];refine wpAny_pure ⟨plainId_quiet F.plain_extend_loop _,codeAny_extend_loopS W hn S (by simp[hSr,hSl]) res items.size 0 _ #[] c₀ rfl (zero_le _) hst hS (ItemsOf.nil _) fun s' acc' c' hm hS' hacc=>?_⟩;rw[Moved.eq_with hm];exact hR s'.heap s'.toks acc' c' (fun b o hb hb' e=>hm.heap b o (by simp[hb,hb']) e) hS' (q1k hacc)
theorem y4t {Q:Value->Shared->Prop}{r l:Addr}{items:Array Value}(hh:A.handled=none)(hr:s.heap.IsRevIter r l ((items.size:Int) - 1))(hl:s.heap.IsList l items)(hne:l≠r)(hn:items.size<=sizeLine)
  (hQ:∀h' tk acc' c',(∀b o,b≠r->s.heap.get? b=some o->h'.get? b=some o)->h'.get? s.heap.objs.size=some { cls:=.type "list",dict:=none,data:=.seq acc' c',slots:=#[] }->acc'.toList=items.toList.reverse ->
   Q (.ref s.heap.objs.size) { s with heap:=h',toks:=tk }) :
  wpAny (model prog w) A (call (.type "list") [.ref r]) Q E s:=by
 obtain⟨or,hor,_⟩:=id hr;obtain⟨ol,hol,_⟩:=id hl;have hlr:=lt_size hor;have hll:=lt_size hol;refine callType_codes (Q₁:=fun obj s₁=>obj=.ref s.heap.objs.size/\s₁ = { s with heap:=s.heap.push { cls:=.type "list",data:=.seq #[] } }) F.called_list (F.typeCall_list_1 _) F.entry_list_init
  (code_list_new _ ⟨rfl,rfl⟩) fun obj s₁ h₁=>?_
 obtain⟨rfl,rfl⟩:=h₁;have hS:(s.heap.push { cls:=.type "list",data:=.seq #[] }).get? s.heap.objs.size=some { cls:=.type "list",data:=.seq #[] }:=get?_push_size _ rfl;refine⟨⟨_,hS,rfl⟩,F.args_list_init_2 _ _,?_⟩;show wpAny _ _ (do let old <-Builtin.List.listItems (.ref s.heap.objs.size);Builtin.List.listUpdate (.ref s.heap.objs.size) (fun _=>#[]);letGo old.toList.reverse;Builtin.List.listExtendWith (.ref s.heap.objs.size) (.ref r) .none) _ _ _;refine wpAny_bind ?_;unfold Builtin.List.listItems;refine wpAny_bind (wpAny_seqItems hS rfl (wpAny_pure ?_));show wpAny _ _ (updateSeq s.heap.objs.size (fun _=>#[]) >>= fun _=>letGo (#[]:Array Value).toList.reverse >>= fun _=>Builtin.List.listExtendWith (.ref s.heap.objs.size) (.ref r) .none) _ _ _;refine wpAny_bind (wpAny_updateSeq hS rfl ?_);have hS₂:=get?_update_self (Obj.mapSeq (fun _=>(#[]:Array Value))) hS rfl;have oth:∀b o,b≠s.heap.objs.size->s.heap.get? b=some o->((s.heap.push { cls:=.type "list",data:=.seq #[] }).update s.heap.objs.size (Obj.mapSeq (fun _=>(#[]:Array Value)))).get? b=some o :=
  fun b o hb e=>(get?_update_other _ _ (Ne.symm hb)).trans (get?_push_of_some _ e)
 refine wpAny_bind (wpAny_letGo ?_);refine x3v (A:=A.in1) hh (hr.at fun o e=>oth r o (ne_of_lt hlr) e) (hl.at fun o e=>oth l o (ne_of_lt hll) e) hne hn (ne_of_gt hlr) (ne_of_gt hll) hS₂ fun h' tk acc' c' hk hS' hacc=>?_;exact⟨rfl,hQ h' tk acc' c' (fun b o hb e=>hk b o hb (ne_of_lt (lt_size e)) (oth b o (ne_of_lt (lt_size e)) e)) hS' hacc⟩
theorem Inv.turnLaid {X:Cx}{pins:List (Addr×Obj)}{σ:St}{H:Hp}{s:Shared}{h':Heap}{it a:Addr}{o:HO}{t':Nat}(I:Inv X pins σ H s)(k:∀b u,b≠it->s.heap.get? b=some u->h'.get? b=some u)(f:FpOk X pins H it)(hp:s.heap.objs.size<=a)
  (new:ObjOk X.prog X.w (upd H a o) h' a o)(hk:tk0<=t':=by first|assumption|exact Inv.pos (by assumption)|exact le_trans (Inv.pos (by assumption)) (le_add_right _ _)|exact le_trans (le_trans (Inv.pos (by assumption)) (le_add_right _ _)) (le_add_right _ _)):Inv X pins σ (upd H a o) { s with heap:=h',toks:=t' }:=by
 obtain⟨f0,f1,f2,f3,f4,f5⟩:=f;have hn:H a=none:=I.hok.fresh hp;have ne:∀b u,s.heap.get? b=some u->b≠a:=fun b u e=>ne_of_lt (lt_of_lt_of_le (lt_size e) hp);have nit:∀b u,H b=some u->b≠it:=fun b u e z=>by rw[z,f0]at e;cases e
 have ni:∀b,b∉[it]->b≠it:=fun b hb z=>hb (by simp[z]);refine I.step (g':=s.gens) (d':=s.drawn) (ch:=[it]) (fun b hb=>?_) (fun b u _ _ hc e _=>k b u (ni b hc) e) (fun b u _ _ hc e _=>⟨u.slots,k b u (ni b hc) e⟩) (fun b u _ e n=>by rw[wa (ne b u e)];exact n)
  (fun b u hc e=>⟨u,k b u (ni b hc) e⟩) (fun b xs e=>by rw[wa (qb e hn)];exact e) (fun b u v e=>by rw[wa (qb e hn)];exact e) (fun b e=>by rw[wa (qb e hn)];exact e) (fun m hm=>?_) (fun b u e=>?_) I.bare
 ·have e:b=it:=by simpa using hb
  subst e;exact⟨f3,f1,f4,f5⟩
 ·obtain⟨o',es,ep,ho,r⟩:=hm;exact⟨o',es,ep,k _ o' (Ne.symm f1) ho,r⟩
 ·by_cases hb:b=a
  ·subst hb;rw[z0h]at e;cases e;exact new
  ·rw[wa hb]at e;refine(I.hok b u e).stay (fun c v hc q=>k c v ?_ q) (fun c q=>by rw[wa (qb q hn)];exact q) fun c xs q=>by rw[wa (qb q hn)];exact q
   rcases hc with z|z
   ·rw[z];exact nit b u e
   ·exact nit c _ z
def tRev (K:W.Frag)(te:TE):TE:=fun σ H Q=>te σ H fun x H1=>∃a ys,x=.ref a/\H1 a=some (.lst ys)/\∀l,H1 l=none->Q (.ref l) (upd H1 l (.lst ys.reverse))
theorem x3w {X:Cx}{e:Expr}{te:TE}{p1 p2 p3 pos:Pos}(hc:X.calm=true)(hgL:Gl X "list")(hmL:X.mg "list" = none)(hgR:Gl X "reversed")(hmR:X.mg "reversed" = none)(he:PE X e te)
  (hs1:starEach [.Call (.Name "reversed" p2) [e] [] p3] X.env=[(false,eval (.Call (.Name "reversed" p2) [e] [] p3) X.env)]:=by rfl)(hs2:starEach [e] X.env=[(false,eval e X.env)]:=by rfl) :
  PE X (.Call (.Name "list" p1) [.Call (.Name "reversed" p2) [e] [] p3] [] pos) (tRev X.K te):=by
 intro pins s σ H Q I h;refine wpAny_Call_Name_kw (Ce I hgL hmL boot_list ?_);refine PyProof.Rows.callWith_type1 ?_ hs1 rfl;rw[hs1];show wpAny _ _ (spliced ((false,eval _ X.env)::[])) _ _ s;refine Calls.spliced_cons (wpAny_Call_Name_kw (Ce I hgR hmR PyProof.Rows.boot_reversed ?_));refine PyProof.Rows.callWith_type1 ?_ hs2 rfl;rw[hs2];show wpAny _ _ (spliced ((false,eval e X.env)::[])) _ _ s;refine Calls.spliced_cons (thn (he pins s σ H _ I h) fun v s1 ⟨x,H1,I1,r1,q1⟩=>Calls.spliced_nil ?_);obtain⟨a,ys,rfl,hq,q⟩:=q1;cases r1;obtain⟨its,rv,pl,hz⟩:=I1.list (SqL.of hq);have hlen:=rv.length;obtain⟨ol,hol,_⟩:=id pl.isList;refine call_reversed_list pl.isList (Calls.spliced_nil ?_);have I2:Inv X pins σ H1 { s1 with heap:=s1.heap.push (revObj a ((its.toArray.size:Int) - 1)) }:=I1.kept (t':=s1.toks) fun b o e=>get?_push_of_some _ e;obtain⟨f0,f1,f2,f3,f4,f5⟩:=I1.fpOk (le_refl _) I1.fresh;refine y4t (I1.ok.hd hc) ⟨_,get?_push_size _ rfl,rfl,rfl⟩ (pl.isList.push _) (ne_of_lt (lt_size hol)) (by rw[size_toArray];omega) fun h' tk acc c kp eS ea=>?_;have rr:Vals ys.reverse acc.toList:=by rw[ea];exact rv.reverse
 have e8:acc=acc.toList.toArray:=by simp
 refine fun hk=>⟨.ref _,_,I2.turnLaid (t':=tk) (it:=s1.heap.objs.size) kp ⟨f0,f1,f2,f3,f4,f5⟩ (le_refl _) (show ObjOk X.prog X.w _ h' _ (.lst ys.reverse) from⟨by rw[length_reverse];exact hz,acc.toList,c,rr,by rw[<-e8];exact eS⟩) hk,rfl,q _ ?_⟩;exact I2.fresh
def zc:List (Str×NameKind)->List (Str×Addr)->List (Str×Addr)->List (Str×Addr)
 | [],_,cs=>cs
 |(n,k)::r,cells,cs=>zc r cells (if k == .free then(n,(cells.lookup n).getD 0)::cs else cs)
def Ie (env:Env)(x:Str×NameKind)(r:List (Str×Addr)):Sem (ForInStep (List (Str×Addr))) :=
 if (x.2 == NameKind.free)=true then cellOf env x.1 >>= fun a=>pure (ForInStep.yield ((x.1,a)::r)) else pure (ForInStep.yield r)
theorem ip {scope:Scope}{env:Env}(h:∀y∈scope.names,y.2=.free->∃c,env.cells.lookup y.1=some c):closureFor scope env=pure (zc scope.names env.cells []):=by
 have key:∀(l:List (Str×NameKind))(cs:List (Str×Addr)),(∀y∈l,y.2=.free->∃c,env.cells.lookup y.1=some c)->(forIn l cs (Ie env):Sem (List (Str×Addr)))=pure (zc l env.cells cs):=by
  intro l;induction l with
  |nil=>intro cs _;rfl
  |cons y r ih =>
   intro cs hl;obtain⟨n,k⟩:=y;rw[forIn_cons];by_cases hk:(k == NameKind.free)=true
   ·obtain⟨c,hc⟩:=hl (n,k) mem_cons_self (by simpa using hk);have hc':env.cells.lookup n=some c:=hc;have e:Ie env (n,k) cs=pure (ForInStep.yield ((n,c)::cs)):=by simp only[Ie,hk,if_true,cellOf,hc',pure_bind]
    rw[e,pure_bind];show forIn r ((n,c)::cs) (Ie env)=_;rw[ih _ fun y hy=>hl y (mem_cons_of_mem _ hy)];simp[zc,hk,hc']
   ·have e:Ie env (n,k) cs=pure (ForInStep.yield cs):=by simp only[Ie,hk,if_false];rfl
    rw[e,pure_bind];show forIn r cs (Ie env)=_;rw[ih _ fun y hy=>hl y (mem_cons_of_mem _ hy)];simp[zc,hk]
 have e0:closureFor scope env=(forIn scope.names [] (Ie env):Sem (List (Str×Addr))) >>= fun cs=>pure cs:=by rfl
 rw[e0,key _ _ h,pure_bind]
theorem jp {cells:List (Str×Addr)}{y:Str}{c:Addr}:∀(l:List (Str×NameKind))(cs:List (Str×Addr)),(∀z∈l,z.2=.free->∃c,cells.lookup z.1=some c)->(cs.lookup y=some c->cells.lookup y=some c) ->
  (zc l cells cs).lookup y=some c->cells.lookup y=some c
 | [],cs,_,h,e=>h e
 |(n,k)::r,cs,hl,h,e=>by
  refine jp r _ (fun z hz=>hl z (mem_cons_of_mem _ hz)) (fun e'=>?_) e;by_cases hk:(k == NameKind.free)=true
  ·rw[if_pos hk]at e';obtain⟨c',hc⟩:=hl (n,k) mem_cons_self (by simpa using hk);have hc':cells.lookup n=some c':=hc;rw[lookup_cons,hc']at e';by_cases hy:(y == n)=true
   ·simp only[hy]at e';rw[eq_of_beq hy,hc'];exact e'
   ·simp only[hy]at e';exact h e'
  ·rw[if_neg hk]at e';exact h e'
theorem zk {cells:List (Str×Addr)}{y:Str}:∀(l:List (Str×NameKind))(cs:List (Str×Addr)),(y,NameKind.free)∈l\/(cs.lookup y).isSome=true->((zc l cells cs).lookup y).isSome=true
 | [],cs,h=>by
  rcases h with h|h
  ·cases h
  ·exact h
 |(n,k)::r,cs,h=>by
  refine zk r _ ?_;rcases h with h|h
  ·rcases mem_cons.mp h with h|h
   ·cases h;refine .inr ?_;simp
   ·exact .inl h
  ·refine .inr ?_;by_cases hk:(k == NameKind.free)=true
   ·rw[if_pos hk,lookup_cons];cases hy:y == n
    ·exact h
    ·rfl
   ·rw[if_neg hk];exact h
theorem bh {y:Str}{k:NameKind}:∀{l:List (Str×NameKind)},l.lookup y=some k->(y,k)∈l
 | [],h=>by cases h
 |(n,k')::r,h=>by
  rw[lookup_cons]at h;cases hy:y == n
  ·rw[hy]at h;exact mem_cons_of_mem _ (bh h)
  ·rw[hy]at h;cases h;rw[eq_of_beq hy];exact mem_cons_self
theorem Ak {scope:Scope}{env:Env}{y:Str}{k:NameKind}(h:(relabel scope env).names.lookup y=some k):scope.names.lookup y=some k\/(k=.cell/\scope.names.lookup y=some .free):=by
 have key:∀l:List (Str×NameKind),(l.map fun(n,k)=>if (k == NameKind.free&&env.scope.kind == .function&&env.kindOf n == some .cell) then(n,NameKind.cell) else(n,k)).lookup y=some k->l.lookup y=some k\/(k=.cell/\l.lookup y=some .free):=by
  intro l;induction l with
  |nil=>intro h;simp at h
  |cons z r ih =>
   obtain⟨n,k'⟩:=z;intro h;rw[map_cons]at h;rw[lookup_cons];by_cases hc:(k' == NameKind.free&&env.scope.kind == .function&&env.kindOf n == some .cell)=true
   ·have e:(match (n,k') with|(n,k)=>if (k == NameKind.free&&env.scope.kind == .function&&env.kindOf n == some .cell)=true then(n,NameKind.cell) else(n,k))=(n,NameKind.cell):=by simp only[hc,if_true]
    rw[e,lookup_cons]at h;cases hy:y == n
    ·rw[hy]at h;exact ih h
    ·rw[hy]at h;have hk:k' = .free:=by simp at hc;exact hc.1.1
     cases h;exact .inr ⟨rfl,by rw[hk]⟩
   ·have e:(match (n,k') with|(n,k)=>if (k == NameKind.free&&env.scope.kind == .function&&env.kindOf n == some .cell)=true then(n,NameKind.cell) else(n,k))=(n,k'):=by simp only[hc,if_false];rfl
    rw[e,lookup_cons]at h;cases hy:y == n
    ·rw[hy]at h;exact ih h
    ·rw[hy]at h;exact .inl h
 exact key _ h
theorem y6x {scope:Scope}{env:Env}{y:Str}(h:scope.names.lookup y=some .free):(relabel scope env).names.lookup y=some .cell\/(relabel scope env).names.lookup y=some .free:=by
 have key:∀l:List (Str×NameKind),l.lookup y=some .free->(l.map fun(n,k)=>if (k == NameKind.free&&env.scope.kind == .function&&env.kindOf n == some .cell) then(n,NameKind.cell) else(n,k)).lookup y=some .cell \/
  (l.map fun(n,k)=>if (k == NameKind.free&&env.scope.kind == .function&&env.kindOf n == some .cell) then(n,NameKind.cell) else(n,k)).lookup y=some .free:=by
  intro l;induction l with
  |nil=>intro h;simp at h
  |cons z r ih =>
   obtain⟨n,k'⟩:=z;intro h;rw[lookup_cons]at h;rw[map_cons];cases hy:y == n
   ·rw[hy]at h;rcases ih h with q|q
    ·left;rw[lookup_cons];split
     ·rename_i hb;split at hb<;>(simp only at hb;rw[hy]at hb;cases hb)
     ·exact q
    ·right;rw[lookup_cons];split
     ·rename_i hb;split at hb<;>(simp only at hb;rw[hy]at hb;cases hb)
     ·exact q
   ·rw[hy]at h;cases h;by_cases hc:(NameKind.free == NameKind.free&&env.scope.kind == .function&&env.kindOf n == some .cell)=true
    ·left;simp only[hc,if_true,lookup_cons,hy]
    ·right;show List.lookup y ((if (NameKind.free == NameKind.free&&env.scope.kind == .function&&env.kindOf n == some .cell)=true then(n,NameKind.cell) else(n,NameKind.free))::_)=_;rw[if_neg hc,lookup_cons,hy]
 exact key _ h
def PF (X:Cx)(ifs:List Expr)(t:TT):Prop :=
 ∀(pins:List (Addr×Obj))(s:Shared)(σ:St)(H:Hp)(Q:Bool->Hp->Prop),Inv X pins σ H s->t σ H Q ->
  wpAny (model X.prog X.w) X.A (forIn ifs true fun c r=>if r=true then do let ok <-isTrue c X.env (eval c X.env);pure (ForInStep.yield ok) else pure (ForInStep.yield r)) (TP X pins σ Q) X.xe s
def tYes:TT:=fun _ H Q=>Q true H
theorem j6n {X:Cx}:PF X [] tYes:=fun _ _ _ H _ I h=>wpAny_pure fun _=>⟨H,I,h⟩
theorem j8d {X:Cx}{c:Expr}{t:TT}(h:PT X c t):PF X [c] t:=fun pins s σ H Q I q=>wpAny_tests_one (h pins s σ H Q I q)
def Nb (X:Cx)(scope:Scope)(N:List Str)(pins:List (Addr×Obj))(ex:List Addr)(H₀:Hp)(s₀:Shared)(C:Addr):Cx :=
 { X with N:=N,s₀:=s₀,H₀:=H₀,env:=compEnvC scope (zc scope.names X.env.cells []) C X.env,outer:=X.stack,stack:=X.stack,ex:=ex,fn:=fun _=>false,pn:=X.pn++pins,xe:=fun _ _=>False }
noncomputable def namesOk (sc:Scope):List Str->List Str->Bool
 | [],[]=>true
 |n::N,m::M=>(sc.names.lookup m == none||(m == n&&sc.names.lookup m == some .free))&&namesOk sc N M
 |_,_=>false
theorem namesOk.get {sc:Scope}:∀{N M:List Str},namesOk sc N M=true->N.length=M.length/\∀(i:Nat)(y:Str),M[i]? = some y->sc.names.lookup y=none\/(N[i]? = some y/\sc.names.lookup y=some .free)
 | [],[],_=>⟨rfl,fun i y h=>by simp at h⟩
 |n::N,m::M,h=>by
  rw[namesOk,and_eq_true]at h;obtain⟨h1,h2⟩:=h;obtain⟨l,ih⟩:=namesOk.get h2;refine⟨by simp[l],fun i y e=>?_⟩;cases i with
  |zero =>
   have e':m=y:=by simpa using e
   subst e';rcases(Bool.or_eq_true _ _).mp h1 with h|h
   ·exact .inl (by simpa using h)
   ·obtain⟨h3,h4⟩:=(and_eq_true _ _).mp h;exact .inr ⟨by rw[eq_of_beq h3];rfl,by simpa using h4⟩
  |succ i=>simpa using ih i y (by simpa using e)
 | [],_::_,h=>by cases h
 |_::_,[],h=>by cases h
structure CScope (osc:Scope)(N:List Str)(x:Str)(sc:Scope)(M:List Str):Prop where
 kind:sc.kind=.function
 cell:∀y∈sc.names,y.2≠.cell
 names:∀y∈sc.names,y.2=.local->sc.names.lookup y.1=some .local
 hx:sc.names.lookup x=some .local
 free:∀y∈sc.names,y.2=.free->osc.names.lookup y.1=some .cell\/osc.names.lookup y.1=some .free
 nd:(x::M).Nodup
 ok:namesOk sc N M=true
inductive EqT (H:Hp):Nat->V->V->Prop
 |int {n:Nat}(i:Int):EqT H n (.int i) (.int i)
 |str {n:Nat}(x:Str):EqT H n (.str x) (.str x)
 |lst {n:Nat}{a b:Addr}{xs ys:List V}(ha:H a=some (.lst xs)) (hb:H b=some (.lst ys)) (hl:xs.length=ys.length) (h:∀(i:Nat) x y,xs[i]? = some x->ys[i]? = some y->EqT H n x y):EqT H (n+1) (.ref a) (.ref b)
 |tup {n:Nat}{a b:Addr}{xs ys:List V}(ha:H a=some (.tup xs)) (hb:H b=some (.tup ys)) (hl:xs.length=ys.length) (h:∀(i:Nat) x y,xs[i]? = some x->ys[i]? = some y->EqT H n x y):EqT H (n+1) (.ref a) (.ref b)
theorem Bk (n:Nat):(range n).all (fun _=>true)=true:=by simp
theorem EqT.items {X:Cx}{H:Hp}{n:Nat}{A:Around}{s:Shared}{xs ys:List V}{us ws:List Value}(r1:Vals xs us)(r2:Vals ys ws)(hl:xs.length=ys.length)
  (ih:∀(i:Nat) x y,xs[i]? = some x->ys[i]? = some y->∀{v' u':Value},RelV x v'->RelV y u'->SeqAt.EqAt A.in1 s v' u' true)(j:Nat)(h1:j<us.toArray.size)(h2:j<ws.toArray.size):SeqAt.EqAt A.in1 s us.toArray[j] ws.toArray[j] true:=by
 have l1:=r1.length;have l2:=r2.length;have hj:j<xs.length:=by simpa[l1] using h1
 have hj2:j<ys.length:=by omega
 obtain⟨u,e1,q1⟩:=r1.get (i:=j) (x:=xs[j]) (by simp[hj]);obtain⟨w',e2,q2⟩:=r2.get (i:=j) (x:=ys[j]) (by simp[hj2]);have z1:us.toArray[j]=u:=by
  have:us[j]? = some (us.toArray[j]):=by simp at h1;simp[h1]
  rw[this]at e1;exact Option.some.inj e1
 have z2:ws.toArray[j]=w':=by
  have:ws[j]? = some (ws.toArray[j]):=by simp at h2;simp[h2]
  rw[this]at e2;exact Option.some.inj e2
 rw[z1,z2];exact ih j xs[j] ys[j] (by simp[hj]) (by simp[hj2]) q1 q2
theorem EqT.at {X:Cx}{pins:List (Addr×Obj)}{σ:St}{H:Hp}{s:Shared}(I:Inv X pins σ H s){n:Nat}{v u:V}(h:EqT H n v u):∀{A:Around}{v' u':Value},RelV v v'->RelV u u'->A.units+n<cLine->SeqAt.EqAt A s v' u' true:=by
 induction h with
 |int i =>
  intro A v' u' r1 r2 _;obtain⟨t,rfl⟩:=r1;obtain⟨t',rfl⟩:=r2;have q:=SeqAt.EqAt.int_int (A:=A) (s:=s) i t i t';rw[beq_self_eq_true]at q;exact q
 |str x =>
  intro A v' u' r1 r2 _;obtain⟨t,rfl⟩:=r1;obtain⟨t',rfl⟩:=r2;have q:=SeqAt.EqAt.str_str (A:=A) (s:=s) x t x t';rw[beq_self_eq_true]at q;exact q
 | @lst n a b xs ys ha hb hl h ih =>
  intro A v' u' r1 r2 hu;cases r1;cases r2;by_cases hab:a=b
  ·subst hab;exact SeqAt.EqAt.same _
  ·obtain⟨us,ru,pu,_⟩:=I.list (SqL.of ha);obtain⟨ws,rw',pw,_⟩:=I.list (SqL.of hb);have q:=SeqAt.RcAt.lists (A:=A) (e:=fun _=>true) pu.isList pw.isList (by simp[<-ru.length,<-rw'.length,hl]) (by omega) (fun j h1 h2=>EqT.items (X:=X) (H:=H) (n:=n) ru rw' hl (fun i x y e1 e2 _ _ q1 q2=>ih i x y e1 e2 q1 q2 (by show A.units+1+n<cLine;omega)) j h1 h2);rw[Bk]at q;exact SeqAt.EqAt.of_refs hab q
 | @tup n a b xs ys ha hb hl h ih =>
  intro A v' u' r1 r2 hu;cases r1;cases r2;by_cases hab:a=b
  ·subst hab;exact SeqAt.EqAt.same _
  ·obtain⟨us,ru,pu,_⟩:=I.tuple (SqT.of ha);obtain⟨ws,rw',pw,_⟩:=I.tuple (SqT.of hb);have q:=SeqAt.RcAt.tuples (A:=A) (e:=fun _=>true) (show s.heap.IsTuple a us.toArray from pu) (show s.heap.IsTuple b ws.toArray from pw) (by omega) (fun j h1 h2=>EqT.items (X:=X) (H:=H) (n:=n) ru rw' hl (fun i x y e1 e2 _ _ q1 q2=>ih i x y e1 e2 q1 q2 (by show A.units+1+n<cLine;omega)) j h1 h2);have e:us.toArray.size=ws.toArray.size:=by simp[<-ru.length,<-rw'.length,hl]
   rw[Bk,e,beq_self_eq_true,Bool.true_and]at q;exact SeqAt.EqAt.of_refs hab q
theorem x3c {X:Cx}:OpR X (compareOp .Eq) (fun x y H Q=>∃n a b xs ys,x=.ref a/\y=.ref b/\H a=some (.lst xs)/\H b=some (.lst ys)/\xs.length=ys.length/\(∀(i:Nat) x y,xs[i]? = some x->ys[i]? = some y->EqT H n x y)/\X.A.units+n+1<cLine/\Q (.bl true) H):=by
 intro pins s σ H x y v u Q I rx ry h;obtain⟨n,a,b,xs,ys,rfl,rfl,ha,hb,hl,h,hu,q⟩:=h;cases rx;cases ry;obtain⟨us,ru,pu,_⟩:=I.list (SqL.of ha);obtain⟨ws,rw',pw,_⟩:=I.list (SqL.of hb);refine SeqAt.eq_listAt (e:=fun _=>true) pu.isList pw.isList (by simp[<-ru.length,<-rw'.length,hl]) (by omega) (fun j h1 h2=>EqT.items (X:=X) (H:=H) (n:=n) ru rw' hl (fun i x y e1 e2 _ _ q1 q2=>(h i x y e1 e2).at I q1 q2 (by show X.A.units+1+n<cLine;omega)) j h1 h2) ?_;rw[Bk];exact fun _=>⟨.bl true,H,I,rfl,q⟩
def pp (K:PySem.W.Frag)(a:Addr)(g:TG)(tb:TS)(D:Ends)(σ:St)(H:Hp):Prop:=∃W:Nat->Nat->St->Hp->Prop,(∃m,W 0 m σ H)/\∀i m σ H,W i m σ H ->
 ((Itl K a).stop i H/\D.nx σ H)\/((Itl K a).go i H/\∃N:St->Hp->Prop,(∀σ' H',N σ' H'->∃m',m' < m/\W (i+1) m' σ' H')/\∀x H',(Itl K a).yld i H x H'->g x σ H' fun σ2 H2=>tb { D with nx:=N,ct:=N,bk:=D.nx } σ2 H2)
theorem q7e {K:W.Frag}{tl:TE}{g:TG}{tb:TS}{D:Ends}{σ:St}{H:Hp}:tFor (ck K tl) g tb D σ H=tl σ H fun x H1=>∃a,x=.ref a/\(∃xs,SqL K H1 a xs)/\pp K a g tb D σ H1:=rfl
theorem qp {K:W.Frag}{a:Addr}{xs:List V}{g:TG}{tb:TS}{D:Ends}{σ:St}{H:Hp}(Pv:Nat->St->Hp->Prop)(h0:Pv 0 σ H)(hl:∀i σ H,i<=xs.length->Pv i σ H->SqL K H a xs)
  (hs:∀i x σ H,xs[i]? = some x->Pv i σ H->g x σ H fun σ2 H2=>tb { D with nx:=Pv (i+1),ct:=Pv (i+1),bk:=D.nx } σ2 H2)(hd:∀σ H,Pv xs.length σ H->D.nx σ H):pp K a g tb D σ H:=q5k Pv h0 hl hs hd
theorem Same.upd {H H':Hp}{a:Addr}{o:HO}(s:Same H H')(h:H a=none):Same H (upd H' a o):=fun b u e=>by
 rw[wa (qb e h)];exact s b u e
theorem Same.of_new {H:Hp}{a:Addr}{o:HO}(h:H a=none):Same H (L2.upd H a o):=(Same.refl H).upd h
theorem y2q {CX:CXT}{P:Program}{w:World}{K:W.Frag}{mg:Str->Option Value}{base:Heap}{N:List Str}{qual:Str}{scope:Scope}{f:Addr}{cd:Value}{A:Around}{outer:List Env}{s:Shared}{H:Hp}{E:XK}:(cxOf CX P w K mg base N qual scope f cd A outer s H E).K=K:=rfl
theorem q7j {CX:CXT}{P:Program}{w:World}{K:W.Frag}{mg:Str->Option Value}{base:Heap}{N:List Str}{qual:Str}{scope:Scope}{f:Addr}{cd:Value}{A:Around}{outer:List Env}{s:Shared}{H:Hp}{E:XK}:(cxOf CX P w K mg base N qual scope f cd A outer s H E).A=A.deeper (envOfC qual scope s.heap.objs.size f cd):=rfl
theorem gb:IxR X (fun x y H Q=>∃p i,x=.ref p/\y=.int i/\∃xs,H p=some (.lst xs)/\∃v,atI xs i=some v/\Q v H):=fun value slice pins s σ H x y v u Q I rx ry h hs =>
 ix_list value slice pins s σ H x y v u Q I rx ry (by obtain⟨p,i,e1,e2,xs,e3,v,e4,q⟩:=h;exact⟨p,xs,i,v,e1,e2,SqL.of e3,e4,q⟩) hs
theorem ib:IxR X (fun x y H Q=>∃p i,x=.ref p/\y=.int i/\∃xs,H p=some (.tup xs)/\∃v,atI xs i=some v/\Q v H):=fun value slice pins s σ H x y v u Q I rx ry h hs =>
 ix_tup value slice pins s σ H x y v u Q I rx ry (by obtain⟨p,i,e1,e2,xs,e3,v,e4,q⟩:=h;exact⟨p,xs,i,v,e1,e2,SqT.of e3,e4,q⟩) hs
theorem Gc:Ec X (.builtin "len") (fun xs H Q=>∃p,xs=[.ref p]/\∃ys,H p=some (.lst ys)/\Q (.int ys.length) H):=fun pins s σ H xs us Q I r h =>
 Zg pins s σ H xs us Q I r (by obtain⟨p,e,ys,e2,q⟩:=h;exact⟨p,ys,e,.inl (SqL.of e2),q⟩)
theorem y5u:Ec X (.type "list") (fun xs H Q=>∃p,xs=[.ref p]/\∃ys,H p=some (.lst ys)/\∀l,H l=none->Q (.ref l) (upd H l (.lst ys))):=fun pins s σ H xs us Q I r h =>
 y8c pins s σ H xs us Q I r (by obtain⟨p,e,ys,e2,q⟩:=h;exact⟨p,ys,e,.inl (SqL.of e2),q⟩)
theorem j6s:SlR X (fun x lo hi H Q=>∃a,x=.ref a/\∃xs,H a=some (.lst xs)/\∀p,H p=none->Q (.ref p) (upd H p (.lst (cutV xs lo hi)))):=fun pins s σ H x v vl vu lo hi sl Q I rx hs pl pu h =>
 Ko pins s σ H x v vl vu lo hi sl Q I rx hs pl pu (by obtain⟨a,e,xs,e2,q⟩:=h;exact⟨a,xs,e,SqL.of e2,q⟩)
theorem vp {K:W.Frag}{H:Hp}{p:Addr}{xs:List V}(h:H p=some (.lst xs)):tyV K "list" (.ref p) H:=.inl ⟨rfl,_,SqL.of h⟩
variable {o e:Expr}{es:List Expr}{to:TE}{t:TA}{name:Str}{apos cpos:Pos}{id:String}{r:V->List V->Hp->VK->Prop}
def tLM (r:V->List V->Hp->VK->Prop)(to:TE)(t:TA):TE:=fun σ H Q=>to σ H fun x H1=>∃p,x=.ref p/\(∃xs,H1 p=some (.lst xs))/\t σ H1 fun vs H2=>r (.ref p) vs H2 Q
def tLM0 (r:V->List V->Hp->VK->Prop)(to:TE):TE:=fun σ H Q=>to σ H fun x H1=>∃p,x=.ref p/\(∃xs,H1 p=some (.lst xs))/\r (.ref p) [] H1 Q
theorem wp (slot:Slot "list" name id)(hty:typeOf (.builtin id)=pure (.type "method_descriptor"))(hm:MtR X id r)(ho:PE X o to)
  (hbase:attributeBase o name X.env (eval o X.env)=eval o X.env:=by rfl)(hline:(apos.endLine == cpos.line)=true:=by rfl):PE X (.Call (.Attribute o name apos) [] [] cpos) (tLM0 r to):=by
 intro pins s σ H Q I h;refine wpAny_Call_method0_late hbase hline (thn (ho pins s σ H _ I h) fun v s1 zq=>?_);obtain⟨x,H1,I1,r1,p,e1,⟨xs,hx⟩,q1⟩:=zq;subst e1;obtain⟨h1,h2⟩:=uk I1 r1 (vp hx);exact⟨"list",id,PySem.F.plainAttrs_list,slot,hty,h1,h2,Calls.callWith_builtin rfl (PySem.evalArgs_none (hm pins s1 σ H1 _ [] v [] Q I1 r1 .nil q1))⟩
theorem zf (slot:Slot "list" name id)(hty:typeOf (.builtin id)=pure (.type "method_descriptor"))(hm:MtR X id r)(ho:PE X o to)(ha:PA X (e::es) t)
  (hbase:attributeBase o name X.env (eval o X.env)=eval o X.env:=by rfl)
  (hfew:((backTo cpos (starEach (e::es) X.env)).all (fun x=>!x.1)&&(backToKw cpos (keywordEach [] X.env)).all (fun x=>x.1.isSome)
  &&decide ((e::es).length+([]:List Keyword).length+(if ([]:List Keyword).isEmpty then 0 else 1)<30))=true:=by rfl)
  (hline:(apos.endLine == cpos.line)=true:=by rfl)(hs:starEach (e::es) X.env=(false,eval e X.env)::starEach es X.env:=by rfl)(hplain:(backTo cpos (starEach es X.env)).any (·.1)=false:=by rfl) :
  PE X (.Call (.Attribute o name apos) (e::es) [] cpos) (tLM r to t):=by
 intro pins s σ H Q I h;refine wpAny_Call_method_late hbase hfew hline rfl (thn (ho pins s σ H _ I h) fun v s1 zq=>?_);obtain⟨x,H1,I1,r1,p,e1,⟨xs,hx⟩,q1⟩:=zq;subst e1;obtain⟨h1,h2⟩:=uk I1 r1 (vp hx);refine⟨"list",id,PySem.F.plainAttrs_list,slot,hty,h1,h2,?_⟩;have hA:=ha cpos pins s1 σ H1 _ I1 q1;rw[hs]at hA ⊢;refine Calls.callWith_builtin (by show(false||(backTo cpos (starEach es X.env)).any (·.1))=false;rw[hplain]<;>rfl) (Calls.evalArgs_plain ?_);exact thn hA fun us s2 ⟨vs,H2,I2,r2,q2⟩=>hm pins s2 σ H2 _ vs v us Q I2 r1 r2 q2
theorem j2g {H:Hp}{a b:Addr}{o:HO}:upd H a o b=if b=a then some o else H b:=rfl
theorem z5a {H:Hp}{a b:Addr}{o:HO}:upd H a o b=none↔b≠a/\H b=none:=by
 rw[j2g];by_cases h:b=a<;>simp[h]
theorem atI0 {α:Type}{a:α}{l:List α}:atI (a::l) 0=some a:=by
 have:=wc (xs:=a::l) (j:=0) (v:=a) rfl;simpa using this
theorem atI1 {α:Type}{a b:α}{l:List α}:atI (a::b::l) 1=some b:=by
 have:=wc (xs:=a::b::l) (j:=1) (v:=b) rfl;simpa using this
theorem atI2 {α:Type}{a b c:α}{l:List α}:atI (a::b::c::l) 2=some c:=by
 have:=wc (xs:=a::b::c::l) (j:=2) (v:=c) rfl;simpa using this
theorem Sa:sizeLine=16777216:=sizeLine_eq
theorem scSS {a b:Str}:scal (.str a) (.str b)=true:=rfl
theorem scII {a b:Int}:scal (.int a) (.int b)=true:=rfl
open PySem.SeqAt
theorem Hi:plainId "list.__eq__.loop" = true:=by decide +kernel
theorem xp:entryFor table "list.__eq__.loop" = some Builtin.«list.__eq__.loop»:=entryFor_of_tree (by kernel_rfl)
open AutoSeq1 (wpAny_loadPart')
theorem y7u (l b:Addr)(us ws:Array Value)(n n2:Nat)(hsz:us.size=ws.size)(k:Nat) :
  ∀i:Nat,us.size - i=k->Meets (Builtin.«list.__eq__.loop» ⟨[.ref l,.ref b,rawInt i,rawInt 3],[]⟩)
   (fun A R s=>s.heap.get? l=some { cls:=.type "list",data:=.seq us n }/\s.heap.get? b=some { cls:=.type "list",data:=.seq ws n2 } /\
    (∀j (h1:j<us.size) (h2:j<ws.size),EqAt A.in1 s us[j] ws[j] true)/\R (.ok (.ret (.bool false))) s):=by
 induction k with
 |zero =>
  intro i hk prog w A R s h;obtain⟨hp,g,d,tk,os⟩:=s;obtain⟨hl,hb,he,h⟩:=h
  wp_walk using wpAny_loadPart' hl,wpAny_loadPart' hb
  have hi1:us[((i:Nat):Int).toNat]? = none:=by simp;omega
  have hi2:ws[((i:Nat):Int).toNat]? = none:=by simp;omega
  rw[hi1,hi2]
  wp_walk using wpAny_loadPart' hl,wpAny_loadPart' hb
  show R (.ok (.ret (.bool (us.size != ws.size)))) _;rw[hsz];simpa using h
 |succ k ih =>
  intro i hk prog w A R s h;obtain⟨hp,g,d,tk,os⟩:=s;obtain⟨hl,hb,he,h⟩:=h
  wp_walk using wpAny_loadPart' hl,wpAny_loadPart' hb
  have hlt:i<us.size:=by omega
  have hlt2:i<ws.size:=by omega
  have hi1:us[((i:Nat):Int).toNat]? = some us[i]:=by simp[hlt]
  have hi2:ws[((i:Nat):Int).toNat]? = some ws[i]:=by simp[hlt2]
  have hc:((i:Int)+1)=((i+1:Nat):Int):=by omega
  rw[hi1,hi2];refine wpAny_bind (he i hlt hlt2 prog w _ _ ?_)
  wp_walk
  rw[hc];exact⟨plainId_quiet Hi _,codeAny_builtin xp (by
   rw[Around.under_plainId Hi _];exact ih (i+1) (by omega) prog w A R _ ⟨hl,hb,he,h⟩)⟩
theorem y7q (l b:Addr)(us ws:Array Value)(n n2:Nat)(hsz:us.size=ws.size) :
  Meets (Builtin.«list.__ne__» ⟨[.ref l,.ref b],[]⟩)
   (fun A R s=>s.heap.get? l=some { cls:=.type "list",data:=.seq us n }/\s.heap.get? b=some { cls:=.type "list",data:=.seq ws n2 } /\
    (∀j (h1:j<us.size) (h2:j<ws.size),EqAt A.in1 s us[j] ws[j] true)/\R (.ok (.ret (.bool false))) s):=by
 intro prog w A R s h;obtain⟨hp,g,d,tk,os⟩:=s;obtain⟨hl,hb,he,h⟩:=h;have f3:=AutoSeq1.sub_list_list;have hne:¬(us.size != ws.size)=true:=by simp[hsz]
 wp_walk using wpAny_loadPart' hl,wpAny_loadPart' hb
 exact⟨plainId_quiet Hi _,codeAny_builtin xp (by
  rw[Around.under_plainId Hi _];exact y7u l b us ws n n2 hsz _ 0 rfl prog w A R _ ⟨hl,hb,he,h⟩)⟩
theorem y8x (l b:Addr)(us ws:Array Value)(n n2:Nat)(hc0:(us.size != ws.size)=true) :
  Meets (Builtin.«list.__ne__» ⟨[.ref l,.ref b],[]⟩)
   (fun _ R s=>s.heap.get? l=some { cls:=.type "list",data:=.seq us n }/\s.heap.get? b=some { cls:=.type "list",data:=.seq ws n2 }/\R (.ok (.ret (.bool true))) s) :=
 .of_wp fun prog w A R s h=>by
  obtain⟨hp,g,d,tk,os⟩:=s;obtain⟨hl,hb,h⟩:=h;have f3:=AutoSeq1.sub_list_list
  wp_walk using wpAny_loadPart' hl,wpAny_loadPart' hb
  exact⟨_,rfl,h⟩
theorem Inv.plainL {pins:List (Addr×Obj)}{σ:St}{H:Hp}{s:Shared}{p:Addr}{xs:List V}(I:Inv X pins σ H s)(h:H p=some (.lst xs)) :
  ∃(its:List Value)(n:Nat),Vals xs its/\s.heap.get? p=some { cls:=.type "list",data:=.seq its.toArray n }:=by
 obtain⟨_,its,n,r,e⟩:=I.hok p _ h;exact⟨its,n,r,e⟩
theorem Dk:OpR X (compareOp .NotEq) (fun x y H Q=>∃a b,x=.ref a/\y=.ref b/\∃xs,H a=some (.lst xs)/\∃ys,H b=some (.lst ys)/\X.A.units<cLine /\
  ((xs.length≠ys.length/\Q (.bl true) H)\/(xs.length=ys.length/\(∃n,(∀(i:Nat) x y,xs[i]? = some x->ys[i]? = some y->EqT H n x y)/\X.A.units+n+1<cLine)/\Q (.bl false) H))):=by
 intro pins s σ H x y v u Q I rx ry h;obtain⟨a,b,rfl,rfl,xs,ha,ys,hb,hu,h⟩:=h;cases rx;cases ry;obtain⟨us,n1,ru,eu⟩:=I.plainL ha;obtain⟨ws,n2,rw',ew⟩:=I.plainL hb;have l1:=ru.length;have l2:=rw'.length;rcases h with ⟨hl,q⟩|⟨hl,⟨n,h,hn⟩,q⟩
 ·exact richCompare_meets_room (op:=.NotEq) ⟨_,eu,rfl⟩ ⟨_,ew,rfl⟩ F.slot_list_ne F.entry_list_ne (F.args_list_ne_2 _ _) (y8x a b us.toArray ws.toArray n1 n2 (by simp;omega))
   ⟨eu,ew,(show Value.bool true≠Value.notImplemented/\EP X pins σ Q (.bool true) s from⟨(fun z=>nomatch z),(fun _=>⟨.bl true,H,I,rfl,q⟩)⟩)⟩ hu
 ·exact richCompare_meets_room (op:=.NotEq) ⟨_,eu,rfl⟩ ⟨_,ew,rfl⟩ F.slot_list_ne F.entry_list_ne (F.args_list_ne_2 _ _) (y7q a b us.toArray ws.toArray n1 n2 (by simp;omega))
   ⟨eu,ew,fun j h1 h2=>EqT.items (X:=X) (H:=H) (n:=n) ru rw' hl (fun i x y e1 e2 _ _ q1 q2=>(h i x y e1 e2).at I q1 q2 (by show X.A.units+1+n<cLine;omega)) j h1 h2,(show Value.bool false≠Value.notImplemented/\EP X pins σ Q (.bool false) s from⟨(fun z=>nomatch z),(fun _=>⟨.bl false,H,I,rfl,q⟩)⟩)⟩ hu
theorem cg:OpR X (compareOp .Eq) (fun x y H Q=>∃a b,x=.ref a/\y=.ref b/\∃xs,H a=some (.lst xs)/\∃ys,H b=some (.lst ys)/\X.A.units<cLine /\
  ((xs.length≠ys.length/\Q (.bl false) H)\/(xs.length=ys.length/\(∃n,(∀(i:Nat) x y,xs[i]? = some x->ys[i]? = some y->EqT H n x y)/\X.A.units+n+1<cLine)/\Q (.bl true) H))):=by
 intro pins s σ H x y v u Q I rx ry h;obtain⟨a,b,rfl,rfl,xs,ha,ys,hb,hu,h⟩:=h;rcases h with ⟨hl,q⟩|⟨hl,⟨n,h,hn⟩,q⟩
 ·cases rx;cases ry;obtain⟨us,ru,pu,_⟩:=I.list (SqL.of ha);obtain⟨ws,rw',pw,_⟩:=I.list (SqL.of hb);exact SeqAt.eq_list_lengthsAt pu.isList pw.isList (by simp[<-ru.length,<-rw'.length,hl]) hu (fun _=>⟨.bl false,H,I,rfl,q⟩)
 ·exact x3c pins s σ H _ _ v u Q I rx ry ⟨n,a,b,xs,ys,rfl,rfl,ha,hb,hl,h,hn,q⟩
theorem x8p:OpR X (compareOp .In) (fun x y H Q=>∃p,y=.ref p/\∃xs,H p=some (.lst xs)/\Mb x=true/\xs.all Mb=true/\Q (.bl (inV x xs)) H):=fun pins s σ H x y v u Q I rx ry h =>
 x7i pins s σ H x y v u Q I rx ry (by obtain⟨p,e,xs,e2,h1,h2,q⟩:=h;exact⟨p,xs,e,.inl (SqL.of e2),h1,h2,q⟩)
theorem y6p:OpR X (compareOp .NotIn) (fun x y H Q=>∃p,y=.ref p/\∃xs,H p=some (.lst xs)/\Mb x=true/\xs.all Mb=true/\Q (.bl (!inV x xs)) H):=fun pins s σ H x y v u Q I rx ry h =>
 Mo pins s σ H x y v u Q I rx ry (by obtain⟨p,e,xs,e2,h1,h2,q⟩:=h;exact⟨p,xs,e,.inl (SqL.of e2),h1,h2,q⟩)
theorem Ek (k:Str)(ks:List Str):inV (.str k) (ks.map V.str)=decide (k∈ks):=by
 unfold inV;induction ks with
 |nil=>simp
 |cons a r ih =>
  rw[map_cons,any_cons,ih,Bool.eq_iff_iff];show((a == k)||decide (k∈r))=true↔_;simp[@eq_comm _ a k]
theorem Fk (ks:List Str):(ks.map V.str).all Mb=true:=by
 induction ks with
 |nil=>rfl
 |cons a r ih=>rw[map_cons,all_cons,ih];rfl
theorem x0c {prog:Program}{w:World}{A:Around}{its:List Value}{bs:List Bool}(r:Vals (bs.map V.bl) its):TruthOf prog w A (fun i v=>its.toArray[i]? = some v) (fun i=>bs.getD i false):=by
 intro i v s Q E hP hq;have e:its[i]? = some v:=by simpa using hP
 have hi:i<bs.length:=by
  have:=(List.getElem?_eq_some_iff.mp e).1;have:=r.length;simp at this;omega
 obtain⟨u,eu,ru⟩:=r.get (i:=i) (x:=.bl bs[i]) (by simp[hi]);rw[e]at eu;cases eu;cases(show v=Value.bool bs[i] from ru);refine wpAny_truthy_bool ?_;simpa[hi] using hq
end
section
open PySem.SeqAt
open AutoSeq1 (wpAny_loadPart')
variable {X:Cx}
theorem x8i (bs:List Bool)(n:Nat)(h:n=bs.length):(range n).all (fun i=>bs.getD i false)=bs.all id:=by
 subst h;induction bs with
 |nil=>rfl
 |cons b r ih =>
  rw[length_cons,List.range_succ_eq_map,all_cons,all_map,all_cons];congr 1
theorem yp (hc:X.calm=true):Ec X (.builtin "all") (fun xs H Q=>∃p,xs=[.ref p]/\∃bs:List Bool,H p=some (.lst (bs.map V.bl))/\Q (.bl (bs.all id)) H):=by
 intro pins s σ H xs us Q I r h;obtain⟨p,rfl,bs,hp,q⟩:=h;obtain⟨u,rfl,ru⟩:=Mc r;cases ru;obtain⟨its,rv,pl,hz⟩:=I.list (SqL.of hp);obtain⟨ol,hol,_⟩:=id pl.isList;have hlt:=lt_size hol;refine call_all_walk (wpAny_pyIter_list pl.isList ⟨s.heap.objs.size,_,_,_,_,_,_,rfl,Walks.list (A:=X.A.in1) (I.ok.hd hc) s.heap.objs.size p (ne_of_lt hlt) its.toArray,⟨⟨_,get?_push_size _ rfl,rfl,rfl⟩,pl.isList.push _⟩,x0c rv,fun h' tk hk=>?_⟩);rw[x8i bs _ (by have:=rv.length;simp at this;simp[this])];have hk':∀b o,s.heap.get? b=some o->h'.get? b=some o:=fun b o e=>hk b o (by simpa using ne_of_lt (lt_size e)) (get?_push_of_some _ e);exact(fun _=>⟨.bl (bs.all id),H,I.kept hk',rfl,q⟩)
theorem DGet.o {H:Hp}{a:Addr}{kvs:List (Key×V)}{k:Str}(e:H a=some (.dK kvs)):DGet H a (.str k) (valV kvs (Sum.inr k)):=DGet.k (k:=Sum.inr k) e
theorem DPut.s {H:Hp}{a:Addr}{kvs:List (Key×V)}{k:Str}{v:V}(e:H a=some (.dK kvs))(hl:kvs.length<sizeLine):DPut H a (.str k) v (upd H a (.dK (putK kvs (Sum.inr k) v))):=DPut.k (k:=Sum.inr k) e hl
theorem Inv.turnsLaid {pins:List (Addr×Obj)}{σ:St}{H:Hp}{s:Shared}{h':Heap}{ch:List Addr}{a:Addr}{o:HO}{t':Nat}(I:Inv X pins σ H s)(k:∀b u,b∉ch->s.heap.get? b=some u->h'.get? b=some u)(f:∀b∈ch,FpOk X pins H b)(hp:s.heap.objs.size<=a)
  (new:ObjOk X.prog X.w (upd H a o) h' a o)(hk:tk0<=t':=by first|assumption|exact Inv.pos (by assumption)|exact le_trans (Inv.pos (by assumption)) (le_add_right _ _)|exact le_trans (le_trans (Inv.pos (by assumption)) (le_add_right _ _)) (le_add_right _ _)):Inv X pins σ (upd H a o) { s with heap:=h',toks:=t' }:=by
 have hn:H a=none:=I.hok.fresh hp;have ne:∀b u,s.heap.get? b=some u->b≠a:=fun b u e=>ne_of_lt (lt_of_lt_of_le (lt_size e) hp);have nch:∀b u,H b=some u->b∉ch:=fun b u e z=>by rw[(f b z).1]at e;cases e
 refine I.step (g':=s.gens) (d':=s.drawn) (ch:=ch) (fun b hb=>?_) (fun b u _ _ hc e _=>k b u hc e) (fun b u _ _ hc e _=>⟨u.slots,k b u hc e⟩) (fun b u _ e n=>by rw[wa (ne b u e)];exact n)
  (fun b u hc e=>⟨u,k b u hc e⟩) (fun b xs e=>by rw[wa (qb e hn)];exact e) (fun b u v e=>by rw[wa (qb e hn)];exact e) (fun b e=>by rw[wa (qb e hn)];exact e) (fun m hm=>?_) (fun b u e=>?_) I.bare
 ·obtain⟨_,f1,_,f3,f4,f5⟩:=f b hb;exact⟨f3,f1,f4,f5⟩
 ·obtain⟨o',es,ep,ho,r⟩:=hm;exact⟨o',es,ep,k _ o' (fun z=>(f _ z).2.1 rfl) ho,r⟩
 ·by_cases hb:b=a
  ·subst hb;rw[z0h]at e;cases e;exact new
  ·rw[wa hb]at e;refine(I.hok b u e).stay (fun c v hc q=>k c v ?_ q) (fun c q=>by rw[wa (qb q hn)];exact q) fun c xs q=>by rw[wa (qb q hn)];exact q
   rcases hc with z|z
   ·rw[z];exact nch b u e
   ·exact nch c _ z
theorem Inv.turneds {pins:List (Addr×Obj)}{σ:St}{H:Hp}{s:Shared}{h':Heap}{ch:List Addr}{t':Nat}(I:Inv X pins σ H s)(k:∀b u,b∉ch->s.heap.get? b=some u->h'.get? b=some u)(f:∀b∈ch,FpOk X pins H b)(hk:tk0<=t':=by first|assumption|exact Inv.pos (by assumption)|exact le_trans (Inv.pos (by assumption)) (le_add_right _ _)|exact le_trans (le_trans (Inv.pos (by assumption)) (le_add_right _ _)) (le_add_right _ _)):Inv X pins σ H { s with heap:=h',toks:=t' }:=by
 have nch:∀b u,H b=some u->b∉ch:=fun b u e z=>by rw[(f b z).1]at e;cases e
 refine I.step (g':=s.gens) (d':=s.drawn) (ch:=ch) (fun b hb=>?_) (fun b u _ _ hc e _=>k b u hc e) (fun b u _ _ hc e _=>⟨u.slots,k b u hc e⟩) (fun b u _ _ n=>n)
  (fun b u hc e=>⟨u,k b u hc e⟩) (fun b xs e=>e) (fun b u v e=>e) (fun b e=>e) (fun m hm=>?_) (fun b u e=>?_) I.bare
 ·obtain⟨_,f1,_,f3,f4,f5⟩:=f b hb;exact⟨f3,f1,f4,f5⟩
 ·obtain⟨o',es,ep,ho,r⟩:=hm;exact⟨o',es,ep,k _ o' (fun z=>(f _ z).2.1 rfl) ho,r⟩
 ·refine(I.hok b u e).stay (fun c v hc q=>k c v ?_ q) (fun c q=>q) fun c xs q=>q;rcases hc with z|z
  ·rw[z];exact nch b u e
  ·exact nch c _ z
theorem y9d {n a b:Nat}(la:a<n)(lb:b<n):ZipApart (n+4) (n+2) (n+3) n (n+1) a b:=by
 constructor<;>(show(_:Nat)≠_;omega)
def Itz (a b:Addr):It :=
 ⟨fun i H=>∃xs ys x y,H a=some (.lst xs)/\H b=some (.lst ys)/\xs[i]? = some x/\ys[i]? = some y,
 fun i H v H'=>∃t,v=.ref t/\H t=none/\∀xs ys,H a=some (.lst xs)->H b=some (.lst ys)->∃x y,xs[i]? = some x/\ys[i]? = some y/\H' = upd H t (.tup [x,y]),
 fun i H=>∃xs ys,H a=some (.lst xs)/\H b=some (.lst ys)/\(xs[i]? = none\/ys[i]? = none)⟩
theorem q4v {P:Program}{w:World}{K:W.Frag}{elts:List Expr}{x1:Nat}{pos:Pos}{l1 l2 z TI TO i1 i2:Addr}(D:ZipApart z TI TO i1 i2 l1 l2)(nd:z≠TO) :
  Turn P w K (.Tuple elts x1 pos) (Itz l1 l2) [z,TI,TO,i1,i2] z (fun i h=>IsZip h z TI TO .none/\IsPair h TI (.ref i1) (.ref i2)/\(∃a b,IsPair h TO a b)/\h.IsListIter i1 l1 i/\h.IsListIter i2 l2 i) where
 mem:=by simp
 obj:=fun i h st b hb=>by
  obtain⟨h1,h2,⟨c,d,h3⟩,⟨o4,e4,c4,d4⟩,⟨o5,e5,c5,d5⟩⟩:=st;simp only[mem_cons,not_mem_nil,or_false]at hb;rcases hb with rfl|rfl|rfl|rfl|rfl
  ·exact⟨_,h1,fun v z=>by cases z⟩
  ·exact⟨_,h2,fun v z=>by cases z⟩
  ·exact⟨_,h3,fun v z=>by cases z⟩
  ·exact⟨_,e4,fun v z=>by rw[d4]at z;cases z⟩
  ·exact⟨_,e5,fun v z=>by rw[d5]at z;cases z⟩
 keep:=fun i h h' ⟨h1,h2,⟨c,d,h3⟩,h4,h5⟩ k=>⟨k z (by simp) _ h1,k TI (by simp) _ h2,⟨c,d,k TO (by simp) _ h3⟩,h4.at fun o e=>k i1 (by simp) o e,h5.at fun o e=>k i2 (by simp) o e⟩
 item:=by
  intro X hP hw hK hc i pins s σ H E I hf st hg;subst hP hw hK;obtain⟨h1,h2,⟨c,d,h3⟩,h4,h5⟩:=st;obtain⟨xs,ys,x,y,ha,hb,hx,hy⟩:=hg;obtain⟨us,ru,pu,_⟩:=I.list (SqL.of ha);obtain⟨ws,rw',pw,_⟩:=I.list (SqL.of hb);obtain⟨ux,ex,rx⟩:=ru.get hx;obtain⟨uy,ey,ry⟩:=rw'.get hy;refine wpAny_pyNext_zip_item D h1 h2 h3 h4 h5 pu.isList pw.isList (x:=ux) (y:=uy) (by simpa using ex) (by simpa using ey) fun h' a1 a2 a3 a4 a5 a6 a7=>?_;have I1:Inv X pins σ (upd H s.heap.objs.size (.tup [x,y])) { s with heap:=h' }:=I.turnsLaid (t':=s.toks) (ch:=[z,TO,i1,i2]) (fun b u hb e=>a7 b u (fun q=>hb (by simp[q])) (fun q=>hb (by simp[q])) (fun q=>hb (by simp[q])) (fun q=>hb (by simp[q])) e)
   (fun b hb=>hf b (by simp at hb;rcases hb with h|h|h|h<;>simp[h])) (le_refl _) (show ObjOk X.prog X.w _ h' _ (.tup [x,y]) from⟨by show 2<=sizeLine;decide,[ux,uy],.cons rx (.cons ry .nil),⟨_,a5,rfl,_,rfl⟩⟩)
  have hfr:=I.fresh;have old:∀b∈[z,TI,TO,i1,i2],upd H s.heap.objs.size (.tup [x,y]) b=none:=fun b hb=>by
   rw[z5a];refine⟨fun e=>?_,(hf b hb).1⟩;have ob:∃o,s.heap.get? b=some o:=by
    obtain⟨o4,e4,_⟩:=h4;obtain⟨o5,e5,_⟩:=h5;simp only[mem_cons,not_mem_nil,or_false]at hb;rcases hb with rfl|rfl|rfl|rfl|rfl
    ·exact⟨_,h1⟩
    ·exact⟨_,h2⟩
    ·exact⟨_,h3⟩
    ·exact⟨_,e4⟩
    ·exact⟨_,e5⟩
   obtain⟨o,eo⟩:=ob;exact absurd (lt_size eo) (by rw[e];exact lt_irrefl _)
  refine(fun _=>⟨_,rfl,wpAny_letOwnedTupleGo_zip (s:={ s with heap:=h' }) a1 fun h2' b1 b2=>?_⟩);obtain⟨_,f1,f2,f3,f4,f5⟩:=hf z (by simp);have I2:Inv X pins σ (upd H s.heap.objs.size (.tup [x,y])) { s with heap:=h2' }:=I1.turned (t':=s.toks) (fun b o hb e=>(b2.2 b hb).trans e) (old z (by simp)) f1 f3 f4 f5;refine(fun _=>⟨.ref s.heap.objs.size,_,I2,rfl,⟨_,rfl,hfr,fun xs' ys' q1 q2=>?_⟩,⟨b1,?_,⟨ux,uy,?_⟩,a3.at fun o e=>(b2.2 i1 D.i1z).trans e,a4.at fun o e=>(b2.2 i2 D.i2z).trans e⟩,old⟩)
  ·rw[ha]at q1;cases q1;rw[hb]at q2;cases q2;exact⟨x,y,hx,hy,rfl⟩
  ·exact(b2.2 TI D.TIz).trans (a7 TI _ D.TIz D.TITO D.TIi1 D.TIi2 h2)
  ·exact(b2.2 TO D.TOz).trans a2
 done:=by
  intro X hP hw hK hc i pins s σ H E I hf st hg;subst hP hw hK;obtain⟨h1,h2,⟨c,d,h3⟩,h4,h5⟩:=st;obtain⟨xs,ys,ha,hb,hend⟩:=hg;obtain⟨us,ru,pu,_⟩:=I.list (SqL.of ha);obtain⟨ws,rw',pw,_⟩:=I.list (SqL.of hb);refine wpAny_pyNext_zip_end (I.ok.hd hc) D h1 h2 h3 h4 h5 pu.isList pw.isList ?_ fun h' hk=>(fun _=>⟨rfl,I.turneds (t':=s.toks) (ch:=[z,TO,i1,i2]) (fun b u hb e=>hk b u (fun q=>hb (by simp[q])) (fun q=>hb (by simp[q])) (fun q=>hb (by simp[q])) (fun q=>hb (by simp[q])) e) (fun b hb=>hf b (by simp at hb;rcases hb with h|h|h|h<;>simp[h]))⟩);rcases hend with e|e
  ·exact .inl (by simpa using Vals.none_of ru e)
  ·exact .inr (by simpa using Vals.none_of rw' e)
 self:=fun _ _ _ _ _ st h=>wpAny_pyIter_zip st.1 h
def iZip (ta:TA):TI:=fun σ H R=>ta σ H fun vs H1=>∃a b,vs=[.ref a,.ref b]/\∃xs,H1 a=some (.lst xs)/\∃ys,H1 b=some (.lst ys)/\R (Itz a b) H1
theorem j8j {elts:List Expr}{x1:Nat}{pt:Pos}{e1 e2:Expr}{ta:TA}{p pos:Pos}(hg:Gl X "zip")(hm:X.mg "zip" = none)(ha:PA X [e1,e2] ta)(hs:starEach [e1,e2] X.env=(false,eval e1 X.env)::starEach [e2] X.env:=by rfl)(hpl:(backTo pos (starEach [e2] X.env)).any (·.1)=false:=by rfl) :
  PI X (.Tuple elts x1 pt) (.Call (.Name "zip" p) [e1,e2] [] pos) (iZip ta):=by
 intro pins s σ H R I h;refine wpAny_Call_Name_kw (Ce I hg hm boot_zip ?_);refine PyProof.Rows.callWith_type1 (thn (ha pos pins s σ H _ I h) fun us s1 ⟨vs,H1,I1,r1,q1⟩=>?_) hs hpl;obtain⟨a,b,rfl,xs,hA,ys,hB,q⟩:=q1;obtain⟨u,w',rfl,ru,rw'⟩:=gk r1;cases ru;cases rw';obtain⟨us,ru,pu,_⟩:=I1.list (SqL.of hA);obtain⟨ws,rw',pw,_⟩:=I1.list (SqL.of hB);obtain⟨oa,ea,_⟩:=id pu.isList;obtain⟨ob,eb,_⟩:=id pw.isList;have la:=lt_size ea;have lb:=lt_size eb;refine call_zip_2 pu.isList pw.isList fun h' z1 z2 z3 z4 z5 z6 z7=>wpAny_pyIter_zip z1 ?_;have D:ZipApart (s1.heap.objs.size+4) (s1.heap.objs.size+2) (s1.heap.objs.size+3) s1.heap.objs.size (s1.heap.objs.size+1) a b:=y9d la lb;refine⟨s1.heap.objs.size+4,_,_,_,H1,rfl,I1.kept (t':=s1.toks) z7,q4v D (by show(_:Nat)≠_;omega),⟨z1,z2,⟨_,_,z3⟩,z4,z5⟩,fun c hc=>?_,q⟩;have hge:s1.heap.objs.size<=c:=by
  simp only[mem_cons,not_mem_nil,or_false]at hc;rcases hc with rfl|rfl|rfl|rfl|rfl
  ·exact le_add_right _ _
  ·exact le_add_right _ _
  ·exact le_add_right _ _
  ·exact le_refl _
  ·exact le_add_right _ _
 exact I1.fpOk hge (I1.hok.fresh hge)
end
end L2
namespace VL
open PySem L2
inductive D where
 |non|bl (b:Bool)|int (i:Int)|str (x:Str)|ty (n:String)
 |lst (xs:List D)|tup (xs:List D)|dct (kvs:List (Key×D))
mutual
def Rep (F:Hp):D->V->Prop
 |.non,v=>v=.non
 |.bl b,v=>v=.bl b
 |.int i,v=>v=.int i
 |.str x,v=>v=.str x
 |.ty n,v=>v=.ty n
 |.lst ds,v=>∃a vs,v=.ref a/\F a=some (.lst vs)/\Reps F ds vs
 |.tup ds,v=>∃a vs,v=.ref a/\F a=some (.tup vs)/\Reps F ds vs
 |.dct kds,v=>∃a kvs,v=.ref a/\F a=some (.dK kvs)/\RepK F kds kvs
def Reps (F:Hp):List D->List V->Prop
 | [],vs=>vs=[]
 |d::ds,vs=>∃v r,vs=v::r/\Rep F d v/\Reps F ds r
def RepK (F:Hp):List (Key×D)->List (Key×V)->Prop
 | [],vs=>vs=[]
 |p::ds,vs=>∃v r,vs=v::r/\RepP F p v/\RepK F ds r
def RepP (F:Hp):Key×D->Key×V->Prop
 |(k,d),q=>q.1=k/\Rep F d q.2
end
mutual
theorem Rep.mono {F F':Hp}(s:Same F F'):∀(d:D)(v:V),Rep F d v->Rep F' d v
 |.non,v,h=>h
 |.bl b,v,h=>h
 |.int i,v,h=>h
 |.str x,v,h=>h
 |.ty n,v,h=>h
 |.lst ds,v,h=>by obtain⟨a,vs,e,h1,h2⟩:=h;exact⟨a,vs,e,s _ _ h1,Reps.mono s ds vs h2⟩
 |.tup ds,v,h=>by obtain⟨a,vs,e,h1,h2⟩:=h;exact⟨a,vs,e,s _ _ h1,Reps.mono s ds vs h2⟩
 |.dct kds,v,h=>by obtain⟨a,vs,e,h1,h2⟩:=h;exact⟨a,vs,e,s _ _ h1,RepK.mono s kds vs h2⟩
theorem Reps.mono {F F':Hp}(s:Same F F'):∀(ds:List D)(vs:List V),Reps F ds vs->Reps F' ds vs
 | [],vs,h=>h
 |d::ds,vs,h=>by obtain⟨v,r,e,h1,h2⟩:=h;exact⟨v,r,e,Rep.mono s d v h1,Reps.mono s ds r h2⟩
theorem RepK.mono {F F':Hp}(s:Same F F'):∀(ds:List (Key×D))(vs:List (Key×V)),RepK F ds vs->RepK F' ds vs
 | [],vs,h=>h
 |p::ds,vs,h=>by obtain⟨v,r,e,h1,h2⟩:=h;exact⟨v,r,e,RepP.mono s p v h1,RepK.mono s ds r h2⟩
theorem RepP.mono {F F':Hp}(s:Same F F'):∀(p:Key×D)(q:Key×V),RepP F p q->RepP F' p q
 |(k,d),q,h=>⟨h.1,Rep.mono s d q.2 h.2⟩
end
theorem Reps.len {F:Hp}:∀{ds:List D}{vs:List V},Reps F ds vs->ds.length=vs.length
 | [],vs,h=>by cases(show vs=[] from h);rfl
 |d::ds,vs,h=>by obtain⟨v,r,rfl,h1,h2⟩:=h;simp[Reps.len h2]
theorem Reps.get {F:Hp}:∀{ds:List D}{vs:List V}{i:Nat}{d:D},Reps F ds vs->ds[i]? = some d->∃v,vs[i]? = some v/\Rep F d v
 | [],vs,i,d,h,e=>by simp at e
 |d::ds,vs,0,d',h,e=>by obtain⟨v,r,rfl,h1,h2⟩:=h;simp at e;subst e;exact⟨v,rfl,h1⟩
 |d::ds,vs,i+1,d',h,e=>by obtain⟨v,r,rfl,h1,h2⟩:=h;simpa using Reps.get h2 (by simpa using e)
theorem Reps.app {F:Hp}:∀{ds es:List D}{vs us:List V},Reps F ds vs->Reps F es us->Reps F (ds++es) (vs++us)
 | [],es,vs,us,h,h'=>by cases(show vs=[] from h);exact h'
 |d::ds,es,vs,us,h,h'=>by obtain⟨v,r,rfl,h1,h2⟩:=h;exact⟨v,r++us,rfl,h1,Reps.app h2 h'⟩
theorem Reps.one {F:Hp}{d:D}{v:V}(h:Rep F d v):Reps F [d] [v]:=⟨v,[],rfl,h,rfl⟩
theorem Reps.take {F:Hp}:∀{ds:List D}{vs:List V}(n:Nat),Reps F ds vs->Reps F (ds.take n) (vs.take n)
 |_,_,0,_=>by rw[take_zero,take_zero];rfl
 | [],vs,n+1,h=>by cases(show vs=[] from h);rfl
 |d::ds,vs,n+1,h=>by obtain⟨v,r,rfl,h1,h2⟩:=h;exact⟨v,r.take n,rfl,h1,Reps.take n h2⟩
theorem Reps.drop {F:Hp}:∀{ds:List D}{vs:List V}(n:Nat),Reps F ds vs->Reps F (ds.drop n) (vs.drop n)
 |_,_,0,h=>h
 | [],vs,n+1,h=>by cases(show vs=[] from h);rfl
 |d::ds,vs,n+1,h=>by obtain⟨v,r,rfl,h1,h2⟩:=h;exact Reps.drop n h2
theorem Reps.set {F:Hp}{d:D}{v:V}(h:Rep F d v):∀{ds:List D}{vs:List V}(n:Nat),Reps F ds vs->Reps F (ds.set n d) (vs.set n v)
 | [],vs,n,h=>by cases(show vs=[] from h);rfl
 |d::ds,vs,0,h=>by obtain⟨v',r,rfl,h1,h2⟩:=h;exact⟨_,r,rfl,by assumption,h2⟩
 |d::ds,vs,n+1,h=>by obtain⟨v',r,rfl,h1,h2⟩:=h;exact⟨v',r.set n v,rfl,h1,Reps.set (by assumption) n h2⟩
theorem Reps.rev {F:Hp}:∀{ds:List D}{vs:List V},Reps F ds vs->Reps F ds.reverse vs.reverse
 | [],vs,h=>by cases(show vs=[] from h);rfl
 |d::ds,vs,h=>by
  obtain⟨v',r,rfl,h1,h2⟩:=h;rw[reverse_cons,reverse_cons];exact(Reps.rev h2).app (.one h1)
theorem Reps.dropLast {F:Hp}{ds:List D}{vs:List V}(h:Reps F ds vs):Reps F ds.dropLast vs.dropLast:=by
 rw[List.dropLast_eq_take,List.dropLast_eq_take,h.len];exact h.take _
inductive Slot where
 |no
 |fz (d:D)
 |ob (io:Bool)(c:D)
 |sc (K:W.Frag)(ns:List Int)
def Cont (F H:Hp)(a:Addr):D->Prop
 |.lst ds=>∃vs,H a=some (.lst vs)/\Reps F ds vs
 |.dct kds=>∃kvs,H a=some (.dK kvs)/\RepK F kds kvs
 |_=>False
theorem Cont.mono {F F' H H':Hp}{a:Addr}{c:D}(s:Same F F')(e:∀o,H a=some o->H' a=some o)(h:Cont F H a c):Cont F' H' a c:=by
 cases c with
 |lst ds=>obtain⟨vs,h1,h2⟩:=h;exact⟨vs,e _ h1,Reps.mono s _ _ h2⟩
 |dct ds=>obtain⟨vs,h1,h2⟩:=h;exact⟨vs,e _ h1,RepK.mono s _ _ h2⟩
 |_=>exact h.elim
theorem Cont.some {F H:Hp}{a:Addr}{c:D}(h:Cont F H a c):∃o,H a=some o:=by
 cases c with
 |lst ds=>obtain⟨vs,h1,h2⟩:=h;exact⟨_,h1⟩
 |dct ds=>obtain⟨vs,h1,h2⟩:=h;exact⟨_,h1⟩
 |_=>exact h.elim
theorem Cont.rep {F H:Hp}{a:Addr}{c:D}(h:Cont F H a c)(hf:F a=none):∃o,H a=Option.some o/\Rep (upd F a o) c (.ref a):=by
 have s:∀o,Same F (upd F a o):=fun o=>Same.of_new hf;cases c with
 |lst ds=>obtain⟨vs,h1,h2⟩:=h;exact⟨_,h1,a,vs,rfl,z0h,Reps.mono (s _) _ _ h2⟩
 |dct ds=>obtain⟨vs,h1,h2⟩:=h;exact⟨_,h1,a,vs,rfl,z0h,RepK.mono (s _) _ _ h2⟩
 |_=>exact h.elim
def SOk (H0 F H:Hp)(io:Option Addr)(o:Option V):Slot->Prop
 |.no=>True
 |.fz d=>∃v,o=some v/\Rep F d v
 |.ob b c=>∃a,o=some (.ref a)/\H0 a=none/\F a=none/\Cont F H a c/\(b=true->io=some a)
 |.sc K ns=>∃a,o=some (.ref a)/\SqL K F a (ns.map V.int)
structure EI (io:List (Option Addr))(H0 F0 F:Hp)(δ:List Slot)(σ:St)(H:Hp):Prop where
 base:Same H0 H
 sub:Same F H
 ext:Same F0 F
 new:∀b o,F b=some o->F0 b=none->H0 b=none
 len:δ.length=σ.length
 get:∀i s,δ[i]? = some s->SOk H0 F H (io.getD i none) (σ.getD i none) s
 apart:∀i j b c b' c' a,i≠j->δ[i]? = some (.ob b c)->δ[j]? = some (.ob b' c')->σ.getD i none=some (.ref a)->σ.getD j none=some (.ref a)->False
noncomputable def rsl:Bool->D->Slot
 |true,d=>.ob false d
 |false,d=>.fz d
section
variable {io:List (Option Addr)}{H0 F0 F:Hp}{δ:List Slot}{σ:St}{H:Hp}
theorem SOk.mono {F' H':Hp}{i:Option Addr}{o:Option V}{s:Slot}(sf:Same F F')(h:SOk H0 F H i o s)(hn:∀a b c,s=.ob b c->o=some (.ref a)->F' a=none/\∀u,H a=some u->H' a=some u):SOk H0 F' H' i o s:=by
 cases s with
 |no=>trivial
 |fz d=>obtain⟨v,e,r⟩:=h;exact⟨v,e,Rep.mono sf _ _ r⟩
 |sc K ns=>obtain⟨a,e,r⟩:=h;exact⟨a,e,sf.seq r⟩
 |ob b c =>
  obtain⟨a,e,h1,h2,h3,h4⟩:=h;obtain⟨n1,n2⟩:=hn a b c rfl e;exact⟨a,e,h1,n1,h3.mono sf n2,h4⟩
theorem EI.alloc {p:Addr}{o:HO}(I:EI io H0 F0 F δ σ H)(hp:H p=none):EI io H0 F0 F δ σ (upd H p o) where
 base:=I.base.upd (I.base.free hp)
 sub:=I.sub.upd (I.sub.free hp)
 ext:=I.ext
 new:=I.new
 len:=I.len
 get:=fun i s e=>(I.get i s e).mono (Same.refl _) fun a b c es eo=>by
  have h:=I.get i s e;subst es;obtain⟨a',e1,h1,h2,h3,h4⟩:=h;rw[eo]at e1;cases e1;obtain⟨u,hu⟩:=h3.some;exact⟨h2,fun u' hu'=>by rw[wa (qb hu hp)];exact hu'⟩
 apart:=I.apart
theorem EI.allocF {p:Addr}{o:HO}(I:EI io H0 F0 F δ σ H)(hp:H p=none):EI io H0 F0 (upd F p o) δ σ (upd H p o) where
 base:=I.base.upd (I.base.free hp)
 sub:=fun b u e=>by
  by_cases hb:b=p
  ·subst hb;rw[z0h]at e ⊢;exact e
  ·rw[wa hb]at e ⊢;exact I.sub b u e
 ext:=I.ext.upd (I.ext.free (I.sub.free hp))
 new:=fun b u e h=>by
  by_cases hb:b=p
  ·subst hb;exact I.base.free hp
  ·rw[wa hb]at e;exact I.new b u e h
 len:=I.len
 get:=fun i s e=>(I.get i s e).mono (Same.of_new (I.sub.free hp)) fun a b c es eo=>by
  have h:=I.get i s e;subst es;obtain⟨a',e1,h1,h2,h3,h4⟩:=h;rw[eo]at e1;cases e1;obtain⟨u,hu⟩:=h3.some;have ne:=qb hu hp;exact⟨by rw[wa ne];exact h2,fun u' hu'=>by rw[wa ne];exact hu'⟩
 apart:=I.apart
theorem EI.push {s:Slot}{v:V}(I:EI io H0 F0 F δ σ H)(h:SOk H0 F H none (some v) s)(ha:∀b c a,s=.ob b c->v=.ref a->∀j b' c',δ[j]? = some (.ob b' c')->σ.getD j none=some (.ref a)->False):EI (none::io) H0 F0 F (s::δ) (some v::σ) H where
 base:=I.base
 sub:=I.sub
 ext:=I.ext
 new:=I.new
 len:=by simp[I.len]
 get:=fun i t e=>by
  cases i with
  |zero=>simp at e;subst e;exact h
  |succ i=>simpa using I.get i t (by simpa using e)
 apart:=fun i j b c b' c' a ne e1 e2 e3 e4=>by
  cases i with
  |zero =>
   cases j with
   |zero=>exact ne rfl
   |succ j =>
    simp at e1 e2 e3 e4;exact ha b c a e1 e3 j b' c' e2 (by simpa using e4)
  |succ i =>
   cases j with
   |zero =>
    simp at e1 e2 e3 e4;exact ha b' c' a e2 e4 i b c e1 (by simpa using e3)
   |succ j =>
    simp at e1 e2 e3 e4;exact I.apart i j b c b' c' a (by omega) e1 e2 (by simpa using e3) (by simpa using e4)
theorem EI.pushF {d:D}{v:V}(I:EI io H0 F0 F δ σ H)(h:Rep F d v):EI (none::io) H0 F0 F (.fz d::δ) (some v::σ) H :=
 I.push ⟨v,rfl,h⟩ fun b c a e=>by cases e
theorem EI.pop {x:Option Addr}{s:Slot}{o:Option V}(I:EI (x::io) H0 F0 F (s::δ) (o::σ) H):EI io H0 F0 F δ σ H where
 base:=I.base
 sub:=I.sub
 ext:=I.ext
 new:=I.new
 len:=by simpa using I.len
 get:=fun i t e=>by simpa using I.get (i+1) t (by simpa using e)
 apart:=fun i j b c b' c' a ne e1 e2 e3 e4=>I.apart (i+1) (j+1) b c b' c' a (by omega) (by simpa using e1) (by simpa using e2) (by simpa using e3) (by simpa using e4)
theorem EI.freeze {i:Nat}{c:D}(I:EI io H0 F0 F δ σ H)(e:δ[i]? = some (.ob false c)):∃F' a,Same F F'/\EI io H0 F0 F' (δ.set i (.fz c)) σ H/\σ.getD i none=some (.ref a)/\Rep F' c (.ref a):=by
 obtain⟨a,e1,h1,h2,h3,_⟩:=I.get i _ e;obtain⟨o,ho,hr⟩:=h3.rep h2;have hs:Same F (upd F a o):=Same.of_new h2;refine⟨upd F a o,a,hs,⟨I.base,fun b u eb=>?_,I.ext.trans hs,fun b u eb hb=>?_,by simp[I.len],fun j s ej=>?_,fun j k b c1 b' c' a' ne e1 e2 e3 e4=>?_⟩,e1,hr⟩
 ·by_cases hb:b=a
  ·subst hb;rw[z0h]at eb;cases eb;exact ho
  ·rw[wa hb]at eb;exact I.sub b u eb
 ·by_cases hb':b=a
  ·subst hb';exact h1
  ·rw[wa hb']at eb;exact I.new b u eb hb
 ·rw[getElem?_set]at ej;split at ej
  ·rename_i hij;subst hij;split at ej
   ·cases ej;exact⟨_,e1,hr⟩
   ·cases ej
  ·rename_i hij;refine(I.get j s ej).mono hs fun a' b' c' es eo=>?_;subst es;obtain⟨a'',q1,q2,q3,q4,_⟩:=I.get j _ ej;rw[eo]at q1;cases q1;refine⟨?_,fun u hu=>hu⟩;rw[wa]
   ·exact q3
   ·rintro rfl;exact I.apart i j _ _ _ _ _ hij e ej e1 eo
 ·rw[getElem?_set]at e1 e2;split at e1
  ·split at e1<;>cases e1
  ·split at e2
   ·split at e2<;>cases e2
   ·exact I.apart j k b c1 b' c' a' ne e1 e2 e3 e4
theorem EI.fr {b:Bool}{d:D}{v:V}(I:EI (none::io) H0 F0 F (rsl b d::δ) (some v::σ) H):∃F',Same F F'/\EI io H0 F0 F' δ σ H/\Rep F' d v:=by
 cases b with
 |false =>
  obtain⟨v',e,r⟩:=I.get 0 _ rfl;simp at e;subst e;exact⟨F,Same.refl _,I.pop,r⟩
 |true =>
  obtain⟨F',a,hs,I',e,r⟩:=I.freeze (i:=0) (c:=d) rfl;simp at e;subst e;exact⟨F',hs,I'.pop,r⟩
noncomputable def peek (δ:List Slot)(i:Nat):Option D :=
 match δ[i]? with
 |some (.fz d)=>some d
 |some (.ob _ c)=>some c
 |_=>none
def Pk (F H:Hp)(d:D)(v:V):Prop:=Rep F d v \/ ∃a,v=.ref a/\Cont F H a d
theorem EI.pk {i:Nat}{d:D}(I:EI io H0 F0 F δ σ H)(e:peek δ i=some d):∃v,σ[i]? = some (some v)/\Pk F H d v:=by
 unfold peek at e;split at e
 ·rename_i d' h;cases e;obtain⟨v,e1,r⟩:=I.get i _ h;refine⟨v,?_,.inl r⟩;rw[getD_eq_getElem?_getD]at e1;cases q:σ[i]? with
  |none=>rw[q]at e1;cases e1
  |some o=>rw[q]at e1;simp at e1;rw[e1]
 ·rename_i b c h;cases e;obtain⟨a,e1,_,_,h3,_⟩:=I.get i _ h;refine⟨.ref a,?_,.inr ⟨a,rfl,h3⟩⟩;rw[getD_eq_getElem?_getD]at e1;cases q:σ[i]? with
  |none=>rw[q]at e1;cases e1
  |some o=>rw[q]at e1;simp at e1;rw[e1]
 ·cases e
theorem Pk.lst {ds:List D}{v:V}(I:EI io H0 F0 F δ σ H)(h:Pk F H (.lst ds) v):∃a vs,v=.ref a/\H a=some (.lst vs)/\Reps F ds vs:=by
 rcases h with ⟨a,vs,e,h1,h2⟩|⟨a,e,vs,h1,h2⟩
 ·exact⟨a,vs,e,I.sub _ _ h1,h2⟩
 ·exact⟨a,vs,e,h1,h2⟩
theorem Pk.tup {ds:List D}{v:V}(I:EI io H0 F0 F δ σ H)(h:Pk F H (.tup ds) v):∃a vs,v=.ref a/\H a=some (.tup vs)/\Reps F ds vs:=by
 rcases h with ⟨a,vs,e,h1,h2⟩|⟨a,e,h⟩
 ·exact⟨a,vs,e,I.sub _ _ h1,h2⟩
 ·exact h.elim
theorem Pk.dct {ds:List (Key×D)}{v:V}(I:EI io H0 F0 F δ σ H)(h:Pk F H (.dct ds) v):∃a vs,v=.ref a/\H a=some (.dK vs)/\RepK F ds vs:=by
 rcases h with ⟨a,vs,e,h1,h2⟩|⟨a,e,vs,h1,h2⟩
 ·exact⟨a,vs,e,I.sub _ _ h1,h2⟩
 ·exact⟨a,vs,e,h1,h2⟩
theorem Pk.int {i:Int}{v:V}(h:Pk F H (.int i) v):v=.int i:=by
 rcases h with h|⟨a,e,h⟩
 ·exact h
 ·exact h.elim
theorem Pk.str {x:Str}{v:V}(h:Pk F H (.str x) v):v=.str x:=by
 rcases h with h|⟨a,e,h⟩
 ·exact h
 ·exact h.elim
theorem Pk.bl {x:Bool}{v:V}(h:Pk F H (.bl x) v):v=.bl x:=by
 rcases h with h|⟨a,e,h⟩
 ·exact h
 ·exact h.elim
theorem Pk.non {v:V}(h:Pk F H .non v):v=.non:=by
 rcases h with h|⟨a,e,h⟩
 ·exact h
 ·exact h.elim
theorem EI.setv {i:Nat}{b:Bool}{d:D}{v:V}(I:EI (none::io) H0 F0 F (rsl b d::δ) (some v::σ) H)(hn:∀c,δ[i]? ≠ some (.ob true c))(hi:i<δ.length):EI io H0 F0 F (δ.set i (rsl b d)) (σ.set i (some v)) H:=by
 have J:=I.pop;refine⟨I.base,I.sub,I.ext,I.new,by simpa using J.len,fun j s e=>?_,fun j k b1 c1 b2 c2 a ne e1 e2 e3 e4=>?_⟩
 ·rw[getElem?_set]at e;split at e
  ·rename_i hij;subst hij;cases e;have hl:i<σ.length:=by rw[<-J.len];exact hi
   have h0:=I.get 0 _ rfl;simp[getD_eq_getElem?_getD,hl];cases b with
   |false=>obtain⟨v',e',r⟩:=h0;simp at e';subst e';exact⟨v,rfl,r⟩
   |true=>obtain⟨a,e',h1,h2,h3,h4⟩:=h0;simp at e';subst e';exact⟨a,rfl,h1,h2,h3,fun z=>by cases z⟩
  ·rename_i hij;have:=J.get j s e;simp only[getD_eq_getElem?_getD]at this ⊢;rw[getElem?_set_ne hij];exact this
 ·have hl:i<σ.length:=by rw[<-J.len];exact hi
  have key:∀{j:Nat}{b' c' b1 c1 a},j≠i->(rsl b d)=.ob b1 c1->δ[j]? = some (.ob b' c')->v=.ref a->σ.getD j none=some (.ref a)->False:=fun {j b' c' b1 c1 a} hj e1 e2 e3 e4 =>
   I.apart 0 (j+1) b1 c1 b' c' a (by omega) (by simp[e1]) (by simpa using e2) (by simp[e3]) (by simpa using e4)
  rw[getElem?_set]at e1 e2;rw[getD_eq_getElem?_getD,getElem?_set]at e3 e4;by_cases hj:i=j
  ·subst hj;by_cases hk:i=k
   ·exact ne hk
   ·rw[if_pos rfl,if_pos hi]at e1;rw[if_pos rfl,if_pos hl]at e3;rw[if_neg hk]at e2 e4;exact key (fun z=>hk z.symm) (Option.some.inj e1) e2 (by simpa using e3) (by simpa[getD_eq_getElem?_getD] using e4)
  ·rw[if_neg hj]at e1 e3;by_cases hk:i=k
   ·subst hk;rw[if_pos rfl,if_pos hi]at e2;rw[if_pos rfl,if_pos hl]at e4;exact key (fun z=>hj z.symm) (Option.some.inj e2) e1 (by simpa using e4) (by simpa[getD_eq_getElem?_getD] using e3)
   ·rw[if_neg hk]at e2 e4;exact J.apart j k b1 c1 b2 c2 a ne e1 e2 (by simpa[getD_eq_getElem?_getD] using e3) (by simpa[getD_eq_getElem?_getD] using e4)
theorem EI.forget {i:Nat}(I:EI io H0 F0 F δ σ H):EI io H0 F0 F (δ.set i .no) σ H:=by
 refine⟨I.base,I.sub,I.ext,I.new,by simpa using I.len,fun j s e=>?_,fun j k b1 c1 b2 c2 a ne e1 e2 e3 e4=>?_⟩
 ·rw[getElem?_set]at e;split at e
  ·split at e
   ·cases e;trivial
   ·cases e
  ·exact I.get j s e
 ·rw[getElem?_set]at e1 e2;split at e1
  ·split at e1<;>cases e1
  ·split at e2
   ·split at e2<;>cases e2
   ·exact I.apart j k b1 c1 b2 c2 a ne e1 e2 e3 e4
theorem EI.change {i:Nat}{b:Bool}{c c':D}{a:Addr}{o:HO}(I:EI io H0 F0 F δ σ H)(e:δ[i]? = some (.ob b c))(ea:σ.getD i none=some (.ref a))(hc:Cont F (upd H a o) a c'):EI io H0 F0 F (δ.set i (.ob b c')) σ (upd H a o):=by
 obtain⟨a',e1,h1,h2,h3,h4⟩:=I.get i _ e;rw[ea]at e1;cases e1;refine⟨I.base.upd h1,I.sub.upd h2,I.ext,I.new,by simpa using I.len,fun j s ej=>?_,fun j k b1 c1 b2 c2 a' ne e1 e2 e3 e4=>?_⟩
 ·rw[getElem?_set]at ej;split at ej
  ·rename_i hij;subst hij;split at ej
   ·cases ej;exact⟨a,ea,h1,h2,hc,h4⟩
   ·cases ej
  ·rename_i hij;refine(I.get j s ej).mono (Same.refl _) fun a' b' c' es eo=>?_;subst es;obtain⟨a'',q1,q2,q3,q4,_⟩:=I.get j _ ej;rw[eo]at q1;cases q1;refine⟨q3,fun u hu=>?_⟩;rw[wa]
   ·exact hu
   ·rintro rfl;exact I.apart i j _ _ _ _ _ hij e ej ea eo
 ·have key:∀{j:Nat}{b1:Bool}{c1:D},(δ.set i (.ob b c'))[j]? = some (Slot.ob b1 c1)->∃b2 c2,δ[j]? = some (Slot.ob b2 c2):=fun {j b1 c1} h=>by
   rw[getElem?_set]at h;split at h
   ·rename_i hij;subst hij;exact⟨_,_,e⟩
   ·exact⟨_,_,h⟩
  obtain⟨b3,c3,q1⟩:=key e1;obtain⟨b4,c4,q2⟩:=key e2;exact I.apart j k _ _ _ _ a' ne q1 q2 e3 e4
abbrev TEd:=List Slot->(Bool->D->List Slot->Prop)->Prop
abbrev TTd:=List Slot->(Bool->List Slot->Prop)->Prop
abbrev TLd:=List Slot->(List D->List Slot->Prop)->Prop
structure EndsD where
 nx:List Slot->Prop
 rt:Bool->D->List Slot->Prop
 bk:List Slot->Prop:=fun _=>False
 ct:List Slot->Prop:=fun _=>False
abbrev TSd:=EndsD->List Slot->Prop
abbrev TGd:=D->List Slot->(List Slot->Prop)->Prop
def Sim (te:TE)(td:TEd):Prop:=∀(io:List (Option Addr))(H0 F0 F:Hp)(δ:List Slot)(σ:St)(H:Hp)(Q:VK)(Qd:Bool->D->List Slot->Prop),EI io H0 F0 F δ σ H->td δ Qd ->
 (∀b d v δ' F' H',Same F F'->EI (none::io) H0 F0 F' (rsl b d::δ') (some v::σ) H'->Qd b d δ'->Q v H')->te σ H Q
def SimT (te:TT)(td:TTd):Prop:=∀(io:List (Option Addr))(H0 F0 F:Hp)(δ:List Slot)(σ:St)(H:Hp)(Q:Bool->Hp->Prop)(Qd:Bool->List Slot->Prop),EI io H0 F0 F δ σ H->td δ Qd ->
 (∀b δ' F' H',Same F F'->EI io H0 F0 F' δ' σ H'->Qd b δ'->Q b H')->te σ H Q
def SimL (te:TA)(td:TLd):Prop:=∀(io:List (Option Addr))(H0 F0 F:Hp)(δ:List Slot)(σ:St)(H:Hp)(Q:List V->Hp->Prop)(Qd:List D->List Slot->Prop),EI io H0 F0 F δ σ H->td δ Qd ->
 (∀ds vs δ' F' H',Same F F'->EI io H0 F0 F' δ' σ H'->Reps F' ds vs->Qd ds δ'->Q vs H')->te σ H Q
def SimG (g:TG)(gd:TGd):Prop:=∀(io:List (Option Addr))(H0 F0 F:Hp)(δ:List Slot)(σ:St)(H:Hp)(d:D)(v:V)(Q:St->Hp->Prop)(Qd:List Slot->Prop),EI io H0 F0 F δ σ H->Rep F d v->gd d δ Qd ->
 (∀δ' σ',EI io H0 F0 F δ' σ' H->Qd δ'->Q σ' H)->g v σ H Q
structure ESim (io:List (Option Addr))(H0 F0 F:Hp)(Ed:EndsD)(E:Ends):Prop where
 nx:∀F' δ' σ' H',Same F F'->EI io H0 F0 F' δ' σ' H'->Ed.nx δ'->E.nx σ' H'
 rt:∀b d v F' δ' σ' H',Same F F'->EI (none::io) H0 F0 F' (rsl b d::δ') (some v::σ') H'->Ed.rt b d δ'->E.rt v H'
 bk:∀F' δ' σ' H',Same F F'->EI io H0 F0 F' δ' σ' H'->Ed.bk δ'->E.bk σ' H'
 ct:∀F' δ' σ' H',Same F F'->EI io H0 F0 F' δ' σ' H'->Ed.ct δ'->E.ct σ' H'
theorem ESim.mono {io:List (Option Addr)}{H0 F0 F F1:Hp}{Ed:EndsD}{E:Ends}(s:Same F F1)(h:ESim io H0 F0 F Ed E):ESim io H0 F0 F1 Ed E :=
 ⟨fun F' δ' σ' H' q=>h.nx F' δ' σ' H' (s.trans q),fun b d v F' δ' σ' H' q=>h.rt b d v F' δ' σ' H' (s.trans q),fun F' δ' σ' H' q=>h.bk F' δ' σ' H' (s.trans q),fun F' δ' σ' H' q=>h.ct F' δ' σ' H' (s.trans q)⟩
def SimS (t:TS)(td:TSd):Prop:=∀(io:List (Option Addr))(H0 F0 F:Hp)(δ:List Slot)(σ:St)(H:Hp)(E:Ends)(Ed:EndsD),EI io H0 F0 F δ σ H->td Ed δ->ESim io H0 F0 F Ed E->t E σ H
def DE (X:Cx)(e:Expr)(td:TEd):Prop:=∃te,PE X e te/\Sim te td
def DT (X:Cx)(e:Expr)(td:TTd):Prop:=∃te,PT X e te/\SimT te td
def DW (X:Cx)(e:Expr)(td:TTd):Prop:=∃te,PW X e te/\SimT te td
def DL (X:Cx)(es:List Expr)(td:TLd):Prop:=∃te,PA X es te/\SimL te td
def DG (X:Cx)(e:Expr)(gd:TGd):Prop:=∃g,PG X e g/\SimG g gd
def DS (X:Cx)(s:Stmt)(td:TSd):Prop:=∃t,PS X s t/\SimS t td
def DSs (X:Cx)(s:List Stmt)(td:TSd):Prop:=∃t,PSs X s t/\SimS t td
theorem Sim.fz {te:TE}{td:TEd}(s:Sim te td){Q:VK}{Qd:D->List Slot->Prop}(I:EI io H0 F0 F δ σ H)(h:td δ fun _ d δ'=>Qd d δ')
  (k:∀d v δ' F' H',Same F F'->EI io H0 F0 F' δ' σ H'->Rep F' d v->Qd d δ'->Q v H'):te σ H Q :=
 s io H0 F0 F δ σ H Q _ I h fun b d v δ' F' H' sf I' q=>by
  obtain⟨F2,s2,I2,r⟩:=I'.fr;exact k d v δ' F2 H' (sf.trans s2) I2 r q
theorem Uc {o:V}{i:Nat}(h:σ.getD i none=some o):σ[i]? = some (some o):=by
 rw[getD_eq_getElem?_getD]at h;cases q:σ[i]? with
 |none=>rw[q]at h;cases h
 |some z=>rw[q]at h;simp at h;rw[h]
def dC (d:D):TEd:=fun δ Q=>Q false d δ
theorem dg {d:D}{v:V}(h:∀F,Rep F d v):Sim (tC v) (dC d):=fun io H0 F0 F δ σ H Q Qd I q k=>k false d v δ F H (Same.refl _) (I.pushF (h F)) q
def dVar (i:Nat):TEd:=fun δ Q =>
 match δ[i]? with
 |some (.fz d)=>Q false d δ
 |some (.ob false c)=>Q false c (δ.set i (.fz c))
 |_=>False
def dMv (i:Nat):TEd:=fun δ Q =>
 match δ[i]? with
 |some (.fz d)=>Q false d δ
 |some (.ob false c)=>Q true c (δ.set i .no)
 |_=>False
theorem j3s (i:Nat):Sim (tVar i) (dVar i):=by
 intro io H0 F0 F δ σ H Q Qd I q k;unfold dVar at q;split at q
 ·rename_i d h;obtain⟨v,e,r⟩:=I.get i _ h;exact⟨v,Uc e,k false d v δ F H (Same.refl _) (I.pushF r) q⟩
 ·rename_i c h;obtain⟨F',a,sf,I',e,r⟩:=I.freeze h;exact⟨.ref a,Uc e,k false c (.ref a) _ F' H sf (I'.pushF r) q⟩
 ·exact q.elim
theorem j9r (i:Nat):Sim (tVar i) (dMv i):=by
 intro io H0 F0 F δ σ H Q Qd I q k;unfold dMv at q;split at q
 ·rename_i d h;obtain⟨v,e,r⟩:=I.get i _ h;exact⟨v,Uc e,k false d v δ F H (Same.refl _) (I.pushF r) q⟩
 ·rename_i c h;obtain⟨a,e,h1,h2,h3,h4⟩:=I.get i _ h;refine⟨.ref a,Uc e,k true c (.ref a) _ F H (Same.refl _) (I.forget.push ⟨a,rfl,h1,h2,h3,fun z=>by cases z⟩ ?_) q⟩;intro b c' a' es ev j b2 c2 ej eo;cases ev;rw[getElem?_set]at ej;split at ej
  ·split at ej<;>cases ej
  ·rename_i hij;exact I.apart i j _ _ _ _ a hij h ej e eo
 ·exact q.elim
variable {X:Cx}{pos:Pos}
theorem ia {i j pos}:DE X (.Constant (.int i) j pos) (dC (.int i)):=⟨_,Ub,dg fun _=>rfl⟩
theorem Je {b j pos}:DE X (.Constant (.bool b) j pos) (dC (.bl b)):=⟨_,Yf,dg fun _=>rfl⟩
theorem Ac {j pos}:DE X (.Constant .none j pos) (dC .non):=⟨_,wd,dg fun _=>rfl⟩
theorem qa {x j pos}:DE X (.Constant (.str x) j pos) (dC (.str x)):=⟨_,Gb,dg fun _=>rfl⟩
theorem dv (i:Nat){x:Str}{pos:Pos}(hN:X.N[i]? = some x:=by rfl)(hv:Vis X.env.scope x:=by first|exact Or.inl rfl|exact Or.inr (Or.inl rfl)|exact Or.inr (Or.inr rfl))(hd:(x == ("__debug__":Str))=false:=by decide)
  (hcd:(x == ("__classdict__":Str))=false:=by decide):DE X (.Name x pos) (dVar i):=⟨_,mf hN hv hd hcd,j3s i⟩
theorem dm (i:Nat){x:Str}{pos:Pos}(hN:X.N[i]? = some x:=by rfl)(hv:Vis X.env.scope x:=by first|exact Or.inl rfl|exact Or.inr (Or.inl rfl)|exact Or.inr (Or.inr rfl))(hd:(x == ("__debug__":Str))=false:=by decide)
  (hcd:(x == ("__classdict__":Str))=false:=by decide):DE X (.Name x pos) (dMv i):=⟨_,mf hN hv hd hcd,j9r i⟩
theorem Ap {x:Str}{d:D}{v:V}{u:Value}{pos:Pos}(hs:∀F,Rep F d v)(hg:Gl X x)(hm:X.mg x=some u)(r:RelV v u)(hd:(x == ("__debug__":Str))=false:=by decide):DE X (.Name x pos) (dC d):=⟨_,tf hg hm r hd,dg hs⟩
theorem Hc {x:Str}{n:String}{pos:Pos}(hg:Gl X x)(hm:X.mg x=none)(hv:bootBuiltins x=some (.type n))(hn:x ≠ "__name__":=by decide)(hd:(x == ("__debug__":Str))=false:=by decide):DE X (.Name x pos) (dC (.ty n)):=⟨_,Yj (v:=.ty n) hg hm hv rfl hn hd,dg fun _=>rfl⟩
def OpS (r:R2)(f:D->D->(Bool->D->Prop)->Prop):Prop:=∀(io:List (Option Addr))(H0 F0 F:Hp)(δ:List Slot)(σ:St)(H:Hp)(x y:D)(v u:V)(Q:VK)(Qd:Bool->D->Prop),EI io H0 F0 F δ σ H->Pk F H x v->Pk F H y u->f x y Qd ->
 (∀b d w F' H',Same F F'->EI (none::io) H0 F0 F' (rsl b d::δ) (some w::σ) H'->Qd b d->Q w H')->r v u H Q
def dOp (f:D->D->(Bool->D->Prop)->Prop)(da db:TEd):TEd:=fun δ Q=>da δ fun _ x δ1=>db δ1 fun _ y δ2=>f x y fun b d=>Q b d δ2
def dOpV (f:D->D->(Bool->D->Prop)->Prop)(i:Nat)(db:TEd):TEd:=fun δ Q=>(peek δ i).isSome=true/\db δ fun _ y δ2=>∃x,peek δ2 i=some x/\f x y fun b d=>Q b d δ2
def dOpW (f:D->D->(Bool->D->Prop)->Prop)(da:TEd)(j:Nat):TEd:=fun δ Q=>da δ fun _ x δ1=>∃y,peek δ1 j=some y/\f x y fun b d=>Q b d δ1
theorem Ii {r:R2}{f:D->D->(Bool->D->Prop)->Prop}{ta tb:TE}{da db:TEd}(hs:OpS r f)(sa:Sim ta da)(sb:Sim tb db):Sim (tOp r ta tb) (dOp f da db):=by
 intro io H0 F0 F δ σ H Q Qd I q k;refine sa.fz I q fun x v δ1 F1 H1 s1 I1 r1 q1=>sb.fz I1 q1 fun y u δ2 F2 H2 s2 I2 r2 q2=>?_;exact hs io H0 F0 F2 δ2 σ H2 x y v u Q _ I2 (.inl (Rep.mono s2 _ _ r1)) (.inl r2) q2 fun b d w F' H' s' I' z=>k b d w δ2 F' H' ((s1.trans s2).trans s') I' z
theorem Gk {r:R2}{f:D->D->(Bool->D->Prop)->Prop}{tb:TE}{i:Nat}{db:TEd}(hs:OpS r f)(sb:Sim tb db):Sim (tOp r (tVar i) tb) (dOpV f i db):=by
 intro io H0 F0 F δ σ H Q Qd I q k;obtain⟨p0,q⟩:=q;obtain⟨d0,e0⟩:=isSome_iff_exists.mp p0;obtain⟨v0,ev,_⟩:=I.pk e0;refine⟨v0,ev,?_⟩;refine sb.fz I q fun y u δ2 F2 H2 s2 I2 r2 q2=>?_;obtain⟨x,ex,q2⟩:=q2;obtain⟨v,ev',pv⟩:=I2.pk ex;rw[ev]at ev';cases ev';exact hs io H0 F0 F2 δ2 σ H2 x y _ u Q _ I2 pv (.inl r2) q2 fun b d w F' H' s' I' z=>k b d w δ2 F' H' (s2.trans s') I' z
theorem q9j {r:R2}{f:D->D->(Bool->D->Prop)->Prop}{ta:TE}{j:Nat}{da:TEd}(hs:OpS r f)(sa:Sim ta da):Sim (tOp r ta (tVar j)) (dOpW f da j):=by
 intro io H0 F0 F δ σ H Q Qd I q k;refine sa.fz I q fun x v δ1 F1 H1 s1 I1 r1 q1=>?_;obtain⟨y,ey,q1⟩:=q1;obtain⟨u,eu,pu⟩:=I1.pk ey;exact⟨u,eu,hs io H0 F0 F1 δ1 σ H1 x y v u Q _ I1 (.inl r1) pu q1 fun b d w F' H' s' I' z=>k b d w δ1 F' H' (s1.trans s') I' z⟩
variable {a b:Expr}{da db:TEd}{f:D->D->(Bool->D->Prop)->Prop}{r:R2}
theorem ja {op:Operator}(hs:OpS r f)(ho:OpR X (binaryOp op) r)(ha:DE X a da)(hb:DE X b db):DE X (.BinOp a op b pos) (dOp f da db):=by
 obtain⟨ta,pa,sa⟩:=ha;obtain⟨tb,pb,sb⟩:=hb;exact⟨_,wf ho pa pb,Ii hs sa sb⟩
theorem gg {op:CmpOp}(hs:OpS r f)(ho:OpR X (compareOp op) r)(ha:DE X a da)(hb:DE X b db)(hm:behindInMarks op b=false):DE X (.Compare a [op] [b] pos) (dOp f da db):=by
 obtain⟨ta,pa,sa⟩:=ha;obtain⟨tb,pb,sb⟩:=hb;exact⟨_,uo ho pa pb hm,Ii hs sa sb⟩
theorem Bp {op:CmpOp}{i:Nat}{x:Str}{p:Pos}(hs:OpS r f)(ho:OpR X (compareOp op) r)(ha:PE X (.Name x p) (tVar i))(hb:DE X b db)(hm:behindInMarks op b=false):DE X (.Compare (.Name x p) [op] [b] pos) (dOpV f i db):=by
 obtain⟨tb,pb,sb⟩:=hb;exact⟨_,uo ho ha pb hm,Gk hs sb⟩
theorem Ji (hs:OpS r f)(ho:IxR X r)(ha:DE X a da)(hb:DE X b db)(h:sk b):DE X (.Subscript a b pos) (dOp f da db):=by
 obtain⟨ta,pa,sa⟩:=ha;obtain⟨tb,pb,sb⟩:=hb;exact⟨_,bd ho pa pb h,Ii hs sa sb⟩
theorem Ha {i:Nat}{x:Str}{p:Pos}(hs:OpS r f)(ho:IxR X r)(ha:PE X (.Name x p) (tVar i))(hb:DE X b db)(h:sk b):DE X (.Subscript (.Name x p) b pos) (dOpV f i db):=by
 obtain⟨tb,pb,sb⟩:=hb;exact⟨_,bd ho ha pb h,Gk hs sb⟩
def fI (g:Int->Int->D):D->D->(Bool->D->Prop)->Prop:=fun x y Q=>∃i j,x=.int i/\y=.int j/\Q false (g i j)
def fIc (C:Int->Int->Prop)(g:Int->Int->D):D->D->(Bool->D->Prop)->Prop:=fun x y Q=>∃i j,x=.int i/\y=.int j/\C i j/\Q false (g i j)
theorem os_I {g:Int->Int->V}{g':Int->Int->D}(h:∀i j F,Rep F (g' i j) (g i j)):OpS (rI0 g) (fI g'):=by
 intro io H0 F0 F δ σ H x y v u Q Qd I px py q k;obtain⟨i,j,rfl,rfl,q⟩:=q;exact⟨i,j,px.int,py.int,k false _ _ F H (Same.refl _) (I.pushF (h i j F)) q⟩
theorem Hk {C:Int->Int->Prop}{g:Int->Int->V}{g':Int->Int->D}(h:∀i j F,Rep F (g' i j) (g i j)):OpS (rI C g) (fIc C g'):=by
 intro io H0 F0 F δ σ H x y v u Q Qd I px py q k;obtain⟨i,j,rfl,rfl,c,q⟩:=q;exact⟨i,j,px.int,py.int,c,k false _ _ F H (Same.refl _) (I.pushF (h i j F)) q⟩
theorem EI.pS {x:Str}(I:EI io H0 F0 F δ σ H):EI (none::io) H0 F0 F (rsl false (.str x)::δ) (some (.str x)::σ) H:=I.pushF rfl
theorem EI.pI {x:Int}(I:EI io H0 F0 F δ σ H):EI (none::io) H0 F0 F (rsl false (.int x)::δ) (some (.int x)::σ) H:=I.pushF rfl
theorem EI.pB {x:Bool}(I:EI io H0 F0 F δ σ H):EI (none::io) H0 F0 F (rsl false (.bl x)::δ) (some (.bl x)::σ) H:=I.pushF rfl
theorem EI.pN (I:EI io H0 F0 F δ σ H):EI (none::io) H0 F0 F (rsl false .non::δ) (some .non::σ) H:=I.pushF rfl
theorem La:OpS (rI0 fun i j=>.int (i+j)) (fI fun i j=>.int (i+j)):=os_I fun _ _ _=>rfl
theorem j7n:OpS (rI0 fun i j=>.int (i - j)) (fI fun i j=>.int (i - j)):=os_I fun _ _ _=>rfl
theorem Ke:OpS (rI CMul fun i j=>.int (i * j)) (fIc CMul fun i j=>.int (i * j)):=Hk fun _ _ _=>rfl
theorem Xa:OpS (rI (fun _ j=>0<j) fun i j=>.int (i % j)) (fIc (fun _ j=>0<j) fun i j=>.int (i % j)):=Hk fun _ _ _=>rfl
theorem Pc:OpS (rI (fun _ j=>0<j/\j.natAbs.log2<9000) fun i j=>.int (i / j)) (fIc (fun _ j=>0<j/\j.natAbs.log2<9000) fun i j=>.int (i / j)):=Hk fun _ _ _=>rfl
theorem dh:OpS (rI0 fun i j=>.bl (decide (i<j))) (fI fun i j=>.bl (decide (i<j))):=os_I fun _ _ _=>rfl
theorem Ep:OpS (rI0 fun i j=>.bl (decide (j<i))) (fI fun i j=>.bl (decide (j<i))):=os_I fun _ _ _=>rfl
theorem os_ge:OpS (rI0 fun i j=>.bl (decide (j<=i))) (fI fun i j=>.bl (decide (j<=i))):=os_I fun _ _ _=>rfl
noncomputable def sEq:D->D->Option Bool
 |.int i,.int j=>some (decide (i=j))
 |.str i,.str j=>some (decide (i=j))
 |.bl i,.bl j=>some (decide (i=j))
 |.non,.non=>some true
 |.non,.int _=>some false | .int _,.non=>some false | .non,.str _=>some false | .str _,.non=>some false | .non,.bl _=>some false | .bl _,.non=>some false
 |.int _,.str _=>some false | .str _,.int _=>some false | .bl _,.str _=>some false | .str _,.bl _=>some false
 |_,_=>none
def fEq:D->D->(Bool->D->Prop)->Prop:=fun x y Q=>∃b,sEq x y=some b/\Q false (.bl b)
def fNe:D->D->(Bool->D->Prop)->Prop:=fun x y Q=>∃b,sEq x y=some b/\Q false (.bl (!b))
theorem Fp {F H:Hp}{x y:D}{v u:V}{b:Bool}(px:Pk F H x v)(py:Pk F H y u)(h:sEq x y=some b):scal v u=true/\decide (v=u)=b:=by
 cases x<;>cases y<;>first
  |(have e1:=px.int;have e2:=py.int;subst e1 e2;cases h;exact⟨rfl,by simp⟩)
  |(have e1:=px.str;have e2:=py.str;subst e1 e2;cases h;exact⟨rfl,by simp⟩)
  |(have e1:=px.bl;have e2:=py.bl;subst e1 e2;cases h;exact⟨rfl,by simp⟩)
  |(have e1:=px.non;have e2:=py.non;subst e1 e2;cases h;exact⟨rfl,by simp⟩)
  |(have e1:=px.non;have e2:=py.int;subst e1 e2;cases h;exact⟨rfl,by simp⟩)
  |(have e1:=px.int;have e2:=py.non;subst e1 e2;cases h;exact⟨rfl,by simp⟩)
  |(have e1:=px.non;have e2:=py.str;subst e1 e2;cases h;exact⟨rfl,by simp⟩)
  |(have e1:=px.str;have e2:=py.non;subst e1 e2;cases h;exact⟨rfl,by simp⟩)
  |(have e1:=px.non;have e2:=py.bl;subst e1 e2;cases h;exact⟨rfl,by simp⟩)
  |(have e1:=px.bl;have e2:=py.non;subst e1 e2;cases h;exact⟨rfl,by simp⟩)
  |(have e1:=px.int;have e2:=py.str;subst e1 e2;cases h;exact⟨rfl,by simp⟩)
  |(have e1:=px.str;have e2:=py.int;subst e1 e2;cases h;exact⟨rfl,by simp⟩)
  |(have e1:=px.bl;have e2:=py.str;subst e1 e2;cases h;exact⟨rfl,by simp⟩)
  |(have e1:=px.str;have e2:=py.bl;subst e1 e2;cases h;exact⟨rfl,by simp⟩)
  |(cases h)
theorem cb:OpS rEq fEq:=by
 intro io H0 F0 F δ σ H x y v u Q Qd I px py q k;obtain⟨b,e,q⟩:=q;obtain⟨h1,h2⟩:=Fp px py e;refine⟨h1,k false (.bl b) _ F H (Same.refl _) (I.pushF ?_) q⟩;rw[h2];rfl
theorem Vc:OpS rNe fNe:=by
 intro io H0 F0 F δ σ H x y v u Q Qd I px py q k;obtain⟨b,e,q⟩:=q;obtain⟨h1,h2⟩:=Fp px py e;refine⟨h1,k false (.bl (!b)) _ F H (Same.refl _) (I.pushF ?_) q⟩;rw[h2];rfl
def isNon:D->Bool
 |.non=>true
 |_=>false
theorem Rep.isNon {F H:Hp}{d:D}{v:V}(h:Pk F H d v):decide (v=.non)=VL.isNon d:=by
 rcases h with h|⟨a,rfl,h⟩
 ·cases d with
  |non=>cases(show v=.non from h);rfl
  |bl b=>cases(show v=.bl b from h);rfl
  |int b=>cases(show v=.int b from h);rfl
  |str b=>cases(show v=.str b from h);rfl
  |ty b=>cases(show v=.ty b from h);rfl
  |lst ds=>obtain⟨a,vs,rfl,_⟩:=h;rfl
  |tup ds=>obtain⟨a,vs,rfl,_⟩:=h;rfl
  |dct ds=>obtain⟨a,vs,rfl,_⟩:=h;rfl
 ·cases d with
  |lst ds=>rfl
  |dct ds=>rfl
  |_=>exact h.elim
def fIsN:D->D->(Bool->D->Prop)->Prop:=fun x y Q=>y=.non/\Q false (.bl (isNon x))
theorem ig:OpS (fun x y H Q=>y=.non/\Q (.bl (decide (x=.non))) H) fIsN:=by
 intro io H0 F0 F δ σ H x y v u Q Qd I px py q k;obtain⟨rfl,q⟩:=q;refine⟨py.non,k false _ _ F H (Same.refl _) (I.pushF ?_) q⟩;rw[Rep.isNon px];rfl
def Ik:D->D->(Bool->D->Prop)->Prop:=fun x y Q=>∃i j,x=.str i/\y=.str j/\i.length+j.length<=sizeLine/\Q false (.str (i++j))
theorem Db:OpS (fun x y H Q=>∃i j,x=.str i/\y=.str j/\i.length+j.length<=sizeLine/\Q (.str (i++j)) H) Ik:=by
 intro io H0 F0 F δ σ H x y v u Q Qd I px py q k;obtain⟨i,j,rfl,rfl,h,q⟩:=q;exact⟨i,j,px.str,py.str,h,k false _ _ F H (Same.refl _) I.pS q⟩
theorem EI.newL {io:List (Option Addr)}{H0 F0 F:Hp}{δ:List Slot}{σ:St}{H:Hp}{p:Addr}{ds:List D}{vs:List V}(I:EI io H0 F0 F δ σ H)(hp:H p=none)(r:Reps F ds vs):EI (none::io) H0 F0 F (rsl true (.lst ds)::δ) (some (.ref p)::σ) (upd H p (.lst vs)):=by
 refine(I.alloc hp).push ⟨p,rfl,I.base.free hp,I.sub.free hp,⟨vs,z0h,r⟩,fun z=>by cases z⟩ fun b c a es ev j b' c' ej eo=>?_;cases ev;obtain⟨a',e1,_,_,h3,_⟩:=I.get j _ ej;rw[eo]at e1;cases e1;obtain⟨u,hu⟩:=h3.some;rw[hp]at hu;cases hu
theorem EI.newD {io:List (Option Addr)}{H0 F0 F:Hp}{δ:List Slot}{σ:St}{H:Hp}{p:Addr}{ds:List (Key×D)}{vs:List (Key×V)}(I:EI io H0 F0 F δ σ H)(hp:H p=none)(r:RepK F ds vs):EI (none::io) H0 F0 F (rsl true (.dct ds)::δ) (some (.ref p)::σ) (upd H p (.dK vs)):=by
 refine(I.alloc hp).push ⟨p,rfl,I.base.free hp,I.sub.free hp,⟨vs,z0h,r⟩,fun z=>by cases z⟩ fun b c a es ev j b' c' ej eo=>?_;cases ev;obtain⟨a',e1,_,_,h3,_⟩:=I.get j _ ej;rw[eo]at e1;cases e1;obtain⟨u,hu⟩:=h3.some;rw[hp]at hu;cases hu
theorem EI.newT {io:List (Option Addr)}{H0 F0 F:Hp}{δ:List Slot}{σ:St}{H:Hp}{p:Addr}{ds:List D}{vs:List V}(I:EI io H0 F0 F δ σ H)(hp:H p=none)(r:Reps F ds vs):∃F',Same F F'/\EI io H0 F0 F' δ σ (upd H p (.tup vs))/\Rep F' (.tup ds) (.ref p) :=
 ⟨upd F p (.tup vs),Same.of_new (I.sub.free hp),I.allocF hp,p,vs,rfl,z0h,Reps.mono (Same.of_new (I.sub.free hp)) _ _ r⟩
def fCat:D->D->(Bool->D->Prop)->Prop:=fun x y Q=>∃xs ys,x=.lst xs/\y=.lst ys/\xs.length+ys.length<=sizeLine/\Q true (.lst (xs++ys))
theorem Zb:OpS rCat fCat:=by
 intro io H0 F0 F δ σ H x y v u Q Qd I px py q k;obtain⟨xs,ys,rfl,rfl,hl,q⟩:=q;obtain⟨a,vs,rfl,h1,r1⟩:=px.lst I;obtain⟨b,us,rfl,h2,r2⟩:=py.lst I;exact⟨a,b,vs,us,rfl,rfl,h1,h2,by rw[<-r1.len,<-r2.len];exact hl,fun p hp=>k true _ _ F _ (Same.refl _) (I.newL hp (r1.app r2)) q⟩
def fIxL:D->D->(Bool->D->Prop)->Prop:=fun x y Q=>∃xs i d,x=.lst xs/\y=.int i/\atI xs i=some d/\Q false d
def fIxT:D->D->(Bool->D->Prop)->Prop:=fun x y Q=>∃xs i d,x=.tup xs/\y=.int i/\atI xs i=some d/\Q false d
def fIxS:D->D->(Bool->D->Prop)->Prop:=fun x y Q=>∃z i c,x=.str z/\y=.int i/\z.length<=sizeLine/\atI z.cps.toList i=some c/\Q false (.str ⟨#[c]⟩)
theorem Reps.atI {F:Hp}{ds:List D}{vs:List V}{i:Int}{d:D}(r:Reps F ds vs)(h:atI ds i=some d):∃v,L2.atI vs i=some v/\Rep F d v:=by
 unfold L2.atI at h ⊢;rw[<-r.len];cases e:ixN ds.length i with
 |none=>rw[e]at h;cases h
 |some j=>rw[e]at h;exact r.get h
theorem ub:OpS (fun x y H Q=>∃p i,x=.ref p/\y=.int i/\∃xs,H p=some (.lst xs)/\∃v,atI xs i=some v/\Q v H) fIxL:=by
 intro io H0 F0 F δ σ H x y v u Q Qd I px py q k;obtain⟨xs,i,d,rfl,rfl,h,q⟩:=q;obtain⟨a,vs,rfl,h1,r1⟩:=px.lst I;obtain⟨w,e,r⟩:=r1.atI h;exact⟨a,i,rfl,py.int,vs,h1,w,e,k false d w F H (Same.refl _) (I.pushF r) q⟩
theorem Eb:OpS (fun x y H Q=>∃p i,x=.ref p/\y=.int i/\∃xs,H p=some (.tup xs)/\∃v,atI xs i=some v/\Q v H) fIxT:=by
 intro io H0 F0 F δ σ H x y v u Q Qd I px py q k;obtain⟨xs,i,d,rfl,rfl,h,q⟩:=q;obtain⟨a,vs,rfl,h1,r1⟩:=px.tup I;obtain⟨w,e,r⟩:=r1.atI h;exact⟨a,i,rfl,py.int,vs,h1,w,e,k false d w F H (Same.refl _) (I.pushF r) q⟩
theorem Af:OpS rIxS fIxS:=by
 intro io H0 F0 F δ σ H x y v u Q Qd I px py q k;obtain⟨z,i,c,rfl,rfl,hl,h,q⟩:=q;exact⟨z,i,c,px.str,py.int,hl,h,k false _ _ F H (Same.refl _) I.pS q⟩
mutual
noncomputable def eqb:D->Bool
 |.int _=>true
 |.str _=>true
 |.lst xs=>eqbL xs
 |.tup xs=>eqbL xs
 |_=>false
noncomputable def eqbL:List D->Bool
 | []=>true
 |d::r=>eqb d&&eqbL r
end
mutual
noncomputable def dep:D->Nat
 |.lst xs=>depL xs+1
 |.tup xs=>depL xs+1
 |_=>0
noncomputable def depL:List D->Nat
 | []=>0
 |d::r=>max (dep d) (depL r)
end
mutual
theorem j6w {F H:Hp}(s:Same F H):∀(d:D)(n:Nat)(v u:V),eqb d=true->dep d<=n->Rep F d v->Rep F d u->EqT H n v u
 |.int i,n,v,u,_,_,h1,h2=>by cases(show v=.int i from h1);cases(show u=.int i from h2);exact .int i
 |.str i,n,v,u,_,_,h1,h2=>by cases(show v=.str i from h1);cases(show u=.str i from h2);exact .str i
 |.lst ds,0,v,u,_,h,h1,h2=>by simp[dep]at h
 |.lst ds,n+1,v,u,he,hn,h1,h2=>by
  obtain⟨a,vs,rfl,e1,r1⟩:=h1;obtain⟨b,us,rfl,e2,r2⟩:=h2;exact .lst (s _ _ e1) (s _ _ e2) (by rw[<-r1.len,<-r2.len]) (eh s ds n vs us (by simpa[eqb] using he) (by simp[dep]at hn;omega) r1 r2)
 |.tup ds,0,v,u,_,h,h1,h2=>by simp[dep]at h
 |.tup ds,n+1,v,u,he,hn,h1,h2=>by
  obtain⟨a,vs,rfl,e1,r1⟩:=h1;obtain⟨b,us,rfl,e2,r2⟩:=h2;exact .tup (s _ _ e1) (s _ _ e2) (by rw[<-r1.len,<-r2.len]) (eh s ds n vs us (by simpa[eqb] using he) (by simp[dep]at hn;omega) r1 r2)
 |.non,n,v,u,h,_,h1,h2=>by simp[eqb]at h
 |.bl _,n,v,u,h,_,h1,h2=>by simp[eqb]at h
 |.ty _,n,v,u,h,_,h1,h2=>by simp[eqb]at h
 |.dct _,n,v,u,h,_,h1,h2=>by simp[eqb]at h
theorem eh {F H:Hp}(s:Same F H):∀(ds:List D)(n:Nat)(vs us:List V),eqbL ds=true->depL ds<=n->Reps F ds vs->Reps F ds us->∀(i:Nat) x y,vs[i]? = some x->us[i]? = some y->EqT H n x y
 | [],n,vs,us,_,_,h1,h2,i,x,y,e1,e2=>by cases(show vs=[] from h1);simp at e1
 |d::ds,n,vs,us,he,hn,h1,h2,i,x,y,e1,e2=>by
  obtain⟨v,r,rfl,q1,r1⟩:=h1;obtain⟨u,r',rfl,q2,r2⟩:=h2;simp[eqbL]at he;simp[depL]at hn;cases i with
  |zero=>simp at e1 e2;subst e1 e2;exact j6w s d n v u he.1 (by omega) q1 q2
  |succ i=>exact eh s ds n r r' he.2 (by omega) r1 r2 i x y (by simpa using e1) (by simpa using e2)
end
def fEqL:D->D->(Bool->D->Prop)->Prop:=fun x y Q=>∃xs ys,x=.lst xs/\y=.lst ys/\((xs.length≠ys.length/\Q false (.bl false))\/(xs=ys/\eqbL xs=true/\depL xs<=90/\Q false (.bl true)))
def fNeL:D->D->(Bool->D->Prop)->Prop:=fun x y Q=>∃xs ys,x=.lst xs/\y=.lst ys/\((xs.length≠ys.length/\Q false (.bl true))\/(xs=ys/\eqbL xs=true/\depL xs<=90/\Q false (.bl false)))
theorem fh {X:Cx}(hu:X.A.units+100<cLine):OpS (fun x y H Q=>∃a b,x=.ref a/\y=.ref b/\∃xs,H a=some (.lst xs)/\∃ys,H b=some (.lst ys)/\X.A.units<cLine /\
  ((xs.length≠ys.length/\Q (.bl false) H)\/(xs.length=ys.length/\(∃n,(∀(i:Nat) x y,xs[i]? = some x->ys[i]? = some y->EqT H n x y)/\X.A.units+n+1<cLine)/\Q (.bl true) H))) fEqL:=by
 intro io H0 F0 F δ σ H x y v u Q Qd I px py q k;obtain⟨xs,ys,rfl,rfl,q⟩:=q;obtain⟨a,vs,rfl,h1,r1⟩:=px.lst I;obtain⟨b,us,rfl,h2,r2⟩:=py.lst I;refine⟨a,b,rfl,rfl,vs,h1,us,h2,by omega,?_⟩;rcases q with ⟨hl,q⟩|⟨rfl,he,hd,q⟩
 ·exact .inl ⟨by rw[<-r1.len,<-r2.len];exact hl,k false _ _ F H (Same.refl _) I.pB q⟩
 ·exact .inr ⟨by rw[<-r1.len,<-r2.len],⟨90,eh I.sub xs 90 vs us he hd r1 r2,by omega⟩,k false _ _ F H (Same.refl _) I.pB q⟩
theorem Gp {X:Cx}(hu:X.A.units+100<cLine):OpS (fun x y H Q=>∃a b,x=.ref a/\y=.ref b/\∃xs,H a=some (.lst xs)/\∃ys,H b=some (.lst ys)/\X.A.units<cLine /\
  ((xs.length≠ys.length/\Q (.bl true) H)\/(xs.length=ys.length/\(∃n,(∀(i:Nat) x y,xs[i]? = some x->ys[i]? = some y->EqT H n x y)/\X.A.units+n+1<cLine)/\Q (.bl false) H))) fNeL:=by
 intro io H0 F0 F δ σ H x y v u Q Qd I px py q k;obtain⟨xs,ys,rfl,rfl,q⟩:=q;obtain⟨a,vs,rfl,h1,r1⟩:=px.lst I;obtain⟨b,us,rfl,h2,r2⟩:=py.lst I;refine⟨a,b,rfl,rfl,vs,h1,us,h2,by omega,?_⟩;rcases q with ⟨hl,q⟩|⟨rfl,he,hd,q⟩
 ·exact .inl ⟨by rw[<-r1.len,<-r2.len];exact hl,k false _ _ F H (Same.refl _) I.pB q⟩
 ·exact .inr ⟨by rw[<-r1.len,<-r2.len],⟨90,eh I.sub xs 90 vs us he hd r1 r2,by omega⟩,k false _ _ F H (Same.refl _) I.pB q⟩
theorem Reps.strs {F:Hp}:∀{ks:List Str}{vs:List V},Reps F (ks.map D.str) vs->vs=ks.map V.str
 | [],vs,h=>h
 |k::ks,vs,h=>by obtain⟨v,r,rfl,h1,h2⟩:=h;rw[Reps.strs h2];cases(show v=.str k from h1);rfl
theorem Reps.bls {F:Hp}:∀{ks:List Bool}{vs:List V},Reps F (ks.map D.bl) vs->vs=ks.map V.bl
 | [],vs,h=>h
 |k::ks,vs,h=>by obtain⟨v,r,rfl,h1,h2⟩:=h;rw[Reps.bls h2];cases(show v=.bl k from h1);rfl
def fInL:D->D->(Bool->D->Prop)->Prop:=fun x y Q=>∃(k:Str)(ks:List Str),x=.str k/\y=.lst (ks.map .str)/\Q false (.bl (decide (k∈ks)))
def Ip:D->D->(Bool->D->Prop)->Prop:=fun x y Q=>∃(k:Str)(ks:List Str),x=.str k/\y=.lst (ks.map .str)/\Q false (.bl (!decide (k∈ks)))
theorem j8s:OpS (fun x y H Q=>∃p,y=.ref p/\∃xs,H p=some (.lst xs)/\Mb x=true/\xs.all Mb=true/\Q (.bl (inV x xs)) H) fInL:=by
 intro io H0 F0 F δ σ H x y v u Q Qd I px py q k;obtain⟨s,ks,rfl,rfl,q⟩:=q;obtain⟨b,us,rfl,h2,r2⟩:=py.lst I;cases px.str;cases r2.strs;refine⟨b,rfl,_,h2,rfl,Fk ks,k false _ _ F H (Same.refl _) (I.pushF ?_) q⟩;rw[Ek];rfl
theorem x6x:OpS (fun x y H Q=>∃p,y=.ref p/\∃xs,H p=some (.lst xs)/\Mb x=true/\xs.all Mb=true/\Q (.bl (!inV x xs)) H) Ip:=by
 intro io H0 F0 F δ σ H x y v u Q Qd I px py q k;obtain⟨s,ks,rfl,rfl,q⟩:=q;obtain⟨b,us,rfl,h2,r2⟩:=py.lst I;cases px.str;cases r2.strs;refine⟨b,rfl,_,h2,rfl,Fk ks,k false _ _ F H (Same.refl _) (I.pushF ?_) q⟩;rw[Ek];rfl
def fe (td:TEd):TTd:=fun δ Q=>td δ fun _ d δ'=>∃c,d=.bl c/\Q c δ'
theorem Jk {te:TE}{td:TEd}(s:Sim te td):SimT (tB te) (fe td):=by
 intro io H0 F0 F δ σ H Q Qd I q k;refine s.fz I q fun d v δ' F' H' sf I' r q'=>?_;obtain⟨c,rfl,q'⟩:=q';exact⟨c,r,k c δ' F' H' sf I' q'⟩
theorem Kk {te:TE}{td:TEd}(s:Sim te td):SimT (q2z te) (fe td):=Jk s
def dNot (t:TTd):TTd:=fun δ Q=>t δ fun c δ'=>Q (!c) δ'
def dAnd (t u:TTd):TTd:=fun δ Q=>t δ fun c δ'=>if c=true then u δ' Q else Q false δ'
def dOr (t u:TTd):TTd:=fun δ Q=>t δ fun c δ'=>if c=true then Q true δ' else u δ' Q
theorem q5u {t:TT}{td:TTd}(s:SimT t td):SimT (tNot t) (dNot td):=fun io H0 F0 F δ σ H Q Qd I q k =>
 s io H0 F0 F δ σ H _ _ I q fun b δ' F' H' sf I' q'=>k (!b) δ' F' H' sf I' q'
theorem q3k {t u:TT}{td ud:TTd}(s:SimT t td)(s':SimT u ud):SimT (tAnd t u) (dAnd td ud):=by
 intro io H0 F0 F δ σ H Q Qd I q k;refine s io H0 F0 F δ σ H _ _ I q fun b δ' F' H' sf I' q'=>?_;cases b with
 |true=>rw[if_pos rfl]at q' ⊢;exact s' io H0 F0 F' δ' σ H' _ _ I' q' fun b δ2 F2 H2 s2 I2 q2=>k b δ2 F2 H2 (sf.trans s2) I2 q2
 |false=>rw[if_neg Bool.false_ne_true]at q' ⊢;exact k false δ' F' H' sf I' q'
theorem j4t {t u:TT}{td ud:TTd}(s:SimT t td)(s':SimT u ud):SimT (tOr t u) (dOr td ud):=by
 intro io H0 F0 F δ σ H Q Qd I q k;refine s io H0 F0 F δ σ H _ _ I q fun b δ' F' H' sf I' q'=>?_;cases b with
 |false=>rw[if_neg Bool.false_ne_true]at q' ⊢;exact s' io H0 F0 F' δ' σ H' _ _ I' q' fun b δ2 F2 H2 s2 I2 q2=>k b δ2 F2 H2 (sf.trans s2) I2 q2
 |true=>rw[if_pos rfl]at q' ⊢;exact k true δ' F' H' sf I' q'
noncomputable def truD:D->Option Bool
 |.lst xs=>some (!xs.isEmpty)
 |.tup xs=>some (!xs.isEmpty)
 |.dct xs=>some (!xs.isEmpty)
 |.bl b=>some b
 |.int i=>some (i != 0)
 |.non=>some false
 |_=>none
theorem Reps.isEmpty {F:Hp}{ds:List D}{vs:List V}(h:Reps F ds vs):vs.isEmpty=ds.isEmpty:=by
 cases ds with
 |nil=>cases(show vs=[] from h);rfl
 |cons d ds=>obtain⟨v,r,rfl,_⟩:=h;rfl
theorem RepK.isEmpty {F:Hp}{ds:List (Key×D)}{vs:List (Key×V)}(h:RepK F ds vs):vs.isEmpty=ds.isEmpty:=by
 cases ds with
 |nil=>cases(show vs=[] from h);rfl
 |cons d ds=>obtain⟨v,r,rfl,_⟩:=h;rfl
theorem j3v {K:W.Frag}{io:List (Option Addr)}{H0 F0 F:Hp}{δ:List Slot}{σ:St}{H:Hp}{d:D}{v:V}{b:Bool}(I:EI io H0 F0 F δ σ H)(p:Pk F H d v)(h:truD d=some b):TruV K v H b:=by
 cases d with
 |lst xs =>
  obtain⟨a,vs,rfl,h1,r⟩:=p.lst I;cases h;exact .inl ⟨vs,SqL.of h1,by rw[r.isEmpty]⟩
 |tup xs =>
  obtain⟨a,vs,rfl,h1,r⟩:=p.tup I;cases h;exact .inr (.inl ⟨vs,SqT.of h1,by rw[r.isEmpty]⟩)
 |dct xs =>
  obtain⟨a,vs,rfl,h1,r⟩:=p.dct I;cases h;exact .inr (.inr ⟨vs,h1,by rw[r.isEmpty]⟩)
 |bl c=>cases p.bl;cases h;rfl
 |int c=>cases p.int;cases h;rfl
 |non=>cases p.non;cases h;rfl
 |str c=>cases h
 |ty c=>cases h
def Lk (i:Nat):TTd:=fun δ Q=>∃d c,peek δ i=some d/\truD d=some c/\Q c δ
variable {rest:List Expr}
theorem Vb (h:DE X a da)(he:∀whole,isTrue a X.env whole=(do let v <-whole;standAt a.pos;holding [v] (truthy v)):=by intro _;rfl):DT X a (fe da):=by
 obtain⟨ta,pa,sa⟩:=h;exact⟨_,qc pa he,Jk sa⟩
theorem Ga {op:CmpOp}(hs:OpS r f)(ho:OpR X (compareOp op) r)(ha:DE X a da)(hb:DE X b db)(hm:behindInMarks op b=false):DT X (.Compare a [op] [b] pos) (fe (dOp f da db)):=by
 obtain⟨ta,pa,sa⟩:=ha;obtain⟨tb,pb,sb⟩:=hb;exact⟨_,Ab ho pa pb hm,Kk (Ii hs sa sb)⟩
theorem gh {op:CmpOp}{i:Nat}{x:Str}{p:Pos}(hs:OpS r f)(ho:OpR X (compareOp op) r)(ha:PE X (.Name x p) (tVar i))(hb:DE X b db)(hm:behindInMarks op b=false):DT X (.Compare (.Name x p) [op] [b] pos) (fe (dOpV f i db)):=by
 obtain⟨tb,pb,sb⟩:=hb;exact⟨_,Ab ho ha pb hm,Kk (Gk hs sb)⟩
theorem j1i {op:CmpOp}{i:Nat}{x:Str}{p:Pos}(hs:OpS r f)(ho:OpR X (compareOp op) r)(ha:DE X a da)(hb:PE X (.Name x p) (tVar i))(hm:behindInMarks op (.Name x p)=false):DT X (.Compare a [op] [.Name x p] pos) (fe (dOpW f da i)):=by
 obtain⟨ta,pa,sa⟩:=ha;exact⟨_,Ab ho pa hb hm,Kk (q9j hs sa)⟩
theorem jg {t:TTd}(h:DT X a t):DT X (.UnaryOp .Not a pos) (dNot t):=by obtain⟨u,p,s⟩:=h;exact⟨_,qi p,q5u s⟩
theorem jh {t:TTd}(h:DT X a t):DW X (.BoolOp .And [a] pos) t:=by obtain⟨u,p,s⟩:=h;exact⟨_,ce p,s⟩
theorem je {t:TTd}(h:DT X a t):DW X (.BoolOp .Or [a] pos) t:=by obtain⟨u,p,s⟩:=h;exact⟨_,Zj p,s⟩
theorem kg {t u:TTd}(h:DT X a t)(h':DW X (.BoolOp .And (b::rest) pos) u):DW X (.BoolOp .And (a::b::rest) pos) (dAnd t u):=by
 obtain⟨t',p,s⟩:=h;obtain⟨u',p',s'⟩:=h';exact⟨_,Jd p p',q3k s s'⟩
theorem yd {t u:TTd}(h:DT X a t)(h':DW X (.BoolOp .Or (b::rest) pos) u):DW X (.BoolOp .Or (a::b::rest) pos) (dOr t u):=by
 obtain⟨t',p,s⟩:=h;obtain⟨u',p',s'⟩:=h';exact⟨_,Tg p p',j4t s s'⟩
theorem dt_w {t:TTd}(h:DW X a t):DT X a t:=by obtain⟨u,p,s⟩:=h;exact⟨_,p.pt,s⟩
theorem Nk {i:Nat}{x:Str}{p:Pos}(ha:PE X (.Name x p) (tVar i))(he:∀whole,isTrue (.Name x p) X.env whole=(do let v <-whole;standAt (Expr.Name x p).pos;holding [v] (truthy v)):=by intro _;rfl):DT X (.Name x p) (Lk i):=by
 refine⟨_,q2q ha he,fun io H0 F0 F δ σ H Q Qd I q k=>?_⟩;obtain⟨d,c,e,ec,q⟩:=q;obtain⟨v,ev,pk⟩:=I.pk e;exact⟨v,ev,c,j3v I pk ec,k c δ F H (Same.refl _) I q⟩
def Qk (ta tb:TEd):TEd:=fun δ Q=>ta δ fun _ x δ'=>∃c,x=.bl c/\if c=true then tb δ' Q else Q false (.bl false) δ'
def Rk (ta:TEd):TEd:=fun δ Q=>ta δ fun _ x δ'=>∃c,x=.bl c/\Q false (.bl (!c)) δ'
def dIf (t:TTd)(ta tb:TEd):TEd:=fun δ Q=>t δ fun c δ'=>if c=true then ta δ' Q else tb δ' Q
theorem Ki {op}(h:DE X a da):DE X (.BoolOp op [a] pos) da:=by obtain⟨t,p,s⟩:=h;exact⟨_,j6b p,s⟩
theorem kh (ha:DE X a da)(hb:DE X (.BoolOp .And (b::rest) pos) db):DE X (.BoolOp .And (a::b::rest) pos) (Qk da db):=by
 obtain⟨ta,pa,sa⟩:=ha;obtain⟨tb,pb,sb⟩:=hb;refine⟨_,j5u pa pb,fun io H0 F0 F δ σ H Q Qd I q k=>sa.fz I q fun d v δ' F' H' sf I' r q'=>?_⟩;obtain⟨c,rfl,q'⟩:=q';refine⟨c,r,?_⟩;cases c with
 |true=>rw[if_pos rfl]at q' ⊢;exact sb io H0 F0 F' δ' σ H' Q Qd I' q' fun b d v δ2 F2 H2 s2 I2 q2=>k b d v δ2 F2 H2 (sf.trans s2) I2 q2
 |false=>rw[if_neg Bool.false_ne_true]at q' ⊢;exact k false _ _ δ' F' H' sf I'.pB q'
theorem j8f (ha:DE X a da):DE X (.UnaryOp .Not a pos) (Rk da):=by
 obtain⟨ta,pa,sa⟩:=ha;refine⟨_,j7s pa,fun io H0 F0 F δ σ H Q Qd I q k=>sa.fz I q fun d v δ' F' H' sf I' r q'=>?_⟩;obtain⟨c,rfl,q'⟩:=q';exact⟨c,r,k false _ _ δ' F' H' sf I'.pB q'⟩
theorem Li {c:Expr}{t:TTd}(hc:DT X c t)(ha:DE X a da)(hb:DE X b db):DE X (.IfExp c a b pos) (dIf t da db):=by
 obtain⟨tc,pc,sc⟩:=hc;obtain⟨ta,pa,sa⟩:=ha;obtain⟨tb,pb,sb⟩:=hb;refine⟨_,Ug pc pa pb,fun io H0 F0 F δ σ H Q Qd I q k=>sc io H0 F0 F δ σ H _ _ I q fun c δ' F' H' sf I' q'=>?_⟩;cases c with
 |true=>rw[if_pos rfl]at q' ⊢;exact sa io H0 F0 F' δ' σ H' Q Qd I' q' fun b d v δ2 F2 H2 s2 I2 q2=>k b d v δ2 F2 H2 (sf.trans s2) I2 q2
 |false=>rw[if_neg Bool.false_ne_true]at q' ⊢;exact sb io H0 F0 F' δ' σ H' Q Qd I' q' fun b d v δ2 F2 H2 s2 I2 q2=>k b d v δ2 F2 H2 (sf.trans s2) I2 q2
def dNeg (ta:TEd):TEd:=fun δ Q=>ta δ fun _ x δ'=>∃i,x=.int i/\Q false (.int (-i)) δ'
theorem j9j (ha:DE X a da):DE X (.UnaryOp .USub a pos) (dNeg da):=by
 obtain⟨ta,pa,sa⟩:=ha;refine⟨_,Ai Bi pa,fun io H0 F0 F δ σ H Q Qd I q k=>sa.fz I q fun d v δ' F' H' sf I' r q'=>?_⟩;obtain⟨c,rfl,q'⟩:=q';exact⟨c,r,k false _ _ δ' F' H' sf I'.pI q'⟩
def dNil:TLd:=fun δ Q=>Q [] δ
def Sk (t:TEd)(u:TLd):TLd:=fun δ Q=>t δ fun _ d δ'=>u δ' fun ds δ''=>Q (d::ds) δ''
theorem ba:DL X [] dNil:=⟨_,Ca,fun io H0 F0 F δ σ H Q Qd I q k=>k [] [] δ F H (Same.refl _) I rfl q⟩
theorem aa {es:List Expr}{u:TLd}(ha:DE X a da)(hr:DL X es u)(hs:starEach (a::es) X.env=(false,eval a X.env)::starEach es X.env:=by rfl):DL X (a::es) (Sk da u):=by
 obtain⟨ta,pa,sa⟩:=ha;obtain⟨tr,pr,sr⟩:=hr;refine⟨_,xa pa pr hs,fun io H0 F0 F δ σ H Q Qd I q k=>sa.fz I q fun d v δ' F' H' sf I' r q'=>sr io H0 F0 F' δ' σ H' _ _ I' q' fun ds vs δ2 F2 H2 s2 I2 r2 q2=>?_⟩;exact k (d::ds) (v::vs) δ2 F2 H2 (sf.trans s2) I2 ⟨v,vs,rfl,Rep.mono s2 _ _ r,r2⟩ q2
def dTup (u:TLd):TEd:=fun δ Q=>u δ fun ds δ'=>ds.length<=sizeLine/\Q false (.tup ds) δ'
def dLst (u:TLd):TEd:=fun δ Q=>u δ fun ds δ'=>ds.length<=sizeLine/\Q true (.lst ds) δ'
theorem Rb {x1}{es:List Expr}{u:TLd}(h:DL X es u):DE X (.Tuple es x1 pos) (dTup u):=by
 obtain⟨t,p,s⟩:=h;refine⟨_,Ci p,fun io H0 F0 F δ σ H Q Qd I q k=>s io H0 F0 F δ σ H _ _ I q fun ds vs δ' F' H' sf I' r q'=>⟨by rw[<-r.len];exact q'.1,fun p hp=>?_⟩⟩;obtain⟨F2,s2,I2,r2⟩:=I'.newT hp r;exact k false _ _ δ' F2 _ (sf.trans s2) (I2.pushF r2) q'.2
theorem Pa {es:List Expr}{u:TLd}(h:DL X es u):DE X (.List es pos) (dLst u):=by
 obtain⟨t,p,s⟩:=h;exact⟨_,Fc p,fun io H0 F0 F δ σ H Q Qd I q k=>s io H0 F0 F δ σ H _ _ I q fun ds vs δ' F' H' sf I' r q'=>⟨by rw[<-r.len];exact q'.1,fun p hp=>k true _ _ δ' F' _ sf (I'.newL hp r) q'.2⟩⟩
def Wc (r:List V->Hp->VK->Prop)(f:List D->(Bool->D->Prop)->Prop):Prop:=∀(io:List (Option Addr))(H0 F0 F:Hp)(δ:List Slot)(σ:St)(H:Hp)(xs:List D)(vs:List V)(Q:VK)(Qd:Bool->D->Prop),EI io H0 F0 F δ σ H->Paired (Pk F H) xs vs->f xs Qd ->
 (∀b d w F' H',Same F F'->EI (none::io) H0 F0 F' (rsl b d::δ) (some w::σ) H'->Qd b d->Q w H')->r vs H Q
theorem Reps.pks {F H:Hp}:∀{ds:List D}{vs:List V},Reps F ds vs->Paired (Pk F H) ds vs
 | [],vs,h=>by cases(show vs=[] from h);exact .nil
 |d::ds,vs,h=>by obtain⟨v,r,rfl,h1,h2⟩:=h;exact .cons (.inl h1) (Reps.pks h2)
def dCB (f:List D->(Bool->D->Prop)->Prop)(u:TLd):TEd:=fun δ Q=>u δ fun ds δ'=>f ds fun b d=>Q b d δ'
def dCBV (f:List D->(Bool->D->Prop)->Prop)(i:Nat):TEd:=fun δ Q=>∃d,peek δ i=some d/\f [d] fun b d=>Q b d δ
theorem Jp {r:List V->Hp->VK->Prop}{f:List D->(Bool->D->Prop)->Prop}{t:TA}{u:TLd}(hs:Wc r f)(s:SimL t u):Sim (tCB r t) (dCB f u):=fun io H0 F0 F δ σ H Q Qd I q k =>
 s io H0 F0 F δ σ H _ _ I q fun ds vs δ' F' H' sf I' r q'=>hs io H0 F0 F' δ' σ H' ds vs Q _ I' r.pks q' fun b d w F2 H2 s2 I2 q2=>k b d w δ' F2 H2 (sf.trans s2) I2 q2
theorem j0e {r:List V->Hp->VK->Prop}{f:List D->(Bool->D->Prop)->Prop}{i:Nat}(hs:Wc r f):Sim (tCB r (y2i (tVar i) tNil)) (dCBV f i):=fun io H0 F0 F δ σ H Q Qd I q k=>by
 obtain⟨d,e,q⟩:=q;obtain⟨v,ev,pk⟩:=I.pk e;exact⟨v,ev,hs io H0 F0 F δ σ H [d] [v] Q _ I (.cons pk .nil) q fun b d w F2 H2 s2 I2 q2=>k b d w δ F2 H2 s2 I2 q2⟩
end
section
variable {X:Cx}{pos p p':Pos}{e:Expr}{es:List Expr}{x y:Str}{u:TLd}{f:List D->(Bool->D->Prop)->Prop}{r:List V->Hp->VK->Prop}{id T:String}
theorem Ob (hs:Wc r f)(hc:Ec X (.builtin id) r)(hg:Gl X x)(hm:X.mg x=none)(hv:bootBuiltins x=some (.builtin id))(ha:DL X (e::es) u)(hn:x ≠ "__name__":=by decide)(hdb:(x == ("__debug__":Str))=false:=by decide)
  (he:starEach (e::es) X.env=(false,eval e X.env)::starEach es X.env:=by rfl)(hpl:(backTo pos (starEach es X.env)).any (·.1)=false:=by rfl):DE X (.Call (.Name x p) (e::es) [] pos) (dCB f u):=by
 obtain⟨t,pt,s⟩:=ha;exact⟨_,Nc hc hg hm hv pt hn hdb he hpl,Jp hs s⟩
theorem Ib {i:Nat}(hs:Wc r f)(hc:Ec X (.builtin id) r)(hg:Gl X x)(hm:X.mg x=none)(hv:bootBuiltins x=some (.builtin id))(ha:PE X (.Name y p') (tVar i))(hn:x ≠ "__name__":=by decide)(hdb:(x == ("__debug__":Str))=false:=by decide)
  (he:starEach [.Name y p'] X.env=[(false,eval (.Name y p') X.env)]:=by rfl)(hpl:(backTo pos (starEach [] X.env)).any (·.1)=false:=by rfl):DE X (.Call (.Name x p) [.Name y p'] [] pos) (dCBV f i) :=
 ⟨_,Nc hc hg hm hv (xa ha Ca he) hn hdb he hpl,j0e hs⟩
theorem Tk (hs:Wc r f)(hc:Ec X (.type T) r)(hg:Gl X x)(hm:X.mg x=none)(hv:bootBuiltins x=some (.type T))(ha:DL X (e::es) u)(hn:x ≠ "__name__":=by decide)(hdb:(x == ("__debug__":Str))=false:=by decide)
  (he:starEach (e::es) X.env=(false,eval e X.env)::starEach es X.env:=by rfl)(hpl:(backTo pos (starEach es X.env)).any (·.1)=false:=by rfl):DE X (.Call (.Name x p) (e::es) [] pos) (dCB f u):=by
 obtain⟨t,pt,s⟩:=ha;exact⟨_,q0q hc hg hm hv pt hn hdb he hpl,Jp hs s⟩
theorem pks1 {F H:Hp}{d:D}{vs:List V}(h:Paired (Pk F H) [d] vs):∃v,vs=[v]/\Pk F H d v:=by
 cases h with
 |cons h t=>cases t;exact⟨_,rfl,h⟩
theorem pks2 {F H:Hp}{d d':D}{vs:List V}(h:Paired (Pk F H) [d,d'] vs):∃v v',vs=[v,v']/\Pk F H d v/\Pk F H d' v':=by
 cases h with
 |cons h t =>
  cases t with
  |cons h' t=>cases t;exact⟨_,_,rfl,h,h'⟩
def Uk:List D->(Bool->D->Prop)->Prop:=fun ds Q=>∃xs,ds=[.lst xs]/\Q false (.int xs.length)
def Vk:List D->(Bool->D->Prop)->Prop:=fun ds Q=>∃z,ds=[.str z]/\z.length<=sizeLine/\Q false (.int z.length)
theorem md:Wc (fun xs H Q=>∃p,xs=[.ref p]/\∃ys,H p=some (.lst ys)/\Q (.int ys.length) H) Uk:=by
 intro io H0 F0 F δ σ H xs vs Q Qd I px q k;obtain⟨ys,rfl,q⟩:=q;obtain⟨v,rfl,pk⟩:=pks1 px;obtain⟨a,us,rfl,h1,r⟩:=pk.lst I;refine⟨a,rfl,us,h1,k false (.int ys.length) _ F H (Same.refl _) (I.pushF ?_) q⟩;rw[r.len];rfl
theorem ke:Wc (fun xs H Q=>∃z,xs=[.str z]/\z.length<=sizeLine/\Q (.int z.length) H) Vk:=by
 intro io H0 F0 F δ σ H xs vs Q Qd I px q k;obtain⟨z,rfl,hz,q⟩:=q;obtain⟨v,rfl,pk⟩:=pks1 px;cases pk.str;exact⟨z,rfl,hz,k false _ _ F H (Same.refl _) I.pI q⟩
noncomputable def tyD:D->String
 |.non=>"NoneType" | .bl _=>"bool" | .int _=>"int" | .str _=>"str" | .ty _=>"type" | .lst _=>"list" | .tup _=>"tuple" | .dct _=>"dict"
noncomputable def isTy (t T:String):Bool:=t == T||(t == "bool"&&T == "int")
def Wk (K:W.Frag):Prop:=∀t∈["str","int","bool","list","tuple","dict","NoneType"],∀T∈["str","int","bool","list","tuple","dict"],kitOne K (.type t) (.type T)=some (isTy t T)
def fIsI:List D->(Bool->D->Prop)->Prop:=fun ds Q=>∃d T,ds=[d,.ty T]/\tyD d ≠ "type"/\T∈["str","int","bool","list","tuple","dict"]/\Q false (.bl (isTy (tyD d) T))
theorem q9h {K:W.Frag}{io:List (Option Addr)}{H0 F0 F:Hp}{δ:List Slot}{σ:St}{H:Hp}{d:D}{v:V}(I:EI io H0 F0 F δ σ H)(p:Pk F H d v)(h:tyD d ≠ "type"):TyOf K H v (.type (tyD d)):=by
 cases d with
 |lst xs=>obtain⟨a,vs,rfl,h1,r⟩:=p.lst I;exact .lst h1
 |tup xs=>obtain⟨a,vs,rfl,h1,r⟩:=p.tup I;exact .tup h1
 |dct xs=>obtain⟨a,vs,rfl,h1,r⟩:=p.dct I;exact .dK h1
 |bl c=>cases p.bl;exact .bl c
 |int c=>cases p.int;exact .int c
 |str c=>cases p.str;exact .str c
 |non=>cases p.non;exact .non
 |ty c=>exact absurd rfl h
theorem Ic {K:W.Frag}(hk:Wk K):Wc (fun xs H Q=>∃x T t b,xs=[x,.ty T]/\TyOf K H x t/\kitOne K t (.type T)=some b/\Q (.bl b) H) fIsI:=by
 intro io H0 F0 F δ σ H xs vs Q Qd I px q k;obtain⟨d,T,rfl,hd,hT,q⟩:=q;obtain⟨v,v',rfl,p1,p2⟩:=pks2 px;have e:v' = .ty T:=by
  rcases p2 with h|⟨a,_,h⟩
  ·exact h
  ·exact h.elim
 subst e;refine⟨v,T,_,_,rfl,q9h I p1 hd,hk _ ?_ T hT,k false _ _ F H (Same.refl _) I.pB q⟩;cases d<;>first|exact absurd rfl hd|simp[tyD]
def Mi:List D->(Bool->D->Prop)->Prop:=fun ds Q=>∃xs,ds=[.lst xs]/\Q true (.lst xs)
theorem j4y:Wc (fun xs H Q=>∃p,xs=[.ref p]/\∃ys,H p=some (.lst ys)/\∀l,H l=none->Q (.ref l) (upd H l (.lst ys))) Mi:=by
 intro io H0 F0 F δ σ H xs vs Q Qd I px q k;obtain⟨ys,rfl,q⟩:=q;obtain⟨v,rfl,pk⟩:=pks1 px;obtain⟨a,us,rfl,h1,r⟩:=pk.lst I;exact⟨a,rfl,us,h1,fun l hl=>k true _ _ F _ (Same.refl _) (I.newL hl r) q⟩
def Xk:List D->(Bool->D->Prop)->Prop:=fun ds Q=>(∃i,ds=[.int i]/\Q false (.int i)) \/ ∃b,ds=[.bl b]/\Q false (.int (if b then 1 else 0))
theorem Kp:Wc (fun xs H Q=>(∃i,xs=[.int i]/\Q (.int i) H) \/ ∃k,xs=[.bl k]/\Q (.int (if k then 1 else 0)) H) Xk:=by
 intro io H0 F0 F δ σ H xs vs Q Qd I px q k;rcases q with ⟨i,rfl,q⟩|⟨b,rfl,q⟩
 ·obtain⟨v,rfl,pk⟩:=pks1 px;cases pk.int;exact .inl ⟨i,rfl,k false _ _ F H (Same.refl _) I.pI q⟩
 ·obtain⟨v,rfl,pk⟩:=pks1 px;cases pk.bl;exact .inr ⟨b,rfl,k false _ _ F H (Same.refl _) I.pI q⟩
def dRev (td:TEd):TEd:=fun δ Q=>td δ fun _ d δ'=>∃xs,d=.lst xs/\Q true (.lst xs.reverse) δ'
theorem j2c {K:W.Frag}{te:TE}{td:TEd}(s:Sim te td):Sim (tRev K te) (dRev td):=fun io H0 F0 F δ σ H Q Qd I q k=>s.fz I q fun d v δ' F' H' sf I' r q'=>by
 obtain⟨xs,rfl,q'⟩:=q';obtain⟨a,vs,rfl,h1,r1⟩:=r;exact⟨a,vs,rfl,I'.sub _ _ h1,fun l hl=>k true _ _ δ' F' _ sf (I'.newL hl r1.rev) q'⟩
theorem Ni {X:Cx}{e:Expr}{td:TEd}{p1 p2 p3 pos:Pos}(hc:X.calm=true)(hgL:Gl X "list")(hmL:X.mg "list" = none)(hgR:Gl X "reversed")(hmR:X.mg "reversed" = none)(he:DE X e td)
  (hs1:starEach [.Call (.Name "reversed" p2) [e] [] p3] X.env=[(false,eval (.Call (.Name "reversed" p2) [e] [] p3) X.env)]:=by rfl)(hs2:starEach [e] X.env=[(false,eval e X.env)]:=by rfl) :
  DE X (.Call (.Name "list" p1) [.Call (.Name "reversed" p2) [e] [] p3] [] pos) (dRev td):=by
 obtain⟨t,p,s⟩:=he;exact⟨_,x3w hc hgL hmL hgR hmR p hs1 hs2,j2c s⟩
def MtS (r:V->List V->Hp->VK->Prop)(f:D->List D->(D->D->Prop)->Prop):Prop:=∀(F H:Hp)(a:Addr)(c:D)(xs:List D)(vs:List V)(Q:VK)(Qd:D->D->Prop),Same F H->Cont F H a c->F a=none->Reps F xs vs->f c xs Qd ->
 (∀c' d w o,Cont F (upd H a o) a c'->Rep F d w->Qd c' d->Q w (upd H a o))->r (.ref a) vs H Q
noncomputable def isL:D->Bool
 |.lst _=>true
 |_=>false
def dMt (f:D->List D->(D->D->Prop)->Prop)(i:Nat)(u:TLd):TEd:=fun δ Q=>((peek δ i).map isL=some true)/\u δ fun ds δ'=>∃fl c,δ'[i]? = some (.ob fl c)/\f c ds fun c' d=>Q false d (δ'.set i (.ob fl c'))
theorem k0c {d:D}(h:isL d=true):∃xs,d=.lst xs:=by cases d<;>first|exact⟨_,rfl⟩|cases h
theorem Lp {r:V->List V->Hp->VK->Prop}{f:D->List D->(D->D->Prop)->Prop}{i:Nat}{t:TA}{u:TLd}(hs:MtS r f)(s:SimL t u):Sim (tLM r (tVar i) t) (dMt f i u):=fun io H0 F0 F δ σ H Q Qd I q k=>by
 obtain⟨h0,q⟩:=q;obtain⟨d0,e0,e1⟩:=map_eq_some_iff.mp h0;obtain⟨xs,rfl⟩:=k0c e1;obtain⟨v,ev,pk⟩:=I.pk e0;obtain⟨a,vs,rfl,h1,_⟩:=pk.lst I;refine⟨_,ev,a,rfl,⟨vs,h1⟩,s io H0 F0 F δ σ H _ _ I q fun ds us δ' F' H' sf I' r q'=>?_⟩;obtain⟨fl,c,ec,q'⟩:=q';obtain⟨a',ea,n1,n2,hc,hio⟩:=I'.get i _ ec;have:a' = a:=by
  have:=Uc ea;rw[ev]at this;cases this;rfl
 subst this;refine hs F' H' a' c ds us Q _ I'.sub hc n2 r q' fun c' d w o hc' rd qd=>?_;exact k false d w _ F' _ sf ((I'.change ec ea hc').pushF rd) qd
theorem j2e {r:V->List V->Hp->VK->Prop}{f:D->List D->(D->D->Prop)->Prop}{i:Nat}(hs:MtS r f):Sim (tLM0 r (tVar i)) (dMt f i dNil):=fun io H0 F0 F δ σ H Q Qd I q k=>by
 obtain⟨v,ev,a,e,h1,h2⟩:=(Lp (t:=tNil) (u:=dNil) hs fun io H0 F0 F δ σ H Q Qd I q k=>k [] [] δ F H (Same.refl _) I rfl q) io H0 F0 F δ σ H Q Qd I q k;exact⟨v,ev,a,e,h1,h2⟩
end
section
variable {X:Cx}{x name:Str}{p apos cpos:Pos}{e:Expr}{es:List Expr}{i:Nat}{u:TLd}{f:D->List D->(D->D->Prop)->Prop}{r:V->List V->Hp->VK->Prop}{id:String}
theorem Yk (hs:MtS r f)(slot:PySem.Slot "list" name id)(hty:typeOf (.builtin id)=pure (.type "method_descriptor"))(hm:MtR X id r)(ho:PE X (.Name x p) (tVar i))
  (hbase:attributeBase (.Name x p) name X.env (eval (.Name x p) X.env)=eval (.Name x p) X.env:=by rfl)(hline:(apos.endLine == cpos.line)=true:=by rfl):DE X (.Call (.Attribute (.Name x p) name apos) [] [] cpos) (dMt f i dNil):=⟨_,wp slot hty hm ho hbase hline,j2e hs⟩
theorem Sb (hs:MtS r f)(slot:PySem.Slot "list" name id)(hty:typeOf (.builtin id)=pure (.type "method_descriptor"))(hm:MtR X id r)(ho:PE X (.Name x p) (tVar i))(ha:DL X (e::es) u)
  (hbase:attributeBase (.Name x p) name X.env (eval (.Name x p) X.env)=eval (.Name x p) X.env:=by rfl)
  (hfew:((backTo cpos (starEach (e::es) X.env)).all (fun x=>!x.1)&&(backToKw cpos (keywordEach [] X.env)).all (fun x=>x.1.isSome)
  &&decide ((e::es).length+([]:List Keyword).length+(if ([]:List Keyword).isEmpty then 0 else 1)<30))=true:=by rfl)
  (hline:(apos.endLine == cpos.line)=true:=by rfl)(hst:starEach (e::es) X.env=(false,eval e X.env)::starEach es X.env:=by rfl)(hplain:(backTo cpos (starEach es X.env)).any (·.1)=false:=by rfl) :
  DE X (.Call (.Attribute (.Name x p) name apos) (e::es) [] cpos) (dMt f i u):=by
 obtain⟨t,pt,s⟩:=ha;exact⟨_,zf slot hty hm ho pt hbase hfew hline hst hplain,Lp hs s⟩
def Zk:D->List D->(D->D->Prop)->Prop:=fun c ds Q=>∃xs d,c=.lst xs/\ds=[d]/\xs.length<sizeLine/\Q (.lst (xs++[d])) .non
def al:D->List D->(D->D->Prop)->Prop:=fun c ds Q=>∃xs ys,c=.lst xs/\ds=[.lst ys]/\xs.length+ys.length<=sizeLine/\Q (.lst (xs++ys)) .non
def fPop:D->List D->(D->D->Prop)->Prop:=fun c ds Q=>∃xs d,c=.lst xs/\ds=[]/\xs[xs.length - 1]? = some d/\Q (.lst xs.dropLast) d
theorem Reps.one_inv {F:Hp}{d:D}{vs:List V}(h:Reps F [d] vs):∃v,vs=[v]/\Rep F d v:=by
 obtain⟨v,r,rfl,h1,h2⟩:=h;cases(show r=[] from h2);exact⟨v,rfl,h1⟩
theorem ac:MtS z6c Zk:=by
 intro F H a c xs vs Q Qd s hc hf r q k;obtain⟨ys,d,rfl,rfl,hl,q⟩:=q;obtain⟨us,h1,r1⟩:=hc;obtain⟨v,rfl,rv⟩:=r.one_inv;exact⟨a,us,v,rfl,rfl,h1,by rw[<-r1.len];exact hl,k (.lst _) .non .non _ ⟨_,z0h,r1.app (.one rv)⟩ rfl q⟩
theorem Mp:MtS Oo al:=by
 intro F H a c xs vs Q Qd s hc hf r q k;obtain⟨ys,d,rfl,rfl,hl,q⟩:=q;obtain⟨us,h1,r1⟩:=hc;obtain⟨v,rfl,b,ws,rfl,h2,r2⟩:=r.one_inv;exact⟨a,b,us,ws,rfl,rfl,h1,s _ _ h2,by rw[<-r1.len,<-r2.len];exact hl,k (.lst _) .non .non _ ⟨_,z0h,r1.app r2⟩ rfl q⟩
theorem gl:MtS rPop fPop:=by
 intro F H a c xs vs Q Qd s hc hf r q k;obtain⟨ys,d,rfl,rfl,hl,q⟩:=q;obtain⟨us,h1,r1⟩:=hc;cases(show vs=[] from r);obtain⟨v,ev,rv⟩:=r1.get hl;exact⟨a,us,v,rfl,rfl,h1,by rw[<-r1.len];exact ev,k (.lst _) d v _ ⟨_,z0h,r1.dropLast⟩ rv q⟩
def il:TSd:=fun E δ=>E.nx δ
def dSeq (t u:TSd):TSd:=fun E δ=>t { E with nx:=u E } δ
def dRet (td:TEd):TSd:=fun E δ=>td δ E.rt
def jl:TSd:=fun _ _=>False
def kl (td:TEd):TSd:=fun E δ=>td δ fun _ _ δ'=>E.nx δ'
def dIfS (c:TTd)(t u:TSd):TSd:=fun E δ=>c δ fun b δ'=>if b=true then t E δ' else u E δ'
def noIo (δ:List Slot)(i:Nat):Prop :=
 match δ[i]? with
 |some (.ob true _)=>False
 |none=>False
 |_=>True
theorem noIo.ne {δ:List Slot}{i:Nat}(h:noIo δ i):(∀c,δ[i]? ≠ some (.ob true c))/\i<δ.length:=by
 unfold noIo at h;split at h
 ·exact h.elim
 ·exact h.elim
 ·rename_i h1 h2;refine⟨fun c e=>h1 c e,?_⟩;cases q:δ[i]? with
  |none=>exact absurd q h2
  |some s=>exact(List.getElem?_eq_some_iff.mp q).1
def dSet (i:Nat)(td:TEd):TSd:=fun E δ=>td δ fun b d δ'=>noIo δ' i/\E.nx (δ'.set i (rsl b d))
variable {pos:Pos}{a b:Expr}{da db:TEd}
theorem q0:SimS q2m il:=fun io H0 F0 F δ σ H E Ed I q S=>S.nx F δ σ H (Same.refl _) I q
theorem x3n:SimS y0y jl:=fun io H0 F0 F δ σ H E Ed I q S=>q.elim
theorem q3e {t u:TS}{td ud:TSd}(s:SimS t td)(s':SimS u ud):SimS (tSeq t u) (dSeq td ud):=fun io H0 F0 F δ σ H E Ed I q S =>
 s io H0 F0 F δ σ H _ _ I q ⟨fun F' δ' σ' H' sf I' q'=>s' io H0 F0 F' δ' σ' H' E Ed I' q' (S.mono sf),S.rt,S.bk,S.ct⟩
theorem q3u {te:TE}{td:TEd}(s:Sim te td):SimS (tRet te) (dRet td):=fun io H0 F0 F δ σ H E Ed I q S =>
 s io H0 F0 F δ σ H _ _ I q fun b d v δ' F' H' sf I' q'=>S.rt b d v F' δ' σ H' sf I' q'
theorem x9i {te:TE}{td:TEd}(s:Sim te td):SimS (q4d te) (kl td):=fun io H0 F0 F δ σ H E Ed I q S =>
 s io H0 F0 F δ σ H _ _ I q fun b d v δ' F' H' sf I' q'=>S.nx F' δ' σ H' sf I'.pop q'
theorem j2t {c:TT}{cd:TTd}{t u:TS}{td ud:TSd}(sc:SimT c cd)(s:SimS t td)(s':SimS u ud):SimS (tIfS c t u) (dIfS cd td ud):=fun io H0 F0 F δ σ H E Ed I q S =>
 sc io H0 F0 F δ σ H _ _ I q fun b δ' F' H' sf I' q'=>by
  cases b with
  |true=>rw[if_pos rfl]at q' ⊢;exact s io H0 F0 F' δ' σ H' E Ed I' q' (S.mono sf)
  |false=>rw[if_neg Bool.false_ne_true]at q' ⊢;exact s' io H0 F0 F' δ' σ H' E Ed I' q' (S.mono sf)
theorem Np {te:TE}{td:TEd}{i:Nat}(s:Sim te td):SimS (tAsg te (y0a i)) (dSet i td):=fun io H0 F0 F δ σ H E Ed I q S =>
 s io H0 F0 F δ σ H _ _ I q fun b d v δ' F' H' sf I' q'=>by
  obtain⟨h,q'⟩:=q';obtain⟨h1,h2⟩:=h.ne;exact S.nx F' _ _ H' sf (I'.setv h1 h2) q'
theorem Ma:DSs X [] il:=⟨_,Xb,q0⟩
theorem ka {st:Stmt}{rest:List Stmt}{t u:TSd}(h:DS X st t)(h':DSs X rest u):DSs X (st::rest) (dSeq t u):=by
 obtain⟨t,p,s⟩:=h;obtain⟨t',p',s'⟩:=h';exact⟨_,Ta p p',q3e s s'⟩
theorem ma {st:Stmt}{t:TSd}(h:DS X st t):DSs X [st] t:=by obtain⟨t,p,s⟩:=h;exact⟨_,Ua p,s⟩
theorem Op {st:Stmt}:DS X st jl:=⟨_,q5p,x3n⟩
theorem Ba (h:DE X a da):DS X (.Return (some a) pos) (dRet da):=by obtain⟨t,p,s⟩:=h;exact⟨_,uc p,q3u s⟩
theorem Tb (h:DE X a da)(hs:swapsWith a none pos.line X.env=pure false:=by rfl):DS X (.Expr a pos) (kl da):=by obtain⟨t,p,s⟩:=h;exact⟨_,Ld p hs,x9i s⟩
theorem Ia {c:Expr}{x y:List Stmt}{cd:TTd}{t u:TSd}(hc:DT X c cd)(h:DSs X x t)(h':DSs X y u):DS X (.If c x y pos) (dIfS cd t u):=by
 obtain⟨tc,pc,sc⟩:=hc;obtain⟨t,p,s⟩:=h;obtain⟨t',p',s'⟩:=h';exact⟨_,Lb pc p p',j2t sc s s'⟩
theorem Aa {i:Nat}{x:Str}{pos':Pos}(hN:X.N.Nodup)(hi:X.N[i]? = some x)(hx:Loc X.env.scope x)(he:DE X a da)(hs:swapsWith a (some (.Name x pos')) pos.line X.env=pure false:=by rfl)(hf:X.fn x=true\/X.env.scope.names.lookup x=some .local:=by first|exact .inl rfl|exact .inr rfl|assumption) :
  DS X (.Assign [.Name x pos'] a pos) (dSet i da):=by obtain⟨t,p,s⟩:=he;exact⟨_,xb hN hi hx p hs hf,Np s⟩
def dgN (i:Nat):TGd:=fun d δ Q=>noIo δ i/\Q (δ.set i (.fz d))
abbrev TGsd:=List D->List Slot->(List Slot->Prop)->Prop
def Bf:TGsd:=fun ds δ Q=>ds=[]/\Q δ
def me (g:TGd)(u:TGsd):TGsd:=fun ds δ Q=>∃d r,ds=d::r/\g d δ fun δ'=>u r δ' Q
def oe (n:Nat)(u:TGsd):TGd:=fun d δ Q=>∃ds,d=.tup ds/\ds.length=n/\u ds δ Q
def SimGs (g:TGs)(gd:TGsd):Prop:=∀(io:List (Option Addr))(H0 F0 F:Hp)(δ:List Slot)(σ:St)(H:Hp)(ds:List D)(vs:List V)(Q:St->Hp->Prop)(Qd:List Slot->Prop),EI io H0 F0 F δ σ H->Reps F ds vs->gd ds δ Qd ->
 (∀δ' σ',EI io H0 F0 F δ' σ' H->Qd δ'->Q σ' H)->g vs σ H Q
def DGs (X:Cx)(es:List Expr)(gd:TGsd):Prop:=∃g,PGs X es g/\SimGs g gd
theorem x7l (i:Nat):SimG (y0a i) (dgN i):=fun io H0 F0 F δ σ H d v Q Qd I r q k=>by
 obtain⟨h,q⟩:=q;obtain⟨h1,h2⟩:=h.ne;exact k _ _ ((I.pushF r).setv (b:=false) h1 h2) q
theorem Pb {i:Nat}{x:Str}(hN:X.N.Nodup)(hi:X.N[i]? = some x)(hx:Loc X.env.scope x)(hf:X.fn x=true\/X.env.scope.names.lookup x=some .local:=by first|exact .inl rfl|exact .inr rfl|assumption):DG X (.Name x pos) (dgN i):=⟨_,uf hN hi hx hf,x7l i⟩
theorem lg:DGs X [] Bf:=⟨_,ui,fun io H0 F0 F δ σ H ds vs Q Qd I r q k=>by
 obtain⟨rfl,q⟩:=q;exact⟨r,k _ _ I q⟩⟩
theorem Xc {e:Expr}{es:List Expr}{g:TGd}{u:TGsd}(h1:DG X e g)(h2:DGs X es u)
  (hs:(assignEach (e::es) X.env).map (·.2)=assign e X.env::(assignEach es X.env).map (·.2):=by rfl):DGs X (e::es) (me g u):=by
 obtain⟨t,p,s⟩:=h1;obtain⟨t',p',s'⟩:=h2;refine⟨_,Zf p p' hs,fun io H0 F0 F δ σ H ds vs Q Qd I r q k=>?_⟩;obtain⟨d,dr,rfl,q⟩:=q;obtain⟨v,vr,rfl,r1,r2⟩:=r;exact⟨v,vr,rfl,s io H0 F0 F δ σ H d v _ _ I r1 q fun δ' σ' I' q'=>s' io H0 F0 F δ' σ' H dr vr Q Qd I' r2 q' k⟩
theorem ng {es:List Expr}{k:Nat}{u:TGsd}{n:Nat}(hc:X.calm=true)(h:DGs X es u)
  (hn:(assignEach es X.env).length=n:=by rfl)(hst:(assignEach es X.env).findIdx? (·.1)=none:=by rfl):DG X (.Tuple es k pos) (oe n u):=by
 obtain⟨t,p,s⟩:=h;refine⟨_,vi hc p hn hst,fun io H0 F0 F δ σ H d v Q Qd I r q k=>?_⟩;obtain⟨ds,rfl,hl,q⟩:=q;obtain⟨a,vs,rfl,h1,r1⟩:=r;exact⟨a,vs,rfl,SqT.of (I.sub _ _ h1),by rw[<-r1.len];exact hl,s io H0 F0 F δ σ H ds vs Q Qd I r1 q k⟩
def dAsg (td:TEd)(g:TGd):TSd:=fun E δ=>td δ fun _ d δ'=>g d δ' E.nx
theorem Pp {tg:Expr}{g:TGd}(he:DE X a da)(hg:DG X tg g)(hs:swapsWithSole [tg] a pos.line X.env=pure false:=by rfl)(hw:swappedStores [tg] a X.env=pure none:=by rfl)
  (h1:(assignEach [tg] X.env).map (·.2)=[assign tg X.env]:=by rfl):DS X (.Assign [tg] a pos) (dAsg da g):=by
 obtain⟨t,p,s⟩:=he;obtain⟨t',p',s'⟩:=hg;exact⟨_,ao p p' hs hw h1,fun io H0 F0 F δ σ H E Ed I q S=>s.fz I q fun d v δ' F' H' sf I' r q'=>s' io H0 F0 F' δ' σ H' d v _ _ I' r q' fun δ2 σ2 I2 q2=>S.nx F' δ2 σ2 H' sf I2 q2⟩
def ml (i:Nat)(ti tv:TEd):TSd:=fun E δ=>tv δ fun _ v δ1=>(peek δ1 i).isSome=true/\ti δ1 fun _ y δ2=>∃fl xs k j,δ2[i]? = some (.ob fl (.lst xs))/\y=.int k/\ixN xs.length k=some j/\E.nx (δ2.set i (.ob fl (.lst (xs.set j v))))
theorem Qp {i:Nat}{x:Str}{p pos':Pos}{ie ve:Expr}{ti tv:TEd}(ho:PE X (.Name x p) (tVar i))(hi:DE X ie ti)(hv:DE X ve tv)(ha:∀v,assign (.Subscript (.Name x p) ie pos') X.env v=(do
   let ov <-holding [v] (eval (.Name x p) X.env);let iv <-holding [v,ov] (eval ie X.env)
   standAt pos'
   holding [v,ov,iv] (setItem ov iv v)
   release [v,ov,iv] []):=by intro _;rfl)(hs:swapsWithSole [.Subscript (.Name x p) ie pos'] ve pos.line X.env=pure false:=by rfl)(hw:swappedStores [.Subscript (.Name x p) ie pos'] ve X.env=pure none:=by rfl)
  (h1:(assignEach [.Subscript (.Name x p) ie pos'] X.env).map (·.2)=[assign (.Subscript (.Name x p) ie pos') X.env]:=by rfl):DS X (.Assign [.Subscript (.Name x p) ie pos'] ve pos) (ml i ti tv):=by
 obtain⟨t,pi,si⟩:=hi;obtain⟨t',pv,sv⟩:=hv;refine⟨_,ao pv (j8y ho pi q3g ha) hs hw h1,fun io H0 F0 F δ σ H E Ed I q S=>sv.fz I q fun d v δ1 F1 H1 s1 I1 r1 q1=>?_⟩;obtain⟨p0,q1⟩:=q1;obtain⟨d0,e0⟩:=isSome_iff_exists.mp p0;obtain⟨v0,ev,_⟩:=I1.pk e0;refine⟨v0,ev,si.fz I1 q1 fun y u δ2 F2 H2 s2 I2 r2 q2=>?_⟩;obtain⟨fl,xs,k,j,ec,rfl,hj,q2⟩:=q2;obtain⟨a',ea,n1,n2,⟨vs,hc,rc⟩,hio⟩:=I2.get i _ ec;have e:=Uc ea;rw[ev]at e;cases e;exact⟨a',vs,k,j,rfl,r2,hc,by rw[<-rc.len];exact hj,S.nx F2 _ σ _ (s1.trans s2) (I2.change (c':=.lst (xs.set j d)) ec ea ⟨_,z0h,rc.set (Rep.mono s2 _ _ r1) j⟩) q2⟩
def ItOk (J:It)(F:Hp)(ds:List D):Prop:=∀(io:List (Option Addr))(H0 F0 F':Hp)(δ:List Slot)(σ:St)(H':Hp),Same F F'->EI io H0 F0 F' δ σ H'->∀i,
 (∀d,ds[i]? = some d->J.go i H'/\∀x H'',J.yld i H' x H''->∃F'',Same F' F''/\EI io H0 F0 F'' δ σ H''/\Rep F'' d x)/\(i=ds.length->J.stop i H')
def SimI (wi:TI)(di:TLd):Prop:=∀(io:List (Option Addr))(H0 F0 F:Hp)(δ:List Slot)(σ:St)(H:Hp)(R:It->Hp->Prop)(Qd:List D->List Slot->Prop),EI io H0 F0 F δ σ H->di δ Qd ->
 (∀J ds δ' F' H',Same F F'->EI io H0 F0 F' δ' σ H'->ItOk J F' ds->Qd ds δ'->R J H')->wi σ H R
def DI (X:Cx)(tg e:Expr)(di:TLd):Prop:=∃wi,PI X tg e wi/\SimI wi di
def nl (td:TEd):TLd:=fun δ Q=>td δ fun _ d δ'=>∃ds,d=.lst ds/\Q ds δ'
theorem x8l {K:W.Frag}{F:Hp}{a:Addr}{vs:List V}{ds:List D}(h:F a=some (.lst vs))(r:Reps F ds vs):ItOk (Itl K a) F ds:=by
 intro io H0 F0 F' δ σ H' sf I i;have hH:H' a=some (.lst vs):=I.sub _ _ (sf _ _ h);refine⟨fun d e=>?_,fun e=>?_⟩
 ·obtain⟨v,ev,rv⟩:=r.get e;refine⟨⟨vs,v,SqL.of hH,ev⟩,fun x H'' y=>?_⟩;obtain⟨e1,y⟩:=y;subst e1;have:=y vs (SqL.of hH);rw[ev]at this;cases this;exact⟨F',Same.refl _,I,Rep.mono sf _ _ rv⟩
 ·exact⟨vs,SqL.of hH,by rw[e,r.len];exact le_refl _⟩
theorem Ad {tg:Expr}(h:DE X a da):DI X tg a (nl da):=by
 obtain⟨t,p,s⟩:=h;refine⟨_,xi p,fun io H0 F0 F δ σ H R Qd I q k=>s.fz I q fun d v δ' F' H' sf I' r q'=>?_⟩;obtain⟨ds,rfl,q'⟩:=q';obtain⟨a,vs,rfl,h1,r1⟩:=r;exact⟨a,rfl,⟨vs,SqL.of (I'.sub _ _ h1)⟩,k _ ds δ' F' H' sf I' (x8l h1 r1) q'⟩
noncomputable def rngD (lo:Int)(n:Nat):List D:=(range n).map fun(k:Nat)=>D.int (lo+(k:Int))
def ql (u:TLd):TLd:=fun δ Q=>u δ fun ds δ'=>∃j:Int,ds=[.int j]/\-(2 ^ 62)<=j/\j<2 ^ 62/\Q (rngD 0 j.toNat) δ'
theorem q2s {F:Hp}(lo:Int)(n:Nat):ItOk (Itr lo n) F (rngD lo n):=by
 intro io H0 F0 F' δ σ H' sf I i;refine⟨fun d e=>?_,fun e=>?_⟩
 ·have hi:i<n:=by
   have:=(List.getElem?_eq_some_iff.mp e).1;simpa[rngD] using this
  have ed:d=.int (lo+(i:Int)):=by
   simp[rngD,hi]at e;exact e.symm
  subst ed;refine⟨by simpa[Itr] using hi,fun x H'' y=>?_⟩;have y':x=.int (lo+(i:Int))/\H'' = H':=by
   obtain⟨y1,y2⟩:=y
   first
    |exact⟨y1,y2⟩
    |exact⟨y2,y1⟩
    |exact⟨y1,y2.symm⟩
  obtain⟨rfl,rfl⟩:=y';exact⟨F',Same.refl _,I,rfl⟩
 ·simp[rngD]at e;subst e;simp[Itr]
theorem qe {tg e:Expr}{u:TLd}{p pos:Pos}(hg:Gl X "range")(hm:X.mg "range" = none)(ha:DL X [e] u)(hs:starEach [e] X.env=[(false,eval e X.env)]:=by rfl):DI X tg (.Call (.Name "range" p) [e] [] pos) (ql u):=by
 obtain⟨t,pt,s⟩:=ha;refine⟨_,x8e hg hm pt hs,fun io H0 F0 F δ σ H R Qd I q k=>s io H0 F0 F δ σ H _ _ I q fun ds vs δ' F' H' sf I' r q'=>?_⟩;obtain⟨j,rfl,h1,h2,q'⟩:=q';obtain⟨v,rfl,rv⟩:=r.one_inv;cases(show v=.int j from rv);exact⟨j,rfl,h1,h2,k _ _ δ' F' H' sf I' (q2s 0 _) q'⟩
noncomputable def fgt:List Nat->List Slot->List Slot
 | [],δ=>δ
 |i::is,δ=>fgt is (δ.set i .no)
theorem EI.fgt {io:List (Option Addr)}{H0 F0 F H:Hp}{σ:St}:∀(is:List Nat){δ:List Slot},EI io H0 F0 F δ σ H->EI io H0 F0 F (VL.fgt is δ) σ H
 | [],_,I=>I
 |i::is,_,I=>EI.fgt is I.forget
def dFor (di:TLd)(g:TGd)(tb:TSd):TSd:=fun E δ=>di δ fun ds δ'=>∃(fg:List Nat)(P:List D->List Slot->Prop),P ds (fgt fg δ') /\
 (∀d r δ,P (d::r) δ->g d δ fun δ2=>tb { E with nx:=fun δ'=>P r (fgt fg δ'),ct:=fun δ'=>P r (fgt fg δ'),bk:=E.nx } δ2)/\∀δ,P [] δ->E.nx δ
theorem q4y {wi:TI}{di:TLd}{g:TG}{gd:TGd}{tb:TS}{td:TSd}(si:SimI wi di)(sg:SimG g gd)(s:SimS tb td):SimS (tFor wi g tb) (dFor di gd td):=by
 intro io H0 F0 F δ σ H E Ed I q S;refine si io H0 F0 F δ σ H _ _ I q fun J ds δ' F' H' sf I' ok q'=>?_;obtain⟨fg,P,p0,step,fin⟩:=q';refine⟨fun i m σ H=>m=ds.length - i/\i<=ds.length/\∃F1 δ1,Same F' F1/\EI io H0 F0 F1 δ1 σ H/\P (ds.drop i) δ1,⟨ds.length,by simp,zero_le _,F',_,Same.refl _,I'.fgt fg,p0⟩,?_⟩;rintro i m σ1 H1 ⟨rfl,hi,F1,δ1,s1,I1,p1⟩;obtain⟨o1,o2⟩:=ok io H0 F0 F1 δ1 σ1 H1 s1 I1 i;by_cases hlt:i<ds.length
 ·have ed:ds[i]? = some ds[i]:=by simp[hlt]
  have edr:ds.drop i=ds[i]::ds.drop (i+1):=drop_eq_getElem_cons hlt;rw[edr]at p1;obtain⟨go,yl⟩:=o1 _ ed;refine .inr ⟨go,fun σ' H'=>∃F2 δ2,Same F' F2/\EI io H0 F0 F2 δ2 σ' H'/\P (ds.drop (i+1)) δ2,fun σ' H' hN=>⟨ds.length - (i+1),by omega,rfl,hlt,hN⟩,fun x H2 y=>?_⟩;obtain⟨F2,s2,I2,r2⟩:=yl x H2 y;refine sg io H0 F0 F2 δ1 σ1 H2 _ x _ _ I2 r2 (step _ _ δ1 p1) fun δ3 σ3 I3 q3=>?_;refine s io H0 F0 F2 δ3 σ3 H2 _ _ I3 q3 ⟨fun F4 δ4 σ4 H4 s4 I4 q4=>⟨F4,_,(s1.trans s2).trans s4,I4.fgt fg,q4⟩,fun b d v F4 δ4 σ4 H4 s4 I4 q4=>S.rt b d v F4 δ4 σ4 H4 (((sf.trans s1).trans s2).trans s4) I4 q4,fun F4 δ4 σ4 H4 s4 I4 q4=>S.nx F4 δ4 σ4 H4 (((sf.trans s1).trans s2).trans s4) I4 q4,fun F4 δ4 σ4 H4 s4 I4 q4=>⟨F4,_,(s1.trans s2).trans s4,I4.fgt fg,q4⟩⟩
 ·have e:i=ds.length:=by omega
  subst e;rw[drop_length]at p1;exact .inl ⟨o2 rfl,S.nx F1 δ1 σ1 H1 (sf.trans s1) I1 (fin δ1 p1)⟩
theorem pd {tg iter:Expr}{body:List Stmt}{di:TLd}{gd:TGd}{td:TSd}(hp:PassesOwn (model X.prog X.w) X.A X.env X.xe)(hc:X.calm=true)(hi:DI X tg iter di)(hg:DG X tg gd)(hb:DSs X body td)
  (hs:∀x,foldedSetIterable iter X.env x=pure x:=by intro _;rfl):DS X (.For tg iter body [] pos) (dFor di gd td):=by
 obtain⟨wi,p1,s1⟩:=hi;obtain⟨g,p2,s2⟩:=hg;obtain⟨t,p3,s3⟩:=hb;exact⟨_,zi hp hc p1 p2 p3 hs,q4y s1 s2 s3⟩
def Rp (c:TTd)(tb:TSd):TSd:=fun E δ=>∃(fg:List Nat)(P:List Slot->Prop)(μ:List Slot->Nat),P (fgt fg δ)/\∀δ,P δ->c δ fun b δ'=>if b=true then tb { E with nx:=fun δ2=>P (fgt fg δ2)/\μ (fgt fg δ2)<μ δ,ct:=fun δ2=>P (fgt fg δ2)/\μ (fgt fg δ2)<μ δ,bk:=E.nx } δ' else E.nx δ'
theorem x3e {c:TT}{cd:TTd}{tb:TS}{td:TSd}(sc:SimT c cd)(s:SimS tb td):SimS (bo c tb) (Rp cd td):=by
 intro io H0 F0 F δ σ H E Ed I q S;obtain⟨fg,P,μ,p0,step⟩:=q;refine⟨fun m σ H=>∃F1 δ1,Same F F1/\EI io H0 F0 F1 δ1 σ H/\P δ1/\μ δ1=m,⟨_,F,_,Same.refl _,I.fgt fg,p0,rfl⟩,?_⟩;rintro m σ1 H1 ⟨F1,δ1,s1,I1,p1,rfl⟩;refine sc io H0 F0 F1 δ1 σ1 H1 _ _ I1 (step δ1 p1) fun b δ2 F2 H2 s2 I2 q2=>?_;cases b with
 |false=>rw[if_neg Bool.false_ne_true]at q2 ⊢;exact S.nx F2 δ2 σ1 H2 (s1.trans s2) I2 q2
 |true =>
  rw[if_pos rfl]at q2 ⊢;refine⟨fun σ' H'=>∃F3 δ3,Same F F3/\EI io H0 F0 F3 δ3 σ' H'/\P δ3/\μ δ3<μ δ1,fun σ' H' ⟨F3,δ3,h1,h2,h3,h4⟩=>⟨μ δ3,h4,F3,δ3,h1,h2,h3,rfl⟩,?_⟩;exact s io H0 F0 F2 δ2 σ1 H2 _ _ I2 q2 ⟨fun F4 δ4 σ4 H4 s4 I4 q4=>⟨F4,_,(s1.trans s2).trans s4,I4.fgt fg,q4.1,q4.2⟩,fun b d v F4 δ4 σ4 H4 s4 I4 q4=>S.rt b d v F4 δ4 σ4 H4 ((s1.trans s2).trans s4) I4 q4,fun F4 δ4 σ4 H4 s4 I4 q4=>S.nx F4 δ4 σ4 H4 ((s1.trans s2).trans s4) I4 q4,fun F4 δ4 σ4 H4 s4 I4 q4=>⟨F4,_,(s1.trans s2).trans s4,I4.fgt fg,q4.1,q4.2⟩⟩
theorem Cf {c:Expr}{body:List Stmt}{cd:TTd}{td:TSd}(hp:PassesOwn (model X.prog X.w) X.A X.env X.xe)(hc:DT X c cd)(hb:DSs X body td):DS X (.While c body [] pos) (Rp cd td):=by
 obtain⟨t1,p1,s1⟩:=hc;obtain⟨t,p3,s3⟩:=hb;exact⟨_,q3b hp p1 p3,x3e s1 s3⟩
open PySem.Spec PyProof.Rows
noncomputable def er (H:Hp):Option Addr->Hp
 |none=>H
 |some a=>fun b=>if b=a then none else H b
abbrev RD:=List Slot->(Bool->D->List Slot->Prop)->Prop
def spD (R:RD):Sp:=fun vs H Q _=>∃(Hx:Hp)(ic:List (Option Addr))(F:Hp)(δ:List Slot)(Qd:Bool->D->List Slot->Prop),(∀p a,ic.getD p none=some a->vs[p]? = some (.ref a))/\EI ic Hx F F δ (vs.map some) H/\R δ Qd /\
 ∀b d v δ' F' H',EI (none::ic) Hx F F' (rsl b d::δ') (some v::vs.map some) H'->Qd b d δ'->Q v H'
end
section
open PySem.Spec PyProof.Rows
variable {io ic:List (Option Addr)}{H0 F0 F F' H H':Hp}{δ δc:List Slot}{σ σc:L2.St}{b:Bool}{d:D}{v:V}
theorem EI.back0 (I:EI io H0 F0 F δ σ H)(s:Same F F')(s':Same H H')(sub:Same F' H')(new:∀b o,F' b=some o->F b=none->H b=none):EI io H0 F0 F' δ σ H' where
 base:=I.base.trans s'
 sub:=sub
 ext:=I.ext.trans s
 new:=fun b o e h=>by
  cases q:F b with
  |none=>exact I.base.free (new b o e q)
  |some u=>exact I.new b u q h
 len:=I.len
 get:=fun i t e=>(I.get i t e).mono s fun a b c es eo=>by
  subst es;obtain⟨a',e1,h1,h2,h3,h4⟩:=I.get i _ e;rw[eo]at e1;cases e1;obtain⟨u,hu⟩:=h3.some;refine⟨?_,fun u hu=>s' _ _ hu⟩;cases q:F' a with
  |none=>rfl
  |some o=>rw[new a o q h2]at hu;cases hu
 apart:=I.apart
theorem EI.back (I:EI io H0 F0 F δ σ H)(C:EI ic H F F' (rsl b d::δc) (some v::σc) H'):EI (none::io) H0 F0 F' (rsl b d::δ) (some v::σ) H':=by
 have J:=I.back0 C.ext C.base C.sub C.new;refine J.push ?_ fun b' c a es ev j b2 c2 ej eo=>?_
 ·have h0:=C.get 0 _ rfl;cases b with
  |false=>obtain⟨v',e,r⟩:=h0;simp at e;subst e;exact⟨v,rfl,r⟩
  |true =>
   obtain⟨a,e,h1,h2,h3,h4⟩:=h0;simp at e;subst e;exact⟨a,rfl,I.base.free h1,h2,h3,fun z=>by cases z⟩
 ·subst ev;obtain⟨a',e1,h1,h2,h3,h4⟩:=I.get j _ ej;rw[eo]at e1;cases e1;obtain⟨u,hu⟩:=h3.some;have h0:=C.get 0 _ rfl;cases b with
  |false=>cases es
  |true =>
   obtain⟨a,e,h1,_⟩:=h0;simp at e;subst e;rw[h1]at hu;cases hu
theorem lh {ds:List D}{vs:List V}(s:Same F H)(r:Reps F ds vs):EI [] H F F (ds.map .fz) (vs.map some) H where
 base:=Same.refl _
 sub:=s
 ext:=Same.refl _
 new:=fun b o e h=>by rw[h]at e;cases e
 len:=by simp[r.len]
 get:=fun i t e=>by
  rw[getElem?_map]at e;cases q:ds[i]? with
  |none=>rw[q]at e;cases e
  |some d =>
   rw[q]at e;cases e;obtain⟨v,ev,rv⟩:=r.get q;exact⟨v,by simp[getD_eq_getElem?_getD,ev],rv⟩
 apart:=fun i j b c b' c' a ne e1=>by
  rw[getElem?_map]at e1;cases q:ds[i]?<;>rw[q]at e1<;>cases e1
def wl (R:RD)(u:TLd):TEd:=fun δ Q=>u δ fun ds δ'=>R (ds.map .fz) fun b d _=>Q b d δ'
theorem q3r {R:RD}{t:TA}{u:TLd}{E:XK}(s:SimL t u):Sim (x5t (spD R) [] E t) (wl R u):=fun io H0 F0 F δ σ H Q Qd I q k =>
 s io H0 F0 F δ σ H _ _ I q fun ds vs δ' F' H' sf I' r q'=>by
  show spD R (vs++[]) H' Q E;rw[append_nil];refine⟨H',[],F',_,_,fun p a e=>by simp at e,lh I'.sub r,q',fun b d v δ2 F2 H2 C q2=>?_⟩;exact k b d v δ' F2 H2 (sf.trans C.ext) (I'.back C) q2
variable {X:Cx}{CX:CXT}{k:Nat}{f:Addr}{fd:FuncData}{ps:List Str}{R:RD}{E:XK}{x:Str}{p pos:Pos}{e:Expr}{es:List Expr}{u:TLd}
theorem Va (G:FnOk X.prog X.w X.K X.mg X.base CX k f fd ps (spD R))(hr:Room k X.A)(hg:Gl X x)(hm:X.mg x=some (.ref f))(hk:keepIn X.K (.ref f)=true)(hb:Binds X.K fd ps [])(hx:Fe CX X E)
  (ha:DL X (e::es) u)(hdb:(x == ("__debug__":Str))=false:=by decide)(he:starEach (e::es) X.env=(false,eval e X.env)::starEach es X.env:=by rfl)(hpl:(backTo pos (starEach es X.env)).any (·.1)=false:=by rfl) :
  DE X (.Call (.Name x p) (e::es) [] pos) (wl R u):=by
 obtain⟨t,pt,s⟩:=ha;exact⟨_,yb G hr hg hm hk hb .nil hx pt hdb he hpl,q3r s⟩
abbrev TAd:=List Slot->(List (Option D)->List Slot->Prop)->Prop
noncomputable def AOk (F:Hp)(w:V)(o:Option D)(v:V):Prop:=match o with|some d=>Rep F d v|none=>v=w
def SimA (i:Nat)(te:TA)(td:TAd):Prop:=∀(io:List (Option Addr))(H0 F0 F:Hp)(δ:List Slot)(σ:L2.St)(H:Hp)(w:V)(Q:List V->Hp->Prop)(Qd:List (Option D)->List Slot->Prop),EI io H0 F0 F δ σ H->σ[i]? = some (some w)->td δ Qd ->
 (∀os vs δ' F' H',Same F F'->EI io H0 F0 F' δ' σ H'->Paired (AOk F' w) os vs->Qd os δ'->Q vs H')->te σ H Q
def DA (X:Cx)(i:Nat)(es:List Expr)(td:TAd):Prop:=∃te,PA X es te/\SimA i te td
def j9:TAd:=fun δ Q=>Q [] δ
def daV (t:TEd)(u:TAd):TAd:=fun δ Q=>t δ fun _ d δ'=>u δ' fun os δ''=>Q (some d::os) δ''
def daO (u:TAd):TAd:=fun δ Q=>u δ fun os δ''=>Q (none::os) δ''
end
section
open PySem.Spec PyProof.Rows
variable {X:Cx}{i:Nat}{a:Expr}{es:List Expr}{da:TEd}{u:TAd}
theorem Md:DA X i [] j9:=⟨_,Ca,fun io H0 F0 F δ σ H w Q Qd I hw q k=>k [] [] δ F H (Same.refl _) I .nil q⟩
theorem da_v (ha:DE X a da)(hr:DA X i es u)(hs:starEach (a::es) X.env=(false,eval a X.env)::starEach es X.env:=by rfl):DA X i (a::es) (daV da u):=by
 obtain⟨ta,pa,sa⟩:=ha;obtain⟨tr,pr,sr⟩:=hr;refine⟨_,xa pa pr hs,fun io H0 F0 F δ σ H w Q Qd I hw q k=>sa.fz I q fun d v δ' F' H' sf I' r q'=>sr io H0 F0 F' δ' σ H' w _ _ I' hw q' fun ds vs δ2 F2 H2 s2 I2 r2 q2=>?_⟩;exact k (some d::ds) (v::vs) δ2 F2 H2 (sf.trans s2) I2 (.cons (show Rep F2 d v from Rep.mono s2 _ _ r) r2) q2
theorem da_o {x:Str}{p:Pos}(ha:PE X (.Name x p) (tVar i))(hr:DA X i es u)(hs:starEach (.Name x p::es) X.env=(false,eval (.Name x p) X.env)::starEach es X.env:=by rfl):DA X i (.Name x p::es) (daO u):=by
 obtain⟨tr,pr,sr⟩:=hr;refine⟨_,xa ha pr hs,fun io H0 F0 F δ σ H w Q Qd I hw q k=>⟨w,hw,sr io H0 F0 F δ σ H w _ _ I hw q fun ds vs δ2 F2 H2 s2 I2 r2 q2=>?_⟩⟩;exact k (none::ds) (w::vs) δ2 F2 H2 s2 I2 (.cons rfl r2) q2
def z5x (c:D):Option D->Slot
 |some d=>.fz d
 |none=>.ob true c
noncomputable def Od:List Slot->Option D
 |.ob true c::_=>some c
 |_::r=>Od r
 | []=>none
def Oi (R:RD)(i:Nat)(u:TAd):TEd:=fun δ Q=>(peek δ i).isSome=true/\u δ fun os δ'=>∃fl c,δ'[i]? = some (.ob fl c)/\(os.filter isNone).length=1/\R (os.map (z5x c)) fun b d δ2=>∃c',Od δ2=some c'/\Q b d (δ'.set i (.ob fl c'))
theorem mh:∀{δ:List Slot}{c:D},Od δ=some c->∃p:Nat,δ[p]? = some (Slot.ob true c)
 | [],c,h=>by cases h
 |.no::r,c,h=>by obtain⟨p,e⟩:=mh (δ:=r) h;exact⟨p+1,by simpa using e⟩
 |.fz d::r,c,h=>by obtain⟨p,e⟩:=mh (δ:=r) h;exact⟨p+1,by simpa using e⟩
 |.sc K d::r,c,h=>by obtain⟨p,e⟩:=mh (δ:=r) h;exact⟨p+1,by simpa using e⟩
 |.ob false d::r,c,h=>by obtain⟨p,e⟩:=mh (δ:=r) h;exact⟨p+1,by simpa using e⟩
 |.ob true d::r,c,h=>by cases h;exact⟨0,rfl⟩
theorem Paired.getE {α β:Type}{R:α->β->Prop}:∀{xs:List α}{ys:List β}{i:Nat}{x:α},Paired R xs ys->xs[i]? = some x->∃y,ys[i]? = some y/\R x y
 |_,_,_,_,.nil,e=>by simp at e
 |_,_,0,_,.cons r _,e=>by simp at e;subst e;exact⟨_,rfl,r⟩
 |_,_,i+1,x,.cons _ t,e=>by
  obtain⟨u,h1,h2⟩:=Paired.getE (i:=i) (x:=x) t (by simpa using e);exact⟨u,by simpa using h1,h2⟩
theorem q5a {os:List (Option D)}(h:(os.filter isNone).length=1){i j:Nat}(hi:os[i]? = some none)(hj:os[j]? = some none):i=j:=by
 induction os generalizing i j with
 |nil=>simp at hi
 |cons o os ih =>
  cases o with
  |none =>
   simp at h;have key:∀k,os[k]? ≠ some none:=fun k e=>by
    have:=mem_of_getElem? e;exact absurd rfl (h none this)
   cases i with
   |zero =>
    cases j with
    |zero=>rfl
    |succ j=>exact absurd (by simpa using hj) (key j)
   |succ i=>exact absurd (by simpa using hi) (key i)
  |some d =>
   cases i with
   |zero=>simp at hi
   |succ i =>
    cases j with
    |zero=>simp at hj
    |succ j=>exact congrArg (· + 1) (ih (by simpa using h) (by simpa using hi) (by simpa using hj))
theorem x3p {R:RD}{i:Nat}{t:TA}{u:TAd}{E:XK}(s:SimA i t u):Sim (x5t (spD R) [] E t) (Oi R i u):=fun io H0 F0 F δ σ H Q Qd I q k=>by
 obtain⟨p0,q⟩:=q;obtain⟨d0,e0⟩:=isSome_iff_exists.mp p0;obtain⟨w,ew,_⟩:=I.pk e0;refine s io H0 F0 F δ σ H w _ _ I ew q fun os vs δ' F' H' sf I' r q'=>?_;obtain⟨fl,c,ec,hone,q'⟩:=q';obtain⟨a,ea,n1,n2,hc,hio⟩:=I'.get i _ ec;have e:=Uc ea;rw[ew]at e;cases e;show spD R (vs++[]) H' Q E;rw[append_nil];have erNe:∀b,b≠a->er H' (some a) b=H' b:=fun b hb=>if_neg hb;have erA:er H' (some a) a=none:=if_pos rfl;have lenE:os.length=vs.length:=Paired.length r;refine⟨er H' (some a),os.map (fun o=>match o with|none=>some a|some _=>none),F',_,_,fun p b ep=>?_,⟨fun b o eb=>?_,I'.sub,Same.refl _,fun b o eb hb=>?_,by simp[lenE],fun j t ej=>?_,fun j l b1 c1 b2 c2 a' ne e1 e2 _ _=>?_⟩,q',fun b d v δ2 F2 H2 C q2=>?_⟩
 ·rw[getD_eq_getElem?_getD,getElem?_map]at ep;cases eo:os[p]? with
  |none=>rw[eo]at ep;cases ep
  |some o =>
   rw[eo]at ep;cases o with
   |some d=>cases ep
   |none =>
    cases ep;obtain⟨v,ev,rv⟩:=Paired.getE r eo;cases(show v=.ref a from rv);exact ev
 ·by_cases hb:b=a
  ·subst hb;rw[erA]at eb;cases eb
  ·rw[erNe b hb]at eb;exact eb
 ·rw[hb]at eb;cases eb
 ·rw[getElem?_map]at ej;cases eo:os[j]? with
  |none=>rw[eo]at ej;cases ej
  |some o =>
   rw[eo]at ej;cases ej;obtain⟨v,ev,rv⟩:=Paired.getE r eo;cases o with
   |some d=>exact⟨v,by simp[getD_eq_getElem?_getD,ev],rv⟩
   |none =>
    cases(show v=.ref a from rv);exact⟨a,by simp[getD_eq_getElem?_getD,ev],erA,n2,hc,fun _=>by simp[getD_eq_getElem?_getD,eo]⟩
 ·rw[getElem?_map]at e1 e2;have key:∀{j:Nat}{b:Bool}{c':D},Option.map (z5x c) os[j]? = some (.ob b c')->os[j]? = some none:=fun {j b c'} h=>by
   cases eo:os[j]? with
   |none=>rw[eo]at h;cases h
   |some o =>
    rw[eo]at h;cases o with
    |none=>rfl
    |some d=>cases h
  exact ne (q5a hone (key e1) (key e2))
 ·obtain⟨c',eo,q2⟩:=q2;obtain⟨p,ep⟩:=mh eo;obtain⟨a2,ea2,m1,m2,hc2,hio2⟩:=C.get (p+1) _ (by simpa using ep);have ea3:a2=a:=by
   have h1:=hio2 rfl;simp only[getD_cons_succ]at h1;rw[getD_eq_getElem?_getD,getElem?_map]at h1;cases eo:os[p]? with
   |none=>rw[eo]at h1;cases h1
   |some o =>
    rw[eo]at h1;cases o with
    |some d=>cases h1
    |none=>cases h1;rfl
  subst ea3;have hnew:∀b o,F2 b=some o->F' b=none->H' b=none\/b=a2:=fun b o e1 e2=>by
   by_cases hb:b=a2
   ·exact .inr hb
   ·have:=C.new b o e1 e2;rw[erNe b hb]at this;exact .inl this
  have oth:∀j b1 c1 a3,j≠i->δ'[j]? = some (.ob b1 c1)->σ.getD j none=some (.ref a3)->a3≠a2:=fun j b1 c1 a3 hj e1 e2 z=>I'.apart j i _ _ _ _ a2 hj e1 ec (by rw[e2,z]) ea;have keepH:∀b o,b≠a2->H' b=some o->H2 b=some o:=fun b o hb e=>C.base b o (by rw[erNe b hb];exact e);have J:EI io H0 F0 F2 (δ'.set i (.ob fl c')) σ H2:=by
   refine⟨fun b o eb=>?_,C.sub,I'.ext.trans C.ext,fun b o e h=>?_,by simpa using I'.len,fun j t ej=>?_,fun j l b1 c1 b2 c2 a' ne e1 e2 e3 e4=>?_⟩
   ·exact keepH b o (fun z=>by rw[z,n1]at eb;cases eb) (I'.base b o eb)
   ·cases q:F' b with
    |some u=>exact I'.new b u q h
    |none =>
     rcases hnew b o e q with z|z
     ·exact I'.base.free z
     ·rw[z];exact n1
   ·rw[getElem?_set]at ej;split at ej
    ·rename_i hij;subst hij;split at ej
     ·cases ej;exact⟨a2,ea,n1,m2,hc2,hio⟩
     ·cases ej
    ·rename_i hij;refine(I'.get j t ej).mono C.ext fun a3 b3 c3 es eo=>?_;subst es;obtain⟨a4,e1,h1,h2,h3,h4⟩:=I'.get j _ ej;rw[eo]at e1;cases e1;have hne:=oth j _ _ _ (fun z=>hij z.symm) ej eo;refine⟨?_,fun u hu=>keepH _ _ hne hu⟩;cases q:F2 a3 with
     |none=>rfl
     |some o =>
      rcases hnew a3 o q h2 with z|z
      ·obtain⟨u,hu⟩:=h3.some;rw[z]at hu;cases hu
      ·exact absurd z hne
   ·have key:∀{j:Nat}{b1:Bool}{c1:D},(δ'.set i (.ob fl c'))[j]? = some (Slot.ob b1 c1)->∃b2 c2,δ'[j]? = some (Slot.ob b2 c2):=fun {j b1 c1} h=>by
     rw[getElem?_set]at h;split at h
     ·rename_i hij;subst hij;exact⟨_,_,ec⟩
     ·exact⟨_,_,h⟩
    obtain⟨b3,c3,q1⟩:=key e1;obtain⟨b4,c4,q2⟩:=key e2;exact I'.apart j l _ _ _ _ a' ne q1 q2 e3 e4
  refine k b d v _ F2 H2 (sf.trans C.ext) (J.push ?_ fun b' c3 a3 es ev j b2 c2 ej eo=>?_) q2
  ·have h0:=C.get 0 _ rfl;cases b with
   |false=>obtain⟨v',e,r⟩:=h0;simp at e;subst e;exact⟨v,rfl,r⟩
   |true =>
    obtain⟨a3,e,h1,h2,h3,h4⟩:=h0;simp at e;subst e;refine⟨a3,rfl,?_,h2,h3,fun z=>by cases z⟩;by_cases hb:a3=a2
    ·rw[hb];exact n1
    ·rw[erNe a3 hb]at h1;exact I'.base.free h1
  ·subst ev;have h0:=C.get 0 _ rfl;cases b with
   |false=>cases es
   |true =>
    obtain⟨a5,e5,h5,_⟩:=h0;simp at e5;subst e5;rw[getElem?_set]at ej;split at ej
    ·rename_i hij;subst hij;rw[ea]at eo;cases eo;exact C.apart 0 (p+1) false d true c' a2 (by omega) rfl (by simpa using ep) rfl ea2
    ·rename_i hij;have hne:=oth j _ _ _ (fun z=>hij z.symm) ej eo;rw[erNe _ hne]at h5;obtain⟨a4,e1,h1,h2,h3,h4⟩:=I'.get j _ ej;rw[eo]at e1;cases e1;obtain⟨u,hu⟩:=h3.some;rw[h5]at hu;cases hu
variable {CX:CXT}{k:Nat}{f:Addr}{fd:FuncData}{ps:List Str}{R:RD}{E:XK}{x:Str}{p pos:Pos}{e:Expr}
theorem Pd (G:FnOk X.prog X.w X.K X.mg X.base CX k f fd ps (spD R))(hr:Room k X.A)(hg:Gl X x)(hm:X.mg x=some (.ref f))(hk:keepIn X.K (.ref f)=true)(hb:Binds X.K fd ps [])(hx:Fe CX X E)
  (ha:DA X i (e::es) u)(hdb:(x == ("__debug__":Str))=false:=by decide)(he:starEach (e::es) X.env=(false,eval e X.env)::starEach es X.env:=by rfl)(hpl:(backTo pos (starEach es X.env)).any (·.1)=false:=by rfl) :
  DE X (.Call (.Name x p) (e::es) [] pos) (Oi R i u):=by
 obtain⟨t,pt,s⟩:=ha;exact⟨_,yb G hr hg hm hk hb .nil hx pt hdb he hpl,x3p s⟩
noncomputable def Pi:Slot->Slot
 |.ob true c=>.ob true c
 |_=>.no
noncomputable def outS:Nat->List Slot->List Slot
 |0,_=>[]
 |n+1,[]=>.no::outS n []
 |n+1,s::r=>Pi s::outS n r
theorem xl:∀(n:Nat)(δ:List Slot),(outS n δ).length=n
 |0,_=>rfl
 |n+1,[]=>by simp[outS,xl n]
 |n+1,s::r=>by simp[outS,xl n]
theorem Qi:∀{n:Nat}{δ:List Slot}{p:Nat}{s:Slot},(outS n δ)[p]? = some s->s=.no \/ ∃c,s=.ob true c/\δ[p]? = some (.ob true c)
 |0,δ,p,s,h=>by simp[outS]at h
 |n+1,[],0,s,h=>by simp[outS]at h;exact .inl h.symm
 |n+1,[],p+1,s,h=>by
  rcases Qi (n:=n) (δ:=[]) (p:=p) (s:=s) (by simpa[outS] using h) with z|⟨c,_,z⟩
  ·exact .inl z
  ·simp at z
 |n+1,t::r,0,s,h=>by
  simp[outS]at h;cases t with
  |no=>exact .inl h.symm
  |fz d=>exact .inl h.symm
  |sc K d=>exact .inl h.symm
  |ob b c =>
   cases b with
   |false=>exact .inl h.symm
   |true=>exact .inr ⟨c,h.symm,rfl⟩
 |n+1,t::r,p+1,s,h=>by simpa using Qi (n:=n) (δ:=r) (p:=p) (s:=s) (by simpa[outS] using h)
variable {P:Program}{w:World}{K:W.Frag}{mg:Str->Option Value}{base:Heap}
theorem _root_.L2.Fun.okC {x qual:Str}{st:Stmt}{f:Addr}{fd:FuncData}{N ps:List Str}{k:Nat}{sp:Sp}(F:Fun K x qual st f fd)(S:FnScope N ps (ya st))(len:∀vs H Q E,sp vs H Q E->vs.length=ps.length)
  (hbody:∀(cdv:Value)(A:Around)(outer:List Env)(s:Shared)(H:Hp)(vs:List V)(Q:VK)(E:XK),fd.code=cdv->Room k (A.deeper (envOfC qual (ya st) s.heap.objs.size f cdv))->sp vs H Q E ->
   ∃t,PSs (cxOf CX0 P w K mg base N qual (ya st) f cdv A outer s H E).nox (Yb st) t/\t { nx:=fun _ H'=>Q .non H',rt:=Q } (L2.start N vs) H):FnOk P w K mg base CX0 (k+1) f fd ps sp:=by
 obtain⟨oc,od,kV,doc,pm,an,cdv,ct,osl,rfl,lk,hcd⟩:=F.ex;refine ik lk hcd S len fun A outer s H vs Q E hr hsp=>?_;obtain⟨t,h,q⟩:=hbody cdv A outer s H vs Q E rfl hr hsp;exact⟨t,h.nox,q⟩
theorem Fun.dokC {x qual:Str}{st:Stmt}{f:Addr}{fd:FuncData}{N ps:List Str}{k:Nat}{R:RD}(Fn:Fun K x qual st f fd)(S:FnScope N ps (ya st))(hlen:∀δ Qd,R δ Qd->δ.length=ps.length)(hN:ps.length<=N.length)
  (hbody:∀(cdv:Value)(A:Around)(outer:List Env)(s:Shared)(H:Hp)(E:XK)(δ:List Slot)(Qd:Bool->D->List Slot->Prop),fd.code=cdv->Room k (A.deeper (envOfC qual (ya st) s.heap.objs.size f cdv))->R δ Qd ->
   ∃td,DSs (cxOf CX0 P w K mg base N qual (ya st) f cdv A outer s H E).nox (Yb st) td/\td { nx:=fun δ'=>Qd false .non (outS ps.length δ'),rt:=fun b d δ'=>Qd b d (outS ps.length δ') } (δ++replicate (N.length - ps.length) .no)) :
  FnOk P w K mg base CX0 (k+1) f fd ps (spD R):=by
 refine Fn.okC S (fun vs H Q E h=>?_) (fun cdv A outer s H vs Q E hfc hr h=>?_)
 ·obtain⟨x,ic,F,δ,Qd,_,I,hR,_⟩:=h;have:=I.len;rw[length_map]at this;rw[<-this];exact hlen _ _ hR
 ·obtain⟨x,ic,F,δ,Qd,hic,I,hR,kq⟩:=h;have l1:=I.len;rw[length_map]at l1;have l2:=hlen _ _ hR;obtain⟨td,⟨t,pt,st'⟩,ht⟩:=hbody cdv A outer s H E δ Qd hfc hr hR;refine⟨t,pt,?_⟩;have est:L2.start N vs=vs.map some++replicate (N.length - ps.length) none:=by rw[L2.start,<-l1,l2]
  have I1:EI ic x F F (δ++replicate (N.length - ps.length) .no) (L2.start N vs) H:=by
   rw[est];refine⟨I.base,I.sub,I.ext,I.new,by simp[l1],fun j s e=>?_,fun i j b c b' c' a ne e1 e2 e3 e4=>?_⟩
   ·by_cases hj:j<δ.length
    ·rw[getElem?_append_left hj]at e;have:=I.get j s e;rwa [getD_eq_getElem?_getD,getD_eq_getElem?_getD,getElem?_append_left (by simpa[<-l1] using hj),<-getD_eq_getElem?_getD,<-getD_eq_getElem?_getD]
    ·rw[getElem?_append_right (by omega),getElem?_replicate]at e;split at e
     ·cases e;trivial
     ·cases e
   ·have key:∀{j:Nat}{b:Bool}{c:D},(δ++replicate (N.length - ps.length) Slot.no)[j]? = some (.ob b c)->j<δ.length/\δ[j]? = some (.ob b c):=fun {j b c} h=>by
     by_cases hj:j<δ.length
     ·rw[getElem?_append_left hj]at h;exact⟨hj,h⟩
     ·rw[getElem?_append_right (by omega),getElem?_replicate]at h;split at h<;>cases h
    obtain⟨z1,q1⟩:=key e1;obtain⟨z2,q2⟩:=key e2;rw[getD_eq_getElem?_getD,getElem?_append_left (by simpa[<-l1] using z1)]at e3;rw[getD_eq_getElem?_getD,getElem?_append_left (by simpa[<-l1] using z2)]at e4;exact I.apart i j b c b' c' a ne q1 q2 (by rw[getD_eq_getElem?_getD];exact e3) (by rw[getD_eq_getElem?_getD];exact e4)
  have fin:∀(b:Bool)(d:D)(v:V)(F':Hp)(δ':List Slot)(σ':L2.St)(H':Hp),EI (none::ic) x F F' (rsl b d::δ') (some v::σ') H'->EI (none::ic) x F F' (rsl b d::outS ps.length δ') (some v::vs.map some) H':=by
   intro b d v F' δ' σ' H' I2;have key:∀{p:Nat}{c:D},δ'[p]? = some (.ob true c)->∃a,σ'.getD p none=some (.ref a)/\(vs.map some).getD p none=some (.ref a)/\SOk x F' H' (ic.getD p none) (some (.ref a)) (.ob true c):=fun {p c} h=>by
    have q:=I2.get (p+1) _ (by simpa using h);simp only[getD_cons_succ]at q;obtain⟨a,e,h1,h2,h3,h4⟩:=q;have ev:=hic p a (h4 rfl);exact⟨a,e,by simp[getD_eq_getElem?_getD,ev],a,rfl,h1,h2,h3,h4⟩
   refine⟨I2.base,I2.sub,I2.ext,I2.new,by simp[xl,<-l1,l2],fun j s e=>?_,fun i j b1 c b' c' a ne e1 e2 e3 e4=>?_⟩
   ·cases j with
    |zero=>simp at e;subst e;exact I2.get 0 _ rfl
    |succ j =>
     simp only[getElem?_cons_succ,getD_cons_succ]at e ⊢;rcases Qi e with z|⟨c,z,z2⟩
     ·subst z;trivial
     ·subst z;obtain⟨a,_,e2,q⟩:=key z2;rw[e2];exact q
   ·have k2:∀{j:Nat}{b1:Bool}{c:D}{a:Addr},(rsl b d::outS ps.length δ')[j]? = some (.ob b1 c)->(some v::vs.map some).getD j none=some (.ref a)->(rsl b d::δ')[j]? = some (.ob b1 c)/\(some v::σ').getD j none=some (.ref a):=fun {j b1 c a} g1 g2=>by
     cases j with
     |zero=>exact⟨g1,g2⟩
     |succ j =>
      simp only[getElem?_cons_succ,getD_cons_succ]at g1 g2 ⊢;rcases Qi g1 with z|⟨c',z,z2⟩
      ·cases z
      ·cases z;obtain⟨a',q1,q2,_⟩:=key z2;rw[g2]at q2;cases q2;exact⟨z2,q1⟩
    obtain⟨u1,u2⟩:=k2 e1 e3;obtain⟨u3,u4⟩:=k2 e2 e4;exact I2.apart i j _ _ _ _ a ne u1 u3 u2 u4
  exact st' ic x F F _ _ H _ _ I1 ht ⟨fun F' δ' σ' H' sf I2 q2=>kq false .non .non _ F' H' (fin _ _ _ _ _ _ _ I2.pN) q2,fun b d v F' δ' σ' H' sf I2 q2=>kq b d v _ F' H' (fin _ _ _ _ _ _ _ I2) q2,fun _ _ _ _ _ _ z=>z.elim,fun _ _ _ _ _ _ z=>z.elim⟩
theorem Fun.dok {x qual:Str}{st:Stmt}{f:Addr}{fd:FuncData}{N ps:List Str}{k:Nat}{R:RD}(Fn:Fun K x qual st f fd)(S:FnScope N ps (ya st))(hlen:∀δ Qd,R δ Qd->δ.length=ps.length)(hN:ps.length<=N.length)
  (hbody:∀(cdv:Value)(A:Around)(outer:List Env)(s:Shared)(H:Hp)(E:XK)(δ:List Slot)(Qd:Bool->D->List Slot->Prop),Room k (A.deeper (envOfC qual (ya st) s.heap.objs.size f cdv))->R δ Qd ->
   ∃td,DSs (cxOf CX0 P w K mg base N qual (ya st) f cdv A outer s H E).nox (Yb st) td/\td { nx:=fun δ'=>Qd false .non (outS ps.length δ'),rt:=fun b d δ'=>Qd b d (outS ps.length δ') } (δ++replicate (N.length - ps.length) .no)) :
  FnOk P w K mg base CX0 (k+1) f fd ps (spD R) :=
 VL.Fun.dokC Fn S hlen hN fun cdv A outer s H E δ Qd _=>hbody cdv A outer s H E δ Qd
end
end VL
namespace L2
open PySem PySem.Spec PyProof.Rows
structure CScopeG (osc:Scope)(N:List Str)(xs:List Str)(sc:Scope)(M:List Str):Prop where
 kind:sc.kind=.function
 cell:∀y∈sc.names,y.2≠.cell
 names:∀y∈sc.names,y.2=.local->sc.names.lookup y.1=some .local
 free:∀y∈sc.names,y.2=.free->osc.names.lookup y.1=some .cell\/osc.names.lookup y.1=some .free
 ok:namesOk sc N M=true
def Ri (n:Nat)(wi:TI)(g:TG)(tc:TT)(te:TE):TE:=fun σ H Q=>wi σ H fun J H1=>∀D,H1 D=none->∃W:Nat->Nat->List V->Hp->Prop,(∃m,W 0 m [] (upd H1 D (.lst [])))/\∀i m ys H2,W i m ys H2 ->
 H2 D=some (.lst ys)/\((J.stop i H2/\Q (.ref D) H2)\/(J.go i H2/\∃N:List V->Hp->Prop,(∀ys' H',N ys' H'->∃m',m' < m/\W (i+1) m' ys' H')/\∀v H3,J.yld i H2 v H3->∀τ:L2.St,τ.length=n->g v (τ++σ) H3 fun σ4 H4=>(∃τ':L2.St,τ'.length=n/\σ4=τ'++σ)/\tc σ4 H4 fun b H5=>if b=true then te σ4 H5 fun y H6=>H6 D=some (.lst ys)/\ys.length<sizeLine/\N (ys++[y]) (upd H6 D (.lst (ys++[y])))
   else N ys H5))
theorem z5u {prog:Program}{w:World}{A:Around}{R:Result->Shared->Prop}{s:Shared}{elt target iter:Expr}{ifs:List Expr}{scope:Scope}{pos:Pos}{it acc:Value}{env:Env}(I:Nat->Shared->Prop)
  (turn:∀n s,I n s->wpAny (model prog w) A (pyNext it) (fun r s₁=>match r with
   |none=>R (.ok .next) s₁
   |some v=>wpAny (model prog w) A (letOwnedTupleGo target it v >>= fun _=>assign target env v) (fun _ s₂ =>
     wpAny (model prog w) A (forIn ifs true fun c r=>if r=true then do let ok <-isTrue c env (eval c env);pure (ForInStep.yield ok) else pure (ForInStep.yield r)) (fun ok s₃ =>
      if ok=true then wpAny (model prog w) A (eval elt env) (fun x s₄ =>
       wpAny (model prog w) A (call (.builtin "list.append") [acc,x]) (fun _ s₅=>∃m,m<n/\I m s₅) (notedBy (model prog w) A env fun e s'=>R (.error e) s') s₄) (notedBy (model prog w) A env fun e s'=>R (.error e) s') s₃
      else ∃m,m<n/\I m s₃) (notedBy (model prog w) A env fun e s'=>R (.error e) s') s₂) (notedBy (model prog w) A env fun e s'=>R (.error e) s') s₁) (notedBy (model prog w) A env fun e s'=>R (.error e) s') s)
  (n:Nat)(h:I n s) :
  codeAny (model prog w) A (.compLoop (.ListComp elt [⟨target,iter,ifs,0⟩] scope pos) 0 it acc env) R s:=by
 refine codeAny_loop rfl I (fun n s hI=>?_) n h;show wpAny _ A ((compTurn (.ListComp elt [⟨target,iter,ifs,0⟩] scope pos) 0 it acc env).onRaise (fun x=>do noteFrame x env;theTreesLotGoes x)) _ _ s;refine wpAny_noted ?_;rw[compTurn_list];refine wpAny_bind (wpAny_standAt (wpAny_bind (wpAny_mono (turn n s hI) (fun r s₁ h₁=>?_) fun _ _ h'=>h')));cases r with
 |none=>exact wpAny_pure h₁
 |some v =>
  show wpAny _ A (letOwnedTupleGo target it v >>= fun _=>assign target env v >>= _) _ _ s₁;rw[<-bind_assoc];refine wpAny_bind (wpAny_mono h₁ (fun _ s₂ h₂=>wpAny_bind (wpAny_mono h₂ (fun ok s₃ h₃=>?_) fun _ _ h'=>h')) fun _ _ h'=>h');cases ok with
  |false=>exact wpAny_pure ⟨rfl,h₃⟩
  |true =>
   exact wpAny_bind (wpAny_bind (wpAny_mono h₃ (fun x s₄ h₄=>wpAny_bind (wpAny_mono h₄ (fun _ s₅ h₅=>wpAny_pure (wpAny_pure ⟨rfl,h₅⟩)) fun _ _ h'=>h')) fun _ _ h'=>h'))
section
variable {X:Cx}
theorem Tp {elt iter tg:Expr}{xs:List Str}{pos:Pos}{ifs:List Expr}{sc:Scope}{M:List Str}{pins:List (Addr×Obj)}{σ:L2.St}{H2:Hp}{s2:Shared}{it:Addr}{fp:List Addr}{tn:Nat->Heap->Prop}{J:It}{g:TG}{tc:TT}{te:TE}{Q:VK}
  {RR:Value->Addr->Result->Shared->Prop}{E:Value->Shared->Prop}
  (hc:X.calm=true)(hg:∀pins ex H₀ s₀ C,PG (Nb X sc (xs++M) pins ex H₀ s₀ C) tg g)(S:CScopeG X.env.scope X.N xs sc M)
  (ht:∀pins ex H₀ s₀ C,PF (Nb X sc (xs++M) pins ex H₀ s₀ C) ifs tc)(he:∀pins ex H₀ s₀ C,PE (Nb X sc (xs++M) pins ex H₀ s₀ C) elt te)
  (I2:Inv X pins σ H2 s2)(T:Turn X.prog X.w X.K tg J fp it tn)(st2:tn 0 s2.heap)(f2:∀b∈fp,FpOk X pins H2 b)
  (hw:∀D,H2 D=none->∃W:Nat->Nat->List V->Hp->Prop,(∃m,W 0 m [] (upd H2 D (.lst [])))/\∀i m ys H2,W i m ys H2 ->
   H2 D=some (.lst ys)/\((J.stop i H2/\Q (.ref D) H2)\/(J.go i H2/\∃N:List V->Hp->Prop,(∀ys' H',N ys' H'->∃m',m' < m/\W (i+1) m' ys' H')/\∀v H3,J.yld i H2 v H3->∀τ:L2.St,τ.length=xs.length->g v (τ++σ) H3 fun σ4 H4=>(∃τ':L2.St,τ'.length=xs.length/\σ4=τ'++σ)/\tc σ4 H4 fun b H5=>if b=true then te σ4 H5 fun y H6=>H6 D=some (.lst ys)/\ys.length<sizeLine/\N (ys++[y]) (upd H6 D (.lst (ys++[y])))
   else N ys H5)))
  (hRR:∀(D C:Addr)(s':Shared)(H':Hp)(m:Str->Option Value),Inv X pins σ H' s'->s'.heap.Ns C m->H' C=none->s2.heap.objs.size<=C->Q (.ref D) H'->RR (.ref D) C (.ok .next) s') :
  wpAny (model X.prog X.w) X.A (newList []) (fun acc s₃=>wpAny (model X.prog X.w) X.A (newFunctionEnv sc X.env.globals (zc sc.names X.env.cells []) [] X.env.qual none .none (some X.env)) (fun cenv s₄ =>
   codeAny (model X.prog X.w) X.A (.compStart (.ListComp elt [⟨tg,iter,ifs,0⟩] sc pos) 0 (.ref it) acc { cenv with scope:=relabel sc X.env }) (RR acc cenv.locals) s₄) E s₃) E s2:=by
 obtain⟨W,⟨m0,w0⟩,turn⟩:=hw s2.heap.objs.size I2.fresh;have hfreeC:∀y∈sc.names,y.2=.free->∃c,X.env.cells.lookup y.1=some c:=fun y hy hf=>I2.ok.has y.1 (S.free y hy hf);have clk:∀{y:Str}{c:Addr},(zc sc.names X.env.cells []).lookup y=some c->X.env.cells.lookup y=some c:=fun {y c} e=>jp sc.names [] hfreeC (fun z=>by cases z) e;obtain⟨nlen,nget⟩:=namesOk.get S.ok;have I3:Inv X pins σ (upd H2 s2.heap.objs.size (.lst [])) { s2 with heap:=s2.heap.push { cls:=.type "list",data:=.seq ([]:List Value).toArray } }:=I2.lnew (its:=[]) (t':=s2.toks) .nil (zero_le _);refine wpAny_newObj_type ?_;generalize hs3:({ s2 with heap:=s2.heap.push { cls:=.type "list",data:=.seq ([]:List Value).toArray } }:Shared)=s3 at I3;have e3:s3.heap=s2.heap.push { cls:=.type "list",data:=.seq ([]:List Value).toArray }:=by rw[<-hs3]
 have sz3:s3.heap.objs.size=s2.heap.objs.size+1:=by rw[e3,size_push]
 have up3:∀b o,s2.heap.get? b=some o->s3.heap.get? b=some o:=fun b o e=>by rw[e3];exact get?_push_of_some _ e
 have st3:tn 0 s3.heap:=T.keep _ _ _ st2 fun b _ o e=>up3 b o e;have fpL:∀b∈fp,b<s2.heap.objs.size:=fun b hb=>let ⟨_,e,_⟩:=T.obj _ _ st2 b hb;lt_size e;have f3:∀b∈fp,FpOk X pins (upd H2 s2.heap.objs.size (.lst [])) b:=fun b hb=>⟨by rw[wa (ne_of_lt (fpL b hb))];exact(f2 b hb).1,(f2 b hb).2⟩;show wpAny _ _ (newFunctionEnv sc X.env.globals (zc sc.names X.env.cells []) [] X.env.qual none .none (some X.env)) _ _ s3;refine wpAny_newFunctionEnv S.cell (by intro y hy;simp at hy) (fun h₁ hns₁ hsb₁=>?_) S.kind;have old:∀b o,s3.heap.get? b=some o->h₁.get? b=some o:=fun b o e=>hsb₁.extBut b o (ne_of_lt (lt_size e)) (get?_push_of_some _ e);have cellLt:∀{y:Str}{c:Addr},X.env.cells.lookup y=some c->c<s3.heap.objs.size:=fun {y c} e=>let ⟨_,z⟩:=I3.cell y c e;z.lt;have locLt:=I3.lt;generalize hC:s3.heap.objs.size=C at hns₁ hsb₁ cellLt locLt ⊢;have hle:s2.heap.objs.size<=C:=by rw[<-hC,sz3];exact le_succ _
 let X':Cx:=Nb X sc (xs++M) pins fp (upd H2 s2.heap.objs.size (.lst [])) s3 C;have ok':X'.Ok:={
  mod:=I3.ok.mod
  kind:=S.kind
  glob:=I3.ok.glob
  blt:=I3.ok.blt
  above:=le_of_eq hC
  inj:=fun y z c e1 e2=>I3.ok.inj y z c (clk e1) (clk e2)
  has:=fun y hy=>by
   have hf:sc.names.lookup y=some .free:=by
    rcases hy with hy|hy
    ·rcases Ak hy with q|⟨_,q⟩
     ·exact absurd rfl (S.cell _ (bh q))
     ·exact q
    ·rcases Ak hy with q|⟨q,_⟩
     ·exact q
     ·cases q
   exact isSome_iff_exists.mp (zk sc.names [] (.inl (bh hf)))
  cab:=fun y c h _=>by cases h
  hd:=I3.ok.hd
  frames:=I3.ok.frames
  stk:=.inl rfl
  exf:=fun b hb=>⟨ne_of_lt (lt_of_lt_of_le (fpL b hb) hle),fun y c e=>(f3 b hb).2.2.2.2.1 y c (clk e)⟩
  bs:=I3.bs
  bsz:=le_trans I3.ok.bsz I3.sz
  noex:=fun b o e hb=>by
   rcases(f3 b hb).2.2.2.1 with z|z
   ·exact I3.ok.noex b o e z
   ·exact absurd (lt_of_lt_of_le (lt_size e) (le_trans I3.ok.bsz z)) (lt_irrefl _)
  exfs:=fun b hb z=>by
   rcases mem_cons.mp (I3.stkSub b z) with q|q
   ·exact(f3 b hb).2.1 q
   ·exact(f3 b hb).2.2.1 q
  funs:=I3.stack
  frf:=I3.stkFree
  lam:=fun p e=>I3.base.tbls p (I3.ok.lam p e) }
 have seen:∀{h':Heap}{m:Str->Option Value},(∀b o,s3.heap.get? b=some o->h'.get? b=some o)->∀(i:Nat)(y:Str)(v:V),(xs++M)[i]? = some y->(replicate xs.length none++σ)[i]? = some (some v)->Vis (relabel sc X.env) y->∃u,RelV v u/\Look (compEnvC sc (zc sc.names X.env.cells []) C X.env) h' m y u:=by
  intro h' m kp i y v e1 e2 e3;by_cases hi:i<xs.length
  ·rw[getElem?_append_left (by simpa using hi),getElem?_replicate,if_pos hi]at e2;cases e2
  ·obtain⟨i,rfl⟩:∃k,i=xs.length+k:=⟨i - xs.length,by omega⟩;have e1':M[i]? = some y:=by rw[getElem?_append_right (by omega)]at e1;simpa using e1
   have e2':σ[i]? = some (some v):=by rw[getElem?_append_right (by simp)]at e2;simpa using e2
   rcases nget i y e1' with q|⟨q1,q2⟩
   ·rcases e3 with z|z|z<;>rcases Ak z with z|⟨_,z⟩<;>rw[q]at z<;>cases z
   ·have ofree:=S.free (y,.free) (bh q2) rfl;obtain⟨mo,_,hl⟩:=I3.loc;obtain⟨u,r,l⟩:=hl i y v q1 e2' (by rcases ofree with z|z;exact .inr (.inl z);exact .inr (.inr z));refine⟨u,r,.inr ⟨y6x q2,?_⟩⟩;rcases l with ⟨z,_⟩|⟨_,c,z1,z2⟩
    ·have z':X.env.scope.names.lookup y=some .local:=z;rcases ofree with q|q<;>rw[z']at q<;>cases q
    ·obtain⟨c',hc'⟩:=isSome_iff_exists.mp (zk (cells:=X.env.cells) (y:=y) sc.names [] (.inl (bh q2)));have z3:=clk hc';rw[z1]at z3;cases z3;obtain⟨o,ho,hd⟩:=z2;exact⟨c,hc',o,kp c o ho,hd⟩
 have I4:Inv X' [] (replicate xs.length none++σ) (upd H2 s2.heap.objs.size (.lst [])) { s3 with heap:=h₁,toks:=s3.toks+([]:List (Str×Value)).length }:={
  ok:=ok'
  pos:=le_trans I3.pos (le_add_right _ _)
  os:=rfl
  bare:=I3.bare
  base:=Un.kept old
  loc:=⟨_,hns₁,fun i y v e1 e2 e3=>seen old i y v e1 e2 e3⟩
  cell:=fun y c e=>by
   obtain⟨v,o,ho,hd⟩:=I3.cell y c (clk e);exact⟨v,o,old c o ho,hd⟩
  free:=I3.hok.fresh (le_of_eq hC)
  freeC:=fun y c e=>I3.freeC y c (clk e)
  pin:=fun p hp=>by
   have hp':p∈X.pn++pins:=by simpa[X',Nb] using hp
   obtain⟨e,n,ne,nf,d⟩:=I3.pin p hp';refine⟨old _ _ e,n,?_,fun z=>?_,d⟩
   ·exact ne_of_lt (lt_of_lt_of_le (lt_size e) (le_of_eq hC))
   ·rcases mem_cons.mp (I3.stkSub p.1 z) with q|q
    ·exact ne q
    ·exact nf q
  hok:=I3.hok.kept old
  len:=by
   have l3:=I3.len;show(replicate xs.length none++σ).length=(xs++M).length;rw[length_append,length_append,List.length_replicate,l3,nlen] }
 have fx:∀{H':Hp},(∀b∈fp,H' b=none)->∀b∈fp,FpOk X' [] H' b:=fun hn b hb=>by
  refine⟨hn b hb,(ok'.exf b hb).1,ok'.exfs b hb,.inl hb,(ok'.exf b hb).2,fun p hp=>?_⟩;exact(f3 b hb).2.2.2.2.2 p (by simpa[X',Nb] using hp)
 have envE:({ newEnv sc C X.env.globals (zc sc.names X.env.cells []) X.env.qual none .none (some X.env) builtinsNs with scope:=relabel sc X.env }:Env)=compEnvC sc (zc sc.names X.env.cells []) C X.env:=rfl;have loop:codeAny (model X.prog X.w) X.A (.compLoop (.ListComp elt [⟨tg,iter,ifs,0⟩] sc pos) 0 (.ref it) (.ref s2.heap.objs.size) (compEnvC sc (zc sc.names X.env.cells []) C X.env)) (RR (.ref s2.heap.objs.size) C)
   { s3 with heap:=h₁,toks:=s3.toks+([]:List (Str×Value)).length }:=by
  refine z5u (fun n s'=>∃i ys τ H',τ.length=xs.length/\Inv X' [] (τ++σ) H' s'/\tn i s'.heap/\(∀b∈fp,H' b=none)/\W i n ys H') ?_ m0 ⟨0,[],replicate xs.length none,_,by simp,I4,T.keep _ _ _ st3 fun b _ o e=>old b o e,fun b hb=>(f3 b hb).1,w0⟩;rintro n s' ⟨i,ys,τ0,H',hτ,I',st',fr',w'⟩;obtain⟨hD,step⟩:=turn i n ys H' w';rcases step with ⟨stop,q⟩|⟨go,N,hN,step⟩
  ·refine thn (T.done X' rfl rfl rfl hc i [] s' _ H' _ I' (fx fr') st' stop) fun r s5 zq=>?_;obtain⟨hr,I5⟩:=zq;subst hr;obtain⟨m5,hn5,_⟩:=I5.loc;refine hRR _ C s5 H' m5 ?_ hn5 I5.free hle q;refine I3.call' (ch:=fp) I5.os I5.base I5.hok I5.bare fun b hb=>?_;obtain⟨_,z1,_,z3,z4,z5⟩:=f3 b hb;exact⟨z3,z1,z4,z5⟩
  ·refine thnK (T.item X' rfl rfl rfl hc i [] s' _ H' _ I' (fx fr') st' go) fun r s5 k5 zq=>?_;obtain⟨u,hr,h5⟩:=zq;subst hr;have h6:wpAny (model X.prog X.w) X.A (letOwnedTupleGo tg (.ref it) u >>= fun _=>assign tg X'.env u) (fun _ s7=>∃(σ7:L2.St)(H7:Hp)(s6:Shared),Inv X' ([]++ag fp s6.heap) σ7 H7 s7/\tn (i+1) s6.heap/\(∃τ':L2.St,τ'.length=xs.length/\σ7=τ'++σ)/\tc σ7 H7 fun b H5=>if b=true then te σ7 H5 fun y H6=>H6 s2.heap.objs.size=some (.lst ys)/\ys.length<sizeLine/\N (ys++[y]) (upd H6 s2.heap.objs.size (.lst (ys++[y]))) else N ys H5)
     (notedBy (model X.prog X.w) X.A (compEnvC sc (zc sc.names X.env.cells []) C X.env) fun e s'=>RR (.ref s2.heap.objs.size) C (.error e) s') s5:=by
    refine wpAny_bind (thn (hs:=k5) h5 fun _ s6 zq=>?_);obtain⟨v,H6,I6,r6,y6,st6,fr6⟩:=zq;have I6':=I6.pinned (fx fr6) (T.obj _ _ st6);refine thnE (hg pins fp _ s3 C _ s6 _ H6 v u _ I6' r6 (step v H6 y6 τ0 hτ)) (fun _ s7 zq=>?_) fun _ _ z=>z.elim;obtain⟨σ7,H7,I7,q7⟩:=zq;exact⟨σ7,H7,s6,I7,st6,q7⟩
   refine wpAny_mono h6 (fun _ s7 zq=>?_) fun _ _ z=>z;obtain⟨σ7,H7,s6,I7,st6,⟨τ',hτ',eσ⟩,q7⟩:=zq;subst eσ;have again:∀{σ8:L2.St}{H7:Hp}{s8:Shared},Inv X' ([]++ag fp s6.heap) σ8 H7 s8->tn (i+1) s8.heap/\∀b∈fp,H7 b=none:=fun {σ8 H7 s8} I8=>by
    refine⟨T.keep _ _ _ st6 fun b hb o e=>(I8.pin (b,o) (mem_append_right _ (mem_append_right _ (yi hb e)))).1,fun b hb=>?_⟩;obtain⟨o,e,d⟩:=T.obj _ _ st6 b hb;exact(I8.pin (b,o) (mem_append_right _ (mem_append_right _ (yi hb e)))).2.1
   refine thnE (ht pins fp _ s3 C _ s7 _ H7 _ I7 q7) (fun ok s8 zq=>?_) fun _ _ z=>z.elim;obtain⟨H8,I8,q8⟩:=zq;cases ok with
   |false =>
    rw[if_neg Bool.false_ne_true]at q8 ⊢;obtain⟨m',hm,w8⟩:=hN _ _ q8;obtain⟨t8,n8⟩:=again I8;exact⟨m',hm,i+1,ys,τ',H8,hτ',I8.unpinned,t8,n8,w8⟩
   |true =>
    rw[if_pos rfl]at q8 ⊢;refine thnE (he pins fp _ s3 C _ s8 _ H8 _ I8 q8) (fun y s9 zq=>?_) fun _ _ z=>z.elim;obtain⟨vy,H9,I9,r9,hD9,hz,q9⟩:=zq;refine thnE (zb (X:=X') _ s9 _ H9 (.ref s2.heap.objs.size) [vy] (.ref s2.heap.objs.size) [y] (fun _ H'=>H' = upd H9 s2.heap.objs.size (.lst (ys++[vy]))) I9 rfl (.cons r9 .nil) ⟨_,ys,vy,rfl,rfl,hD9,hz,rfl⟩) (fun _ s10 zq=>?_) fun _ _ z=>z.elim;obtain⟨_,H10,I10,_,e10⟩:=zq;subst e10;obtain⟨t10,n10⟩:=again I10;obtain⟨m',hm,w9⟩:=hN _ _ q9;exact⟨m',hm,i+1,ys++[vy],τ',_,hτ',I10.unpinned,t10,n10,w9⟩
 exact codeAny_compStart_list loop (T.self _ 0 _ _ _ (T.keep _ _ _ st3 fun b _ o e=>old b o e) loop)
theorem Vp {elt iter tg:Expr}(xs:List Str){pos:Pos}{ifs:List Expr}{sc:Scope}(M:List Str){wi:TI}{g:TG}{tc:TT}{te:TE}(hc:X.calm=true)(hg:∀pins ex H₀ s₀ C,PG (Nb X sc (xs++M) pins ex H₀ s₀ C) tg g)(S:CScopeG X.env.scope X.N xs sc M)(hi:PI X tg iter wi)
  (ht:∀pins ex H₀ s₀ C,PF (Nb X sc (xs++M) pins ex H₀ s₀ C) ifs tc)(he:∀pins ex H₀ s₀ C,PE (Nb X sc (xs++M) pins ex H₀ s₀ C) elt te)
  (hs:∀v,foldedSetIterable iter X.env v=pure v:=by intro _;rfl):PE X (.ListComp elt [⟨tg,iter,ifs,0⟩] sc pos) (Ri xs.length wi g tc te):=by
 intro pins s σ H Q I h;rw[eval_ListComp];refine wpAny_comprehension_free (use:=none) rfl hs (ip fun y hy hf=>I.ok.has y.1 (S.free y hy hf)) S.kind S.names (thnU (hi pins s σ H _ I h) fun v s1 k1 h1=>thnU (hs:=k1) h1 fun itv s2 k2 h2=>?_);obtain⟨it,fp,tn,J,H2,rfl,I2,T,st2,f2,hw⟩:=h2;refine Tp (RR:=fun acc C=>compPost (model X.prog X.w) X.A X.xe none (EP X pins σ Q) acc C) hc hg S ht he I2 T st2 f2 hw fun D C s' H' m I' hn hC hle q=>?_;refine⟨m,hn,fun h' hs'=>fun _=>⟨.ref D,H',?_,rfl,q⟩⟩;have fC:=I2.fpOk (H':=H') hle hC;exact I'.turned (t':=s'.toks) (fun b o hb e=>(hs'.2 b hb).trans e) hC fC.2.1 fC.2.2.2.1 fC.2.2.2.2.1 fC.2.2.2.2.2
theorem q3x {elt iter tg:Expr}{y:Str}(xs:List Str){py pos spos:Pos}{ifs:List Expr}{sc:Scope}{j:Nat}(M:List Str){wi:TI}{g:TG}{tc:TT}{te:TE}(hN:X.N.Nodup)(hj:X.N[j]? = some y)(hy:X.env.scope.names.lookup y=some .local)(hc:X.calm=true)(hg:∀pins ex H₀ s₀ C,PG (Nb X sc (xs++M) pins ex H₀ s₀ C) tg g)(S:CScopeG X.env.scope X.N xs sc M)(hi:PI X tg iter wi)
  (ht:∀pins ex H₀ s₀ C,PF (Nb X sc (xs++M) pins ex H₀ s₀ C) ifs tc)(he:∀pins ex H₀ s₀ C,PE (Nb X sc (xs++M) pins ex H₀ s₀ C) elt te)
  (hsw:swapsWith (.ListComp elt [⟨tg,iter,ifs,0⟩] sc pos) (some (.Name y py)) spos.line X.env=pure true:=by rfl)
  (hs:∀v,foldedSetIterable iter X.env v=pure v:=by intro _;rfl):PS X (.Assign [.Name y py] (.ListComp elt [⟨tg,iter,ifs,0⟩] sc pos) spos) (tAsg (Ri xs.length wi g tc te) (y0a j)):=by
 intro pins s σ H D I h;rw[exec_Assign_Name_used _ _ _ _ hsw];refine wpAny_bind (wpAny_standAt (wpAny_bind ?_));show wpAny _ _ (do let _ <-comprehension (.ListComp elt [⟨tg,iter,ifs,0⟩] sc pos) sc X.env _ (newList []) false (eval iter X.env) (some (assign (.Name y py) X.env))) _ _ s;refine wpAny_bind (wpAny_mono (wpAny_comprehension_free (use:=some (assign (.Name y py) X.env)) (Q:=fun _ s'=>SP X pins D .next s') rfl hs (ip fun y hy hf=>I.ok.has y.1 (S.free y hy hf)) S.kind S.names
  (thnU (hi pins s σ H _ I h) fun v s1 k1 h1=>thnU (hs:=k1) h1 fun itv s2 k2 h2=>?_)) (fun _ s' hq=>wpAny_pure (wpAny_pure hq)) fun _ _ e=>e)
 obtain⟨it,fp,tn,J,H2,rfl,I2,T,st2,f2,hw⟩:=h2;refine Tp (Q:=fun x H1=>y0a j x σ H1 D.nx) (RR:=fun acc C=>compPost (model X.prog X.w) X.A X.xe (some (assign (.Name y py) X.env)) (fun _ s'=>SP X pins D .next s') acc C) hc hg S ht he I2 T st2 f2 hw fun D' C s' H' m I' hn hC hle q=>?_;have fC:=I2.fpOk (H':=H') hle hC;show wpAny _ _ (assign (.Name y py) X.env (.ref D')) _ _ s';refine wpAny_assign_Name (Yn (v:=.ref D') I' hN hj (.inl hy) rfl (fun s3 I3 ⟨a,sb,ha⟩=>?_) (.inr hy));have haC:C≠a:=by
  rcases ha with rfl|ha
  ·exact fC.2.1
  ·exact fun z=>fC.2.2.2.2.1 y a ha z.symm
 refine⟨m,hn.sameBut sb haC,fun h' hs'=>fun _=>⟨_,H',?_,q⟩⟩;exact I3.turned (t':=s3.toks) (fun b o hb e=>(hs'.2 b hb).trans e) hC fC.2.1 fC.2.2.2.1 fC.2.2.2.2.1 fC.2.2.2.2.2
end
end L2
namespace VL
open PySem L2
section
variable {io:List (Option Addr)}{H0 F0 F F':Hp}{δ:List Slot}{σ:St}{H:Hp}
theorem EI.pushN {o:Option V}(I:EI io H0 F0 F δ σ H):EI (none::io) H0 F0 F (.no::δ) (o::σ) H where
 base:=I.base
 sub:=I.sub
 ext:=I.ext
 new:=I.new
 len:=by simp[I.len]
 get:=fun i t e=>by
  cases i with
  |zero=>simp at e;subst e;trivial
  |succ i=>simpa using I.get i t (by simpa using e)
 apart:=fun i j b c b' c' a ne e1 e2 e3 e4=>by
  cases i with
  |zero=>simp at e1
  |succ i =>
   cases j with
   |zero=>simp at e2
   |succ j=>exact I.apart i j b c b' c' a (by omega) (by simpa using e1) (by simpa using e2) (by simpa using e3) (by simpa using e4)
theorem EI.pad (I:EI io H0 F0 F δ σ H):∀(τ:St),EI (replicate τ.length none++io) H0 F0 F (replicate τ.length .no++δ) (τ++σ) H
 | []=>I
 |o::τ=>by
  have:=(I.pad τ).pushN (o:=o);simpa[List.replicate_succ] using this
theorem EI.unpad:∀{τ:St}{δ:List Slot},EI (replicate τ.length none++io) H0 F0 F δ (τ++σ) H->EI io H0 F0 F (δ.drop τ.length) σ H
 | [],δ,I=>I
 |o::τ,[],I=>by have:=I.len;simp at this
 |o::τ,s::δ,I=>by
  have I':EI (none::(replicate τ.length none++io)) H0 F0 F (s::δ) (o::(τ++σ)) H:=by simpa[List.replicate_succ] using I
  simpa using EI.unpad I'.pop
theorem EI.hide {p:Addr}{acc:List D}{ys:List V}(I:EI (none::io) H0 F0 F (.ob false (.lst acc)::δ) (some (.ref p)::σ) H)(hp:H p=some (.lst ys)):EI io (upd H0 p (.lst ys)) F0 F δ σ H:=by
 have J:=I.pop;obtain⟨a,e,h1,h2,h3,h4⟩:=I.get 0 _ rfl;simp at e;subst e;refine⟨fun b o eb=>?_,I.sub,I.ext,fun b o e h=>?_,J.len,fun i t e=>?_,J.apart⟩
 ·by_cases hb:b=p
  ·subst hb;rw[z0h]at eb;cases eb;exact hp
  ·rw[wa hb]at eb;exact I.base b o eb
 ·rw[wa (fun z=>by rw[z,h2]at e;cases e)];exact I.new b o e h
 ·have q:=J.get i t e;cases t with
  |no=>trivial
  |fz d=>exact q
  |sc K d=>exact q
  |ob b c =>
   obtain⟨a,e1,g1,g2,g3,g4⟩:=q;refine⟨a,e1,?_,g2,g3,g4⟩;rw[wa]
   ·exact g1
   ·rintro rfl;exact I.apart 0 (i+1) _ _ _ _ _ (by omega) rfl (by simpa using e) rfl (by simpa using e1)
theorem EI.unhide {p:Addr}{acc:List D}{ys ys':List V}(I:EI io (upd H0 p (.lst ys)) F0 F δ σ H)(h0:H0 p=none)(hF:F0 p=none)(r:Reps F acc ys'):EI (none::io) H0 F0 F (.ob false (.lst acc)::δ) (some (.ref p)::σ) (upd H p (.lst ys')):=by
 have hFp:F p=none:=by
  cases q:F p with
  |none=>rfl
  |some o=>have:=I.new p o q hF;rw[z0h]at this;cases this
 have ownNe:∀{i:Nat}{b:Bool}{c:D}{a:Addr},δ[i]? = some (.ob b c)->σ.getD i none=some (.ref a)->a≠p:=fun {i b c a} e eo z=>by
  obtain⟨a',e1,g1,_⟩:=I.get i _ e;rw[eo]at e1;cases e1;rw[z,z0h]at g1;cases g1
 refine⟨fun b o eb=>?_,I.sub.upd hFp,I.ext,fun b o e h=>?_,by simp[I.len],fun i t e=>?_,fun i j b c b' c' a ne e1 e2 e3 e4=>?_⟩
 ·have hb:b≠p:=fun z=>by rw[z,h0]at eb;cases eb
  rw[wa hb];exact I.base b o (by rw[wa hb];exact eb)
 ·have q:=I.new b o e h;by_cases hb:b=p
  ·rw[hb];exact h0
  ·rw[wa hb]at q;exact q
 ·cases i with
  |zero=>simp at e;subst e;exact⟨p,rfl,h0,hFp,⟨ys',z0h,r⟩,fun z=>by cases z⟩
  |succ i =>
   have e':δ[i]? = some t:=by simpa using e
   have q:=I.get i t e';simp only[getD_cons_succ];cases t with
   |no=>trivial
   |fz d=>exact q
   |sc K d=>exact q
   |ob b c =>
    obtain⟨a,e1,g1,g2,g3,g4⟩:=q;have ne:=ownNe e' e1;rw[wa ne]at g1;exact⟨a,e1,g1,g2,g3.mono (Same.refl _) (fun o eo=>by rw[wa ne];exact eo),g4⟩
 ·cases i with
  |zero =>
   cases j with
   |zero=>exact ne rfl
   |succ j=>simp at e1 e3;subst e3;exact ownNe (by simpa using e2) (by simpa using e4) rfl
  |succ i =>
   cases j with
   |zero=>simp at e2 e4;subst e4;exact ownNe (by simpa using e1) (by simpa using e3) rfl
   |succ j=>exact I.apart i j b c b' c' a (by omega) (by simpa using e1) (by simpa using e2) (by simpa using e3) (by simpa using e4)
def Si (n:Nat)(g:TG)(gd:TGd):Prop:=∀(io:List (Option Addr))(H0 F0 F:Hp)(δ:List Slot)(σ:St)(H:Hp)(d:D)(v:V)(Q:St->Hp->Prop)(Qd:List Slot->Prop),EI io H0 F0 F δ σ H->Rep F d v->gd d δ Qd ->
 (∀δ' σ',EI io H0 F0 F δ' σ' H->σ'.drop n=σ.drop n->σ'.length=σ.length->Qd δ'->Q σ' H)->g v σ H Q
def j9e (n:Nat)(g:TGs)(gd:TGsd):Prop:=∀(io:List (Option Addr))(H0 F0 F:Hp)(δ:List Slot)(σ:St)(H:Hp)(ds:List D)(vs:List V)(Q:St->Hp->Prop)(Qd:List Slot->Prop),EI io H0 F0 F δ σ H->Reps F ds vs->gd ds δ Qd ->
 (∀δ' σ',EI io H0 F0 F δ' σ' H->σ'.drop n=σ.drop n->σ'.length=σ.length->Qd δ'->Q σ' H)->g vs σ H Q
def DGn (X:Cx)(n:Nat)(e:Expr)(gd:TGd):Prop:=∃g,PG X e g/\Si n g gd
def DGsn (X:Cx)(n:Nat)(es:List Expr)(gd:TGsd):Prop:=∃g,PGs X es g/\j9e n g gd
variable {X:Cx}{pos:Pos}{n:Nat}
theorem Jc {i:Nat}{x:Str}(hn:i<n)(hN:X.N.Nodup)(hi:X.N[i]? = some x)(hx:Loc X.env.scope x)(hf:X.fn x=true\/X.env.scope.names.lookup x=some .local:=by first|exact .inl rfl|exact .inr rfl|assumption):DGn X n (.Name x pos) (dgN i) :=
 ⟨_,uf hN hi hx hf,fun io H0 F0 F δ σ H d v Q Qd I r q k=>by
  obtain⟨h,q⟩:=q;obtain⟨h1,h2⟩:=h.ne;refine k _ _ ((I.pushF r).setv (b:=false) h1 h2) ?_ (by simp) q;rw[List.drop_set_of_lt (by omega)]⟩
theorem Wp:DGsn X n [] Bf:=⟨_,ui,fun io H0 F0 F δ σ H ds vs Q Qd I r q k=>by
 obtain⟨rfl,q⟩:=q;exact⟨r,k _ _ I rfl rfl q⟩⟩
theorem Ti {e:Expr}{es:List Expr}{g:TGd}{u:TGsd}(h1:DGn X n e g)(h2:DGsn X n es u)
  (hs:(assignEach (e::es) X.env).map (·.2)=assign e X.env::(assignEach es X.env).map (·.2):=by rfl):DGsn X n (e::es) (me g u):=by
 obtain⟨t,p,s⟩:=h1;obtain⟨t',p',s'⟩:=h2;refine⟨_,Zf p p' hs,fun io H0 F0 F δ σ H ds vs Q Qd I r q k=>?_⟩;obtain⟨d,dr,rfl,q⟩:=q;obtain⟨v,vr,rfl,r1,r2⟩:=r;exact⟨v,vr,rfl,s io H0 F0 F δ σ H d v _ _ I r1 q fun δ' σ' I' e1 e2 q'=>s' io H0 F0 F δ' σ' H dr vr Q Qd I' r2 q' fun δ2 σ2 I2 e3 e4 q2=>k δ2 σ2 I2 (e3.trans e1) (e4.trans e2) q2⟩
theorem Xp {es:List Expr}{k:Nat}{u:TGsd}{m:Nat}(hc:X.calm=true)(h:DGsn X n es u)
  (hn:(assignEach es X.env).length=m:=by rfl)(hst:(assignEach es X.env).findIdx? (·.1)=none:=by rfl):DGn X n (.Tuple es k pos) (oe m u):=by
 obtain⟨t,p,s⟩:=h;refine⟨_,vi hc p hn hst,fun io H0 F0 F δ σ H d v Q Qd I r q k=>?_⟩;obtain⟨ds,rfl,hl,q⟩:=q;obtain⟨a,vs,rfl,h1,r1⟩:=r;exact⟨a,vs,rfl,SqT.of (I.sub _ _ h1),by rw[<-r1.len];exact hl,s io H0 F0 F δ σ H ds vs Q Qd I r1 q k⟩
def dYes:TTd:=fun δ Q=>Q true δ
def DF (X:Cx)(ifs:List Expr)(td:TTd):Prop:=∃t,PF X ifs t/\SimT t td
theorem Sd {X:Cx}:DF X [] dYes:=⟨_,j6n,fun io H0 F0 F δ σ H Q Qd I q k=>k true δ F H (Same.refl _) I q⟩
theorem zl {X:Cx}{c:Expr}{td:TTd}(h:DT X c td):DF X [c] td:=by obtain⟨t,p,s⟩:=h;exact⟨t,j8d p,s⟩
def Ui (n:Nat)(di:TLd)(gd:TGd)(tc:TTd)(te:TEd):TEd:=fun δ Q=>di δ fun ds δ'=>∃P:List D->List D->List Slot->Prop,P ds [] δ' /\
 (∀d r acc δ1,P (d::r) acc δ1->gd d (replicate n .no++δ1) fun δ2=>tc δ2 fun b δ3=>if b=true then te δ3 fun _ y δ4=>acc.length<sizeLine/\P r (acc++[y]) (δ4.drop n) else P r acc (δ3.drop n)) /\
 ∀acc δ1,P [] acc δ1->Q true (.lst acc) δ1
theorem Yp {n:Nat}{wi:TI}{g:TG}{tc:TT}{te:TE}{di:TLd}{gd:TGd}{cd:TTd}{ed:TEd}(si:SimI wi di)(sg:Si n g gd)(sc:SimT tc cd)(se:Sim te ed):Sim (Ri n wi g tc te) (Ui n di gd cd ed):=by
 intro io H0 F0 F δ σ H Q Qd I q k;refine si io H0 F0 F δ σ H _ _ I q fun J ds δ' F' H' sf I' ok q' Dp hD=>?_;obtain⟨P,p0,step,fin⟩:=q';have hF0:F0 Dp=none:=I'.ext.free (I'.sub.free hD);refine⟨fun i m ys H=>m=ds.length - i/\i<=ds.length/\∃F1 δ1 acc,Same F' F1/\EI (none::io) H0 F0 F1 (.ob false (.lst acc)::δ1) (some (.ref Dp)::σ) H/\H Dp=some (.lst ys)/\P (ds.drop i) acc δ1,⟨ds.length,by simp,zero_le _,F',δ',[],Same.refl _,I'.newL hD rfl,z0h,p0⟩,?_⟩;rintro i m ys H1 ⟨rfl,hi,F1,δ1,acc,s1,I1,hy,p1⟩;refine⟨hy,?_⟩;obtain⟨a,e,hH0,hF1,⟨vs,hv,rv⟩,_⟩:=I1.get 0 _ rfl;simp at e;subst e;rw[hy]at hv;cases hv;have Ih:=I1.hide hy;obtain⟨o1,o2⟩:=ok io _ F0 F1 δ1 σ H1 s1 Ih i;by_cases hlt:i<ds.length
 ·have ed':ds[i]? = some ds[i]:=by simp[hlt]
  have edr:ds.drop i=ds[i]::ds.drop (i+1):=drop_eq_getElem_cons hlt;rw[edr]at p1;obtain⟨go,yl⟩:=o1 _ ed';refine .inr ⟨go,fun ys' H'=>∃F2 δ2 acc',Same F' F2/\EI (none::io) H0 F0 F2 (.ob false (.lst acc')::δ2) (some (.ref Dp)::σ) H'/\H' Dp=some (.lst ys')/\P (ds.drop (i+1)) acc' δ2,fun ys' H' hN=>⟨ds.length - (i+1),by omega,rfl,hlt,hN⟩,fun x H2 y τ hτ=>?_⟩;obtain⟨F2,s2,I2,r2⟩:=yl x H2 y;have I2p:=I2.pad τ;rw[hτ]at I2p;refine sg _ _ F0 F2 _ (τ++σ) H2 _ x _ _ I2p r2 (step _ _ acc δ1 p1) fun δ3 σ3 I3 e1 e2 q3=>?_;have eσ:σ3=σ3.take n++σ:=by
   have h1:σ3.drop n=σ:=by rw[e1,<-hτ];simp
   conv=>lhs;rw[<-take_append_drop n σ3,h1]
  have lτ:(σ3.take n).length=n:=by
   rw[length_take,e2,length_append,hτ];omega
  refine⟨⟨σ3.take n,lτ,eσ⟩,?_⟩;refine sc _ _ F0 F2 δ3 σ3 H2 _ _ I3 q3 fun b δ4 F4 H4 s4 I4 q4=>?_;have back:∀{δ5:List Slot}{F5 H5:Hp},EI (replicate n none++io) (upd H0 Dp (.lst ys)) F0 F5 δ5 σ3 H5->EI io (upd H0 Dp (.lst ys)) F0 F5 (δ5.drop n) σ H5:=fun {δ5 F5 H5} I5=>by
   rw[eσ]at I5;have I5':EI (replicate (σ3.take n).length none++io) (upd H0 Dp (.lst ys)) F0 F5 δ5 (σ3.take n++σ) H5:=by rw[lτ];exact I5
   have:=EI.unpad I5';rwa [lτ]at this
  cases b with
  |false =>
   rw[if_neg Bool.false_ne_true]at q4 ⊢;have I5:=(back I4);have hy4:H4 Dp=some (.lst ys):=I4.base _ _ z0h;have I6:=I5.unhide (ys':=ys) hH0 hF0 (Reps.mono (s2.trans s4) _ _ rv);have eH:upd H4 Dp (.lst ys)=H4:=by
    funext b;by_cases hb:b=Dp
    ·rw[hb,z0h,hy4]
    ·rw[wa hb]
   rw[eH]at I6;exact⟨F4,_,acc,(s1.trans s2).trans s4,I6,hy4,q4⟩
  |true =>
   rw[if_pos rfl]at q4 ⊢;refine se.fz I4 q4 fun d v δ5 F5 H5 s5 I5 r5 q5=>?_;refine⟨I5.base _ _ z0h,by rw[<-rv.len];exact q5.1,F5,_,acc++[d],((s1.trans s2).trans s4).trans s5,?_,z0h,q5.2⟩;exact(back I5).unhide hH0 hF0 ((Reps.mono ((s2.trans s4).trans s5) _ _ rv).app (.one r5))
 ·have e:i=ds.length:=by omega
  subst e;rw[drop_length]at p1;exact .inl ⟨o2 rfl,k true _ _ δ1 F1 H1 (sf.trans s1) I1 (fin acc δ1 p1)⟩
def tOf (td:TEd):TE:=fun σ H Q=>∃io H0 F0 F δ Qd,EI io H0 F0 F δ σ H/\td δ Qd/\∀b d v δ' F' H',Same F F'->EI (none::io) H0 F0 F' (rsl b d::δ') (some v::σ) H'->Qd b d δ'->Q v H'
theorem Al (td:TEd):Sim (tOf td) td:=fun io H0 F0 F δ σ H Q Qd I q k=>⟨io,H0,F0,F,δ,Qd,I,q,k⟩
theorem DE.pe {X:Cx}{e:Expr}{td:TEd}(h:DE X e td):PE X e (tOf td):=by
 obtain⟨te,p,s⟩:=h;intro pins s' σ H Q I q;obtain⟨io,H0,F0,F,δ,Qd,J,q,k⟩:=q;exact p pins s' σ H Q I (s io H0 F0 F δ σ H Q Qd J q k)
def ttOf (td:TTd):TT:=fun σ H Q=>∃io H0 F0 F δ Qd,EI io H0 F0 F δ σ H/\td δ Qd/\∀b δ' F' H',Same F F'->EI io H0 F0 F' δ' σ H'->Qd b δ'->Q b H'
theorem Bl (td:TTd):SimT (ttOf td) td:=fun io H0 F0 F δ σ H Q Qd I q k=>⟨io,H0,F0,F,δ,Qd,I,q,k⟩
theorem DF.pf {X:Cx}{e:List Expr}{td:TTd}(h:DF X e td):PF X e (ttOf td):=by
 obtain⟨te,p,s⟩:=h;intro pins s' σ H Q I q;obtain⟨io,H0,F0,F,δ,Qd,J,q,k⟩:=q;exact p pins s' σ H Q I (s io H0 F0 F δ σ H Q Qd J q k)
def tgOf (n:Nat)(gd:TGd):TG:=fun v σ H Q=>∃io H0 F0 F δ d Qd,EI io H0 F0 F δ σ H/\Rep F d v/\gd d δ Qd/\∀δ' σ',EI io H0 F0 F δ' σ' H->σ'.drop n=σ.drop n->σ'.length=σ.length->Qd δ'->Q σ' H
theorem Dl (n:Nat)(gd:TGd):Si n (tgOf n gd) gd:=fun io H0 F0 F δ σ H d v Q Qd I r q k=>⟨io,H0,F0,F,δ,d,Qd,I,r,q,k⟩
theorem DGn.pg {X:Cx}{n:Nat}{e:Expr}{gd:TGd}(h:DGn X n e gd):PG X e (tgOf n gd):=by
 obtain⟨g,p,s⟩:=h;intro pins s' σ H v u Q I r q;obtain⟨io,H0,F0,F,δ,d,Qd,J,rd,q,k⟩:=q;exact p pins s' σ H v u Q I r (s io H0 F0 F δ σ H d v Q Qd J rd q k)
theorem re {elt iter tg:Expr}(xs:List Str){pos:Pos}{ifs:List Expr}{sc:Scope}(M:List Str){di:TLd}{gd:TGd}{cd:TTd}{ed:TEd}(hc:X.calm=true)(S:CScopeG X.env.scope X.N xs sc M)(hi:DI X tg iter di)(hg:∀pins ex H₀ s₀ C,DGn (Nb X sc (xs++M) pins ex H₀ s₀ C) xs.length tg gd)
  (ht:∀pins ex H₀ s₀ C,DF (Nb X sc (xs++M) pins ex H₀ s₀ C) ifs cd)(he:∀pins ex H₀ s₀ C,DE (Nb X sc (xs++M) pins ex H₀ s₀ C) elt ed)
  (hs:∀v,foldedSetIterable iter X.env v=pure v:=by intro _;rfl):DE X (.ListComp elt [⟨tg,iter,ifs,0⟩] sc pos) (Ui xs.length di gd cd ed):=by
 obtain⟨wi,p2,s2⟩:=hi;exact⟨_,Vp xs M hc (fun pins ex H₀ s₀ C=>(hg pins ex H₀ s₀ C).pg) S p2 (fun pins ex H₀ s₀ C=>(ht pins ex H₀ s₀ C).pf) (fun pins ex H₀ s₀ C=>(he pins ex H₀ s₀ C).pe) hs,Yp s2 (Dl _ _) (Bl _) (Al _)⟩
theorem El {elt iter tg:Expr}{y:Str}(xs:List Str){py pos spos:Pos}{ifs:List Expr}{sc:Scope}{j:Nat}(M:List Str){di:TLd}{gd:TGd}{cd:TTd}{ed:TEd}(hN:X.N.Nodup)(hj:X.N[j]? = some y)(hy:X.env.scope.names.lookup y=some .local)(hc:X.calm=true)(S:CScopeG X.env.scope X.N xs sc M)(hi:DI X tg iter di)
  (hg:∀pins ex H₀ s₀ C,DGn (Nb X sc (xs++M) pins ex H₀ s₀ C) xs.length tg gd)(ht:∀pins ex H₀ s₀ C,DF (Nb X sc (xs++M) pins ex H₀ s₀ C) ifs cd)(he:∀pins ex H₀ s₀ C,DE (Nb X sc (xs++M) pins ex H₀ s₀ C) elt ed)
  (hsw:swapsWith (.ListComp elt [⟨tg,iter,ifs,0⟩] sc pos) (some (.Name y py)) spos.line X.env=pure true:=by rfl)
  (hs:∀v,foldedSetIterable iter X.env v=pure v:=by intro _;rfl):DS X (.Assign [.Name y py] (.ListComp elt [⟨tg,iter,ifs,0⟩] sc pos) spos) (dSet j (Ui xs.length di gd cd ed)):=by
 obtain⟨wi,p2,s2⟩:=hi;exact⟨_,q3x xs M hN hj hy hc (fun pins ex H₀ s₀ C=>(hg pins ex H₀ s₀ C).pg) S p2 (fun pins ex H₀ s₀ C=>(ht pins ex H₀ s₀ C).pf) (fun pins ex H₀ s₀ C=>(he pins ex H₀ s₀ C).pe) hsw hs,Np (Yp s2 (Dl _ _) (Bl _) (Al _))⟩
end
end VL
namespace L2
open PySem PySem.Spec PyProof.Rows
section
variable {X:Cx}
theorem j6q:SlR X (fun x lo hi H Q=>∃z,x=.str z/\z.length<=sizeLine/\Q (.str (Txt.slice z lo hi)) H):=by
 intro pins s σ H x v vl vu lo hi sl Q I rx hs pl pu h;obtain⟨z,rfl,hz,q⟩:=h;obtain⟨t,rfl⟩:=rx;refine⟨"str",_,F.slot_str_getitem.lookup,typeIs_str _ _ _,?_⟩;have key:∀(l u:Option (Int×Tok)),vl=partValue l->vu=partValue u->lo=l.map (·.1)->hi=u.map (·.1)->wpAny (model X.prog X.w) X.A (getItem (.str z t) (.ref sl)) (EP X pins σ Q) X.xe s:=by
  intro l u e1 e2 e3 e4;subst e1 e2 e3 e4;refine wpAny_getItem_str_slice (l:=l) (u:=u) (st:=none) hs rfl (post_val_or_str ⟨le_trans (slice_le z _ _) hz,fun t' k=>?_⟩);exact(fun _=>⟨.str _,H,I.tok k,⟨t',rfl⟩,q⟩)
 cases pl with
 |none =>
  cases pu with
  |none=>exact key none none rfl rfl rfl rfl
  |int j u=>exact key none (some (j,u)) rfl rfl rfl rfl
 |int i u' =>
  cases pu with
  |none=>exact key (some (i,u')) none rfl rfl rfl rfl
  |int j u=>exact key (some (i,u')) (some (j,u)) rfl rfl rfl rfl
theorem Zp:∀{ts:List Str}{us:List Value},Vals (ts.map V.str) us->∃l:List (Str×Tok),us=strValues l/\l.map (·.1)=ts
 | [],_,.nil=>⟨[],rfl,rfl⟩
 |t::ts,_,.cons r rs=>by
  obtain⟨k,rfl⟩:=r;obtain⟨l,rfl,e⟩:=Zp rs;exact⟨(t,k)::l,rfl,by simp[e]⟩
theorem j0x:MtR X "str.join" (fun x vs H Q=>∃sep p,x=.str sep/\vs=[.ref p]/\∃ts:List Str,H p=some (.lst (ts.map V.str))/\JoinOk sep ts=true/\Q (.str (join sep ts)) H):=by
 intro pins s σ H x xs v us Q I rx rs h;obtain⟨sep,p,rfl,rfl,ts,hp,ok,q⟩:=h;obtain⟨t,rfl⟩:=rx;obtain⟨u,rfl,ru⟩:=Mc rs;cases ru;obtain⟨its,rv,pl,hz⟩:=I.list (SqL.of hp);obtain⟨l,rfl,el⟩:=Zp rv;exact SC.join pl.isList el ok fun t' k=>(fun _=>⟨.str _,H,I.tok k,⟨t',rfl⟩,q⟩)
end
end L2
namespace VL
open PySem L2
section
variable {X:Cx}{pos:Pos}
theorem ue {x:Str}{z:Str}{pos:Pos}(hg:Gl X x)(hm:∃t,X.mg x=some (.str z t))(hd:(x == ("__debug__":Str))=false:=by decide):DE X (.Name x pos) (dC (.str z)):=by
 obtain⟨t,hm⟩:=hm;exact Ap (v:=.str z) (fun _=>rfl) hg hm ⟨t,rfl⟩ hd
theorem Fl {x:Str}{z:Int}{pos:Pos}(hg:Gl X x)(hm:∃t,X.mg x=some (.int z t))(hd:(x == ("__debug__":Str))=false:=by decide):DE X (.Name x pos) (dC (.int z)):=by
 obtain⟨t,hm⟩:=hm;exact Ap (v:=.int z) (fun _=>rfl) hg hm ⟨t,rfl⟩ hd
def fIxQ:D->D->(Bool->D->Prop)->Prop:=fun x y Q=>∃xs i d,(x=.lst xs\/x=.tup xs)/\y=.int i/\atI xs i=some d/\Q false d
theorem bq {K:W.Frag}:OpS (rIx K) fIxQ:=by
 intro io H0 F0 F δ σ H x y v u Q Qd I px py q k;obtain⟨xs,i,d,hx,rfl,h,q⟩:=q;rcases hx with rfl|rfl
 ·obtain⟨a,vs,rfl,h1,r1⟩:=px.lst I;obtain⟨w,e,r⟩:=r1.atI h;exact .inl ⟨a,vs,i,w,rfl,py.int,SqL.of h1,e,k false d w F H (Same.refl _) (I.pushF r) q⟩
 ·obtain⟨a,vs,rfl,h1,r1⟩:=px.tup I;obtain⟨w,e,r⟩:=r1.atI h;exact .inr (.inl ⟨a,vs,i,w,rfl,py.int,SqT.of h1,e,k false d w F H (Same.refl _) (I.pushF r) q⟩)
def nh:List D->(Bool->D->Prop)->Prop:=fun ds Q=>∃xs,(ds=[.lst xs]\/ds=[.tup xs])/\Q false (.int xs.length)
theorem Hl {K:W.Frag}:Wc (fun xs H Q=>∃p ys,xs=[.ref p]/\(SqL K H p ys\/SqT K H p ys)/\Q (.int ys.length) H) nh:=by
 intro io H0 F0 F δ σ H xs vs Q Qd I px q k;obtain⟨ys,h,q⟩:=q;rcases h with rfl|rfl
 ·obtain⟨v,rfl,pk⟩:=pks1 px;obtain⟨a,us,rfl,h1,r⟩:=pk.lst I;refine⟨a,us,rfl,.inl (SqL.of h1),k false (.int ys.length) _ F H (Same.refl _) (I.pushF ?_) q⟩;rw[r.len];rfl
 ·obtain⟨v,rfl,pk⟩:=pks1 px;obtain⟨a,us,rfl,h1,r⟩:=pk.tup I;refine⟨a,us,rfl,.inr (SqT.of h1),k false (.int ys.length) _ F H (Same.refl _) (I.pushF ?_) q⟩;rw[r.len];rfl
abbrev TOd:=List Slot->(Option Int->List Slot->Prop)->Prop
def SimO (t:TO)(td:TOd):Prop:=∀(io:List (Option Addr))(H0 F0 F:Hp)(δ:List Slot)(σ:St)(H:Hp)(Q:Option Int->Hp->Prop)(Qd:Option Int->List Slot->Prop),EI io H0 F0 F δ σ H->td δ Qd ->
 (∀o δ' F' H',Same F F'->EI io H0 F0 F' δ' σ H'->Qd o δ'->Q o H')->t σ H Q
def DO (X:Cx)(e:Option Expr)(td:TOd):Prop:=∃t,PO X e t/\SimO t td
def doN:TOd:=fun δ Q=>Q none δ
def doS (t:TEd):TOd:=fun δ Q=>t δ fun _ d δ'=>∃i,d=.int i/\Q (some i) δ'
theorem jb:DO X none doN:=⟨_,j0c,fun io H0 F0 F δ σ H Q Qd I q k=>k none δ F H (Same.refl _) I q⟩
theorem Fa {e:Expr}{t:TEd}(h:DE X e t):DO X (some e) (doS t):=by
 obtain⟨t,p,s⟩:=h;refine⟨_,j3q p,fun io H0 F0 F δ σ H Q Qd I q k=>s.fz I q fun d v δ' F' H' sf I' r q'=>?_⟩;obtain⟨i,rfl,q'⟩:=q';exact⟨i,r,k (some i) δ' F' H' sf I' q'⟩
noncomputable def cutD (xs:List D)(lo hi:Option Int):List D:=(xs.drop (HT.sIx xs.length 0 lo)).take (HT.sIx xs.length xs.length hi - HT.sIx xs.length 0 lo)
theorem Reps.cut {F:Hp}{ds:List D}{vs:List V}(r:Reps F ds vs)(lo hi:Option Int):Reps F (cutD ds lo hi) (cutV vs lo hi):=by
 unfold cutD cutV;rw[r.len];exact(r.drop _).take _
def Il (i:Nat)(l h:TOd):TEd:=fun δ Q=>(peek δ i).isSome=true/\l δ fun lo δ2=>h δ2 fun hi δ3=>∃xs,peek δ3 i=some (.lst xs)/\Q true (.lst (cutD xs lo hi)) δ3
def dSlS (t:TEd)(l h:TOd):TEd:=fun δ Q=>t δ fun _ d δ1=>l δ1 fun lo δ2=>h δ2 fun hi δ3=>∃z,d=.str z/\z.length<=sizeLine/\Q false (.str (Txt.slice z lo hi)) δ3
variable {e:Expr}{lo hi:Option Expr}{p2:Pos}{t:TEd}{l h:TOd}
theorem Bc {i:Nat}{x:Str}{p:Pos}(ho:PE X (.Name x p) (tVar i))(hl:DO X lo l)(hh:DO X hi h):DE X (.Subscript (.Name x p) (.Slice lo hi none p2) pos) (Il i l h):=by
 obtain⟨t2,p2,s2⟩:=hl;obtain⟨t3,p3,s3⟩:=hh;refine⟨_,jk j6s ho p2 p3,fun io H0 F0 F δ σ H Q Qd I q k=>?_⟩;obtain⟨p0,q⟩:=q;obtain⟨d0,e0⟩:=isSome_iff_exists.mp p0;obtain⟨v0,ev,_⟩:=I.pk e0;refine⟨v0,ev,s2 io H0 F0 F δ σ H _ _ I q fun lo δ2 F2 H2 f2 I2 q2=>s3 io H0 F0 F2 δ2 σ H2 _ _ I2 q2 fun hi δ3 F3 H3 f3 I3 q3=>?_⟩;obtain⟨xs,e3,q3⟩:=q3;obtain⟨v,ev',pk⟩:=I3.pk e3;rw[ev]at ev';cases ev';obtain⟨a,vs,rfl,h1,r⟩:=pk.lst I3;exact⟨a,rfl,vs,h1,fun p hp=>k true _ _ δ3 F3 _ (f2.trans f3) (I3.newL hp (r.cut lo hi)) q3⟩
theorem vb (he:DE X e t)(hl:DO X lo l)(hh:DO X hi h):DE X (.Subscript e (.Slice lo hi none p2) pos) (dSlS t l h):=by
 obtain⟨t1,p1,s1⟩:=he;obtain⟨t2,p2,s2⟩:=hl;obtain⟨t3,p3,s3⟩:=hh;refine⟨_,jk j6q p1 p2 p3,fun io H0 F0 F δ σ H Q Qd I q k=>s1.fz I q fun d v δ1 F1 H1 f1 I1 r1 q1=>s2 io H0 F0 F1 δ1 σ H1 _ _ I1 q1 fun lo δ2 F2 H2 f2 I2 q2=>s3 io H0 F0 F2 δ2 σ H2 _ _ I2 q2 fun hi δ3 F3 H3 f3 I3 q3=>?_⟩;obtain⟨z,rfl,hz,q3⟩:=q3;exact⟨z,r1,hz,k false _ _ δ3 F3 _ ((f1.trans f2).trans f3) I3.pS q3⟩
def Jl (ta tb:TEd):TEd:=fun δ Q=>ta δ fun _ x δ1=>∃sep,x=.str sep/\tb δ1 fun _ y δ2=>∃ts:List Str,y=.lst (ts.map .str)/\JoinOk sep ts=true/\Q false (.str (join sep ts)) δ2
theorem oh {a b:Expr}{ta tb:TEd}{apos cpos:Pos}(ha:DE X a ta)(hb:DE X b tb)
  (hbase:attributeBase a "join" X.env (eval a X.env)=eval a X.env:=by rfl)
  (hfew:((backTo cpos (starEach [b] X.env)).all (fun x=>!x.1)&&(backToKw cpos (keywordEach [] X.env)).all (fun x=>x.1.isSome)
  &&decide ([b].length+([]:List Keyword).length+(if ([]:List Keyword).isEmpty then 0 else 1)<30))=true:=by rfl)
  (hline:(apos.endLine == cpos.line)=true:=by rfl)(hst:starEach [b] X.env=(false,eval b X.env)::starEach [] X.env:=by rfl)(hplain:(backTo cpos (starEach [] X.env)).any (·.1)=false:=by rfl) :
  DE X (.Call (.Attribute a "join" apos) [b] [] cpos) (Jl ta tb):=by
 obtain⟨t1,p1,s1⟩:=ha;obtain⟨t2,p2,s2⟩:=hb;refine⟨_,yf plainAttrs_str PySem.F.slot_str_join PySem.F.type_str_join j0x p1 (xa p2 Ca hst) hbase hfew hline hst hplain,fun io H0 F0 F δ σ H Q Qd I q k=>s1.fz I q fun d v δ1 F1 H1 f1 I1 r1 q1=>?_⟩;obtain⟨sep,rfl,q1⟩:=q1;cases(show v=.str sep from r1);refine⟨rfl,s2.fz I1 q1 fun d v δ2 F2 H2 f2 I2 r2 q2=>?_⟩;obtain⟨ts,rfl,ok,q2⟩:=q2;obtain⟨a,vs,rfl,h1,r⟩:=r2;rw[r.strs]at h1;exact⟨sep,a,rfl,rfl,ts,I2.sub _ _ h1,ok,k false _ _ δ2 F2 H2 (f1.trans f2) I2.pS q2⟩
noncomputable def getS (kds:List (Key×D))(k:Str):Option D:=(kds.find? fun kv=>decide (kv.1=Sum.inr k)).map (·.2)
noncomputable def putS (kds:List (Key×D))(k:Str)(d:D):List (Key×D):=if (kds.any fun kv=>decide (kv.1=Sum.inr k))=true then kds.map (fun kv=>if kv.1=Sum.inr k then(kv.1,d) else kv) else kds++[(Sum.inr k,d)]
theorem RepK.len {F:Hp}:∀{ds:List (Key×D)}{vs:List (Key×V)},RepK F ds vs->ds.length=vs.length
 | [],vs,h=>by cases(show vs=[] from h);rfl
 |d::ds,vs,h=>by obtain⟨v,r,rfl,h1,h2⟩:=h;simp[RepK.len h2]
theorem RepK.val {F:Hp}(k:Str):∀{ds:List (Key×D)}{vs:List (Key×V)},RepK F ds vs->(∀d,getS ds k=some d->∃v,valV vs (Sum.inr k)=some v/\Rep F d v)/\(getS ds k=none->valV vs (Sum.inr k)=none)
 | [],vs,h=>by cases(show vs=[] from h);exact⟨fun d e=>by simp[getS]at e,fun _=>rfl⟩
 |(k',d)::ds,vs,h=>by
  obtain⟨⟨q1,q2⟩,r,rfl,⟨e1,r1⟩,h2⟩:=h;have ih:=RepK.val k h2;cases(show q1=k' from e1);by_cases hk:k' = Sum.inr k
  ·refine⟨fun d' e=>⟨q2,by simp[valV,hk],?_⟩,fun e=>by simp[getS,hk]at e⟩;simp[getS,hk]at e;subst e;exact r1
  ·refine⟨fun d' e=>?_,fun e=>?_⟩
   ·obtain⟨v,e2,r2⟩:=ih.1 d' (by simpa[getS,find?_cons,hk] using e);exact⟨v,by simpa[valV,find?_cons,hk] using e2,r2⟩
   ·have:=ih.2 (by simpa[getS,find?_cons,hk] using e);simpa[valV,find?_cons,hk] using this
theorem RepK.any {F:Hp}(k:Key):∀{ds:List (Key×D)}{vs:List (Key×V)},RepK F ds vs->(ds.any fun kv=>decide (kv.1=k))=(vs.any fun kv=>decide (kv.1=k))
 | [],vs,h=>by cases(show vs=[] from h);rfl
 |(k',d)::ds,vs,h=>by
  obtain⟨⟨q1,q2⟩,r,rfl,⟨e1,r1⟩,h2⟩:=h;cases(show q1=k' from e1);simp[RepK.any k h2]
theorem RepK.app {F:Hp}:∀{ds es:List (Key×D)}{vs us:List (Key×V)},RepK F ds vs->RepK F es us->RepK F (ds++es) (vs++us)
 | [],es,vs,us,h,h'=>by cases(show vs=[] from h);exact h'
 |d::ds,es,vs,us,h,h'=>by obtain⟨v,r,rfl,h1,h2⟩:=h;exact⟨v,r++us,rfl,h1,RepK.app h2 h'⟩
theorem RepK.upd {F:Hp}(k:Key){d:D}{v:V}(hv:Rep F d v):∀{ds:List (Key×D)}{vs:List (Key×V)},RepK F ds vs->RepK F (ds.map fun kv=>if kv.1=k then(kv.1,d) else kv) (vs.map fun kv=>if kv.1=k then(kv.1,v) else kv)
 | [],vs,h=>by cases(show vs=[] from h);rfl
 |(k',d')::ds,vs,h=>by
  obtain⟨⟨q1,q2⟩,r,rfl,⟨e1,r1⟩,h2⟩:=h;cases(show q1=k' from e1);refine⟨_,_,rfl,?_,RepK.upd k hv h2⟩;by_cases hk:k' = k
  ·simp only[hk,if_true];exact(show RepP F (k,d) (k,v) from⟨rfl,hv⟩)
  ·simp only[hk,if_false];exact(show RepP F (k',d') (k',q2) from⟨rfl,r1⟩)
theorem RepK.put {F:Hp}{ds:List (Key×D)}{vs:List (Key×V)}(r:RepK F ds vs)(k:Str){d:D}{v:V}(hv:Rep F d v):RepK F (putS ds k d) (putK vs (Sum.inr k) v):=by
 unfold putS putK;rw[r.any];split
 ·exact r.upd _ hv
 ·exact r.app ⟨_,[],rfl,⟨rfl,hv⟩,rfl⟩
def cq:TEd:=fun δ Q=>Q true (.dct []) δ
theorem q2u:DE X (.Dict [] [] pos) cq:=⟨_,ap,fun io H0 F0 F δ σ H Q Qd I q k p hp=>k true (.dct []) _ δ F _ (Same.refl _) (I.newD (ds:=[]) (vs:=[]) hp rfl) q⟩
def ph (neg:Bool)(ti:TEd)(i:Nat):TEd:=fun δ Q=>ti δ fun _ y δ'=>∃kds k,peek δ' i=some (.dct kds)/\y=.str k/\Q false (.bl (if neg then !(getS kds k).isSome else(getS kds k).isSome)) δ'
theorem j1y {ti:TE}{td:TEd}{i:Nat}(si:Sim ti td):Sim (tDIn ti (tVar i)) (ph false td i)/\Sim (q9l ti (tVar i)) (ph true td i):=by
 refine⟨fun io H0 F0 F δ σ H Q Qd I q k=>si.fz I q fun d v δ1 F1 H1 f1 I1 r1 q1=>?_,fun io H0 F0 F δ σ H Q Qd I q k=>si.fz I q fun d v δ1 F1 H1 f1 I1 r1 q1=>?_⟩ <;>
 ·obtain⟨kds,key,e1,rfl,q1⟩:=q1;obtain⟨w,ew,pk⟩:=I1.pk e1;obtain⟨a,kvs,rfl,h1,rk⟩:=pk.dct I1;cases(show v=V.str key from r1);have e:(valV kvs (Sum.inr key)).isSome=(getS kds key).isSome:=by
   cases eg:getS kds key with
   |none=>rw[(rk.val key).2 eg];rfl
   |some d=>obtain⟨w,ew,_⟩:=(rk.val key).1 d eg;rw[ew];rfl
  refine⟨_,ew,a,_,rfl,DGet.o h1,k false _ _ δ1 F1 H1 f1 (I1.pushF ?_) q1⟩;rw[e];rfl
theorem j3g {i:Nat}{x:Str}{p:Pos}{e:Expr}{ti:TEd}(hu:X.A.units+100<cLine)(hi:DE X e ti)(ho:PE X (.Name x p) (tVar i))(hm:behindInMarks .In (.Name x p)=false:=by rfl):DT X (.Compare e [.In] [.Name x p] pos) (fe (ph false ti i)):=by
 obtain⟨t,pi,si⟩:=hi;exact⟨_,Zn (Xo (by omega) pi ho) hm,Jk (j1y si).1⟩
def Kl (i:Nat)(ti tv:TEd):TSd:=fun E δ=>tv δ fun _ v δ1=>(peek δ1 i).isSome=true/\ti δ1 fun _ y δ2=>∃fl kds k,δ2[i]? = some (.ob fl (.dct kds))/\y=.str k/\kds.length<sizeLine/\E.nx (δ2.set i (.ob fl (.dct (putS kds k v))))
theorem j3z {i:Nat}{x:Str}{p pos':Pos}{ie ve:Expr}{ti tv:TEd}(hu:X.A.units+100<cLine)(ho:PE X (.Name x p) (tVar i))(hi:DE X ie ti)(hv:DE X ve tv)(hs:swapsWith ve (some (.Subscript (.Name x p) ie pos')) pos.line X.env=pure false:=by rfl):DS X (.Assign [.Subscript (.Name x p) ie pos'] ve pos) (Kl i ti tv):=by
 obtain⟨t,pi,si⟩:=hi;obtain⟨t',pv,sv⟩:=hv;refine⟨_,Yo (by omega) ho pi pv hs,fun io H0 F0 F δ σ H E Ed I q S=>sv.fz I q fun d v δ1 F1 H1 s1 I1 r1 q1=>?_⟩;obtain⟨p0,q1⟩:=q1;obtain⟨d0,e0⟩:=isSome_iff_exists.mp p0;obtain⟨v0,ev,_⟩:=I1.pk e0;refine⟨v0,ev,si.fz I1 q1 fun y u δ2 F2 H2 s2 I2 r2 q2=>?_⟩;obtain⟨fl,kds,key,ec,rfl,hl,q2⟩:=q2;obtain⟨a',ea,n1,n2,⟨kvs,hc,rc⟩,hio⟩:=I2.get i _ ec;have e:=Uc ea;rw[ev]at e;cases e;cases(show u=V.str key from r2);exact⟨a',_,rfl,DPut.s hc (by rw[<-rc.len];exact hl),S.nx F2 _ σ _ (s1.trans s2) (I2.change (c':=.dct (putS kds key d)) ec ea ⟨_,z0h,rc.put key (Rep.mono s2 _ _ r1)⟩) q2⟩
end
section
def dSlC (K:W.Frag)(i:Nat)(l h:TOd):TEd:=fun δ Q=>∃ns,δ[i]? = some (.sc K ns)/\l δ fun lo δ2=>h δ2 fun hi δ3=>Q true (.lst (cutD (ns.map .int) lo hi)) δ3
theorem q5n (ns:List Int)(lo hi:Option Int):∃ms:List Int,cutD (ns.map .int) lo hi=ms.map .int/\cutV (ns.map .int) lo hi=ms.map .int:=by
 refine⟨(ns.drop (HT.sIx ns.length 0 lo)).take (HT.sIx ns.length ns.length hi - HT.sIx ns.length 0 lo),?_,?_⟩
 ·unfold cutD;simp[map_take,map_drop]
 ·unfold cutV;simp[map_take,map_drop]
theorem dq {F:Hp}:∀ms:List Int,Reps F (ms.map .int) (ms.map .int)
 | []=>rfl
 |m::ms=>⟨_,_,rfl,rfl,dq ms⟩
theorem fq {F:Hp}:∀ms:List Str,Reps F (ms.map .str) (ms.map .str)
 | []=>rfl
 |m::ms=>⟨_,_,rfl,rfl,fq ms⟩
variable {X:Cx}{pos p2:Pos}{lo hi:Option Expr}{l h:TOd}
theorem x9h {K:W.Frag}(hK:X.K=K){i:Nat}{x:Str}{p:Pos}(ho:PE X (.Name x p) (tVar i))(hl:DO X lo l)(hh:DO X hi h):DE X (.Subscript (.Name x p) (.Slice lo hi none p2) pos) (dSlC K i l h):=by
 subst hK;obtain⟨t2,p2,s2⟩:=hl;obtain⟨t3,p3,s3⟩:=hh;refine⟨_,jk Ko ho p2 p3,fun io H0 F0 F δ σ H Q Qd I q k=>?_⟩;obtain⟨ns,e,q⟩:=q;obtain⟨a,ea,sq⟩:=I.get i _ e;refine⟨.ref a,Uc ea,s2 io H0 F0 F δ σ H _ _ I q fun lo δ2 F2 H2 f2 I2 q2=>s3 io H0 F0 F2 δ2 σ H2 _ _ I2 q2 fun hi δ3 F3 H3 f3 I3 q3=>?_⟩;refine⟨a,_,rfl,I3.sub.seq ((f2.trans f3).seq sq),fun p hp=>?_⟩;obtain⟨ms,e1,e2⟩:=q5n ns lo hi;rw[e1]at q3;rw[e2];exact k true _ _ δ3 F3 _ (f2.trans f3) (I3.newL hp (dq ms)) q3
def Ll (ds:List D)(g:TGd)(tb:TSd)(E:EndsD)(δ:List Slot):Prop:=∃(fg:List Nat)(P:List D->List Slot->Prop),P ds (fgt fg δ) /\
 (∀d r δ,P (d::r) δ->g d δ fun δ2=>tb { E with nx:=fun δ'=>P r (fgt fg δ'),ct:=fun δ'=>P r (fgt fg δ'),bk:=E.nx } δ2)/\∀δ,P [] δ->E.nx δ
theorem z8u {di:TLd}{g:TGd}{tb:TSd}{E:EndsD}{δ:List Slot}:dFor di g tb E δ=di δ fun ds δ'=>Ll ds g tb E δ':=rfl
theorem og {ds:List D}{g:TGd}{tb:TSd}{E:EndsD}{δ:List Slot}(fg:List Nat)(P:List D->List Slot->Prop)(h0:P ds (fgt fg δ))(hs:∀d r δ,P (d::r) δ->g d δ fun δ2=>tb { E with nx:=fun δ'=>P r (fgt fg δ'),ct:=fun δ'=>P r (fgt fg δ'),bk:=E.nx } δ2)(hd:∀δ,P [] δ->E.nx δ):Ll ds g tb E δ:=⟨fg,P,h0,hs,hd⟩
end
section
theorem x5g (lo:Int)(n i:Nat)(h:i<n):(rngD lo n).drop i=.int (lo+i)::(rngD lo n).drop (i+1):=by
 have hl:i<(rngD lo n).length:=by simpa[rngD] using h
 rw[drop_eq_getElem_cons hl];simp[rngD]
theorem Df {lo:Int}{n:Nat}{g:TGd}{tb:TSd}{E:EndsD}{δ:List Slot}(fg:List Nat)(P:Nat->List Slot->Prop)(h0:P 0 (fgt fg δ))(hs:∀i δ,i<n->P i δ->g (.int (lo+i)) δ fun δ2=>tb { E with nx:=fun δ'=>P (i+1) (fgt fg δ'),ct:=fun δ'=>P (i+1) (fgt fg δ'),bk:=E.nx } δ2)(hd:∀δ,P n δ->E.nx δ):Ll (rngD lo n) g tb E δ:=by
 have len:∀i,i<=n->((rngD lo n).drop i).length=n - i:=fun i _=>by simp[rngD]
 have key:∀i,i<=n->(fun δ=>(rngD lo n).drop i=(rngD lo n).drop (n - ((rngD lo n).drop i).length)/\P (n - ((rngD lo n).drop i).length) δ)=P i:=by
  intro i hi;funext δ;rw[len i hi,show n - (n - i)=i by omega];simp
 refine⟨fg,fun r δ=>r=(rngD lo n).drop (n - r.length)/\P (n - r.length) δ,?_,?_,?_⟩
 ·have:=congrFun (key 0 (zero_le _)) (fgt fg δ);simp only[drop_zero]at this;exact this.mpr h0
 ·rintro d r δ ⟨e,p⟩;have hlt:n - (d::r).length<n:=by
   have hle:(d::r).length<=n:=by
    rw[e];simp[rngD]
   simp at hle ⊢;omega
  generalize hi:n - (d::r).length=i at e p hlt;rw[x5g lo n i hlt]at e;cases e;have q:=hs i δ hlt p;rw[<-key (i+1) hlt]at q;exact q
 ·rintro δ ⟨_,p⟩;exact hd δ (by simpa using p)
def qh (n:Nat)(ds:List D)(gd:TGd)(tc:TTd)(te:TEd)(Q:Bool->D->List Slot->Prop)(δ:List Slot):Prop:=∃P:List D->List D->List Slot->Prop,P ds [] δ /\
 (∀d r acc δ1,P (d::r) acc δ1->gd d (replicate n .no++δ1) fun δ2=>tc δ2 fun b δ3=>if b=true then te δ3 fun _ y δ4=>acc.length<sizeLine/\P r (acc++[y]) (δ4.drop n) else P r acc (δ3.drop n)) /\
 ∀acc δ1,P [] acc δ1->Q true (.lst acc) δ1
theorem z6s {n:Nat}{di:TLd}{gd:TGd}{tc:TTd}{te:TEd}{δ:List Slot}{Q:Bool->D->List Slot->Prop}:Ui n di gd tc te δ Q=di δ fun ds δ'=>qh n ds gd tc te Q δ':=rfl
inductive All2 {α β:Type}(G:α->β->Prop):List α->List β->Prop
 |nil:All2 G [] []
 |cons {a b as bs}:G a b->All2 G as bs->All2 G (a::as) (b::bs)
theorem All2.snoc {α β:Type}{G:α->β->Prop}{as:List α}{bs:List β}{a:α}{b:β}(h:All2 G as bs)(h':G a b):All2 G (as++[a]) (bs++[b]):=by
 induction h with
 |nil=>exact .cons h' .nil
 |cons g _ ih=>exact .cons g ih
theorem All2.len {α β:Type}{G:α->β->Prop}{as:List α}{bs:List β}(h:All2 G as bs):as.length=bs.length:=by
 induction h with
 |nil=>rfl
 |cons _ _ ih=>simp[ih]
theorem iq {ds:List D}{te:TEd}{Q:Bool->D->List Slot->Prop}{δ:List Slot}(G:D->D->Prop)(hl:ds.length<=sizeLine)
  (h:∀d∈ds,∀P:D->List Slot->Prop,(∀y,G d y->P y (.fz d::δ))->te (.fz d::δ) fun _ y δ'=>P y δ')(q:∀ys,All2 G ds ys->Q true (.lst ys) δ):qh 1 ds (dgN 0) dYes te Q δ:=by
 refine⟨fun r acc δ1=>δ1=δ/\∃pre,ds=pre++r/\All2 G pre acc,⟨rfl,[],rfl,.nil⟩,?_,?_⟩
 ·rintro d r acc δ1 ⟨rfl,pre,e,hp⟩;refine⟨trivial,?_⟩;unfold dYes;dsimp only;rw[if_pos rfl];have hl2:=hp.len;have hlen:pre.length<sizeLine:=by rw[e]at hl;simp at hl;omega
  refine h d (by rw[e];simp) (fun y δ4=>acc.length<sizeLine/\drop 1 δ4=δ1/\∃pre,ds=pre++r/\All2 G pre (acc++[y])) fun y hy=>?_;exact⟨by omega,rfl,pre++[d],by rw[e];simp,hp.snoc hy⟩
 ·rintro acc δ1 ⟨rfl,pre,e,hp⟩;simp at e;subst e;exact q acc hp
theorem Ml {ds:List D}{tc:TTd}{te:TEd}{Q:Bool->D->List Slot->Prop}{δ:List Slot}(c:D->Bool)(f:D->D)(hl:ds.length<=sizeLine)
  (hc:∀d∈ds,∀P:Bool->List Slot->Prop,P (c d) (.fz d::δ)->tc (.fz d::δ) P)
  (h:∀d∈ds,c d=true->∀P:D->List Slot->Prop,P (f d) (.fz d::δ)->te (.fz d::δ) fun _ y δ'=>P y δ')(q:Q true (.lst ((ds.filter c).map f)) δ):qh 1 ds (dgN 0) tc te Q δ:=by
 refine⟨fun r acc δ1=>δ1=δ/\∃pre,ds=pre++r/\acc=(pre.filter c).map f,⟨rfl,[],rfl,rfl⟩,?_,?_⟩
 ·rintro d r acc δ1 ⟨rfl,pre,e,rfl⟩;refine⟨trivial,?_⟩;have hd:d∈ds:=by rw[e];simp
  have hlen:pre.length<sizeLine:=by rw[e]at hl;simp at hl;omega
  refine hc d hd _ ?_;cases hcd:c d with
  |false =>
   rw[if_neg Bool.false_ne_true];exact⟨rfl,pre++[d],by rw[e];simp,by simp[filter_append,hcd]⟩
  |true =>
   rw[if_pos rfl];refine h d hd hcd _ ⟨?_,rfl,pre++[d],by rw[e];simp,by simp[filter_append,hcd]⟩;have:=List.length_filter_le c pre;simp;omega
 ·rintro acc δ1 ⟨rfl,pre,e,rfl⟩;simp at e;subst e;exact q
theorem j3l {r:List Slot}:noIo (.no::r) 0=True:=rfl
theorem j0v {d:D}{r:List Slot}:noIo (.fz d::r) 0=True:=rfl
theorem j3t {d:D}{r:List Slot}:noIo (.ob false d::r) 0=True:=rfl
theorem j6g {s:Slot}{r:List Slot}{i:Nat}:noIo (s::r) (i+1)=noIo r i:=rfl
theorem z6p {c:D}:Pi (.ob true c)=.ob true c:=rfl
theorem z5n {c:D}:Pi (.fz c)=.no:=rfl
theorem z5j {K:W.Frag}{c:List Int}:Pi (.sc K c)=.no:=rfl
theorem Qb {A:Around}{k:Nat}(hr:Room k A):A.units+100<cLine:=by have:=hr.un;omega
theorem Me {α:Type}{xs:List α}{i:Int}(h0:0<=i)(h1:i<xs.length):∃d∈xs,atI xs i=some d:=by
 obtain⟨j,rfl⟩:=Int.eq_ofNat_of_zero_le h0;have hj:j<xs.length:=by omega
 exact⟨xs[j],getElem_mem hj,wc (getElem?_eq_getElem hj)⟩
theorem jc {a b:Int}(h:0<b):0<=a % b:=emod_nonneg _ (by omega)
theorem kc {a b:Int}(h:0<b):a % b<b:=emod_lt_of_pos _ h
def Nl (i:Nat)(ds:List D)(n:Nat)(gd:TGd)(tc:TTd)(te:TEd)(Q:Bool->D->List Slot->Prop)(δ:List Slot):Prop:=∃P:List D->List D->List Slot->Prop,P ds [] δ /\
 (∀d r acc δ1,P (d::r) acc δ1->peek δ1 i=some (.lst ds)/\gd d (replicate n .no++δ1) fun δ2=>tc δ2 fun b δ3=>if b=true then te δ3 fun _ y δ4=>acc.length<sizeLine/\P r (acc++[y]) (δ4.drop n) else P r acc (δ3.drop n)) /\
 ∀acc δ1,P [] acc δ1->peek δ1 i=some (.lst ds)/\Q true (.lst acc) δ1
def Ol (i:Nat)(n:Nat)(gd:TGd)(tc:TTd)(te:TEd):TEd:=fun δ Q=>∃ds,peek δ i=some (.lst ds)/\Nl i ds n gd tc te Q δ
theorem q0v {K:W.Frag}{i:Nat}{n:Nat}{g:TG}{tc:TT}{te:TE}{gd:TGd}{cd:TTd}{ed:TEd}(sg:Si n g gd)(sc:SimT tc cd)(se:Sim te ed):Sim (Ri n (ck K (tVar i)) g tc te) (Ol i n gd cd ed):=by
 intro io H0 F0 F δ σ H Q Qd I q k;obtain⟨ds,e0,P,p0,step,fin⟩:=q;obtain⟨v,ev,pk⟩:=I.pk e0;obtain⟨a,vs0,rfl,hv0,_⟩:=pk.lst I;have at':∀{io':List (Option Addr)}{H0' F' H':Hp}{δ':List Slot},EI io' H0' F0 F' δ' σ H'->peek δ' i=some (.lst ds)->∃vs,H' a=some (.lst vs)/\Reps F' ds vs:=fun {io' H0' F' H' δ'} J e=>by
  obtain⟨v,ev',pk⟩:=J.pk e;rw[ev]at ev';cases ev';obtain⟨a',vs,e',h,r⟩:=pk.lst J;cases e';exact⟨vs,h,r⟩
 refine⟨_,ev,a,rfl,⟨vs0,SqL.of hv0⟩,fun Dp hD=>?_⟩;have hF0:F0 Dp=none:=I.ext.free (I.sub.free hD);refine⟨fun j m ys H=>m=ds.length - j/\j<=ds.length/\∃F1 δ1 acc,Same F F1/\EI (none::io) H0 F0 F1 (.ob false (.lst acc)::δ1) (some (.ref Dp)::σ) H/\H Dp=some (.lst ys)/\P (ds.drop j) acc δ1,⟨ds.length,by simp,zero_le _,F,δ,[],Same.refl _,I.newL hD rfl,z0h,p0⟩,?_⟩;rintro j m ys H1 ⟨rfl,hi,F1,δ1,acc,s1,I1,hy,p1⟩;refine⟨hy,?_⟩;obtain⟨a',e,hH0,hF1,⟨vs,hv,rv⟩,_⟩:=I1.get 0 _ rfl;simp at e;subst e;rw[hy]at hv;cases hv;have Ih:=I1.hide hy;by_cases hlt:j<ds.length
 ·have ed':ds[j]? = some ds[j]:=by simp[hlt]
  have edr:ds.drop j=ds[j]::ds.drop (j+1):=drop_eq_getElem_cons hlt;rw[edr]at p1;obtain⟨pk1,st1⟩:=step _ _ acc δ1 p1;obtain⟨vs,hva,rva⟩:=at' Ih pk1;obtain⟨x0,ex0,rx0⟩:=rva.get ed';refine .inr ⟨⟨vs,x0,SqL.of hva,ex0⟩,fun ys' H'=>∃F2 δ2 acc',Same F F2/\EI (none::io) H0 F0 F2 (.ob false (.lst acc')::δ2) (some (.ref Dp)::σ) H'/\H' Dp=some (.lst ys')/\P (ds.drop (j+1)) acc' δ2,fun ys' H' hN=>⟨ds.length - (j+1),by omega,rfl,hlt,hN⟩,fun x H2 y τ hτ=>?_⟩;obtain⟨ey,y⟩:=y;subst ey;have ex:=y vs (SqL.of hva);rw[ex0]at ex;cases ex;have I2p:=Ih.pad τ;rw[hτ]at I2p;refine sg _ _ F0 F1 _ (τ++σ) _ _ _ _ _ I2p rx0 st1 fun δ3 σ3 I3 e1 e2 q3=>?_;have eσ:σ3=σ3.take n++σ:=by
   have h1:σ3.drop n=σ:=by rw[e1,<-hτ];simp
   conv=>lhs;rw[<-take_append_drop n σ3,h1]
  have lτ:(σ3.take n).length=n:=by
   rw[length_take,e2,length_append,hτ];omega
  refine⟨⟨σ3.take n,lτ,eσ⟩,?_⟩;refine sc _ _ F0 F1 δ3 σ3 _ _ _ I3 q3 fun b δ4 F4 H4 s4 I4 q4=>?_;have back:∀{δ5:List Slot}{F5 H5:Hp},EI (replicate n none++io) (upd H0 Dp (.lst ys)) F0 F5 δ5 σ3 H5->EI io (upd H0 Dp (.lst ys)) F0 F5 (δ5.drop n) σ H5:=fun {δ5 F5 H5} I5=>by
   rw[eσ]at I5;have I5':EI (replicate (σ3.take n).length none++io) (upd H0 Dp (.lst ys)) F0 F5 δ5 (σ3.take n++σ) H5:=by rw[lτ];exact I5
   have:=EI.unpad I5';rwa [lτ]at this
  cases b with
  |false =>
   rw[if_neg Bool.false_ne_true]at q4 ⊢;have I5:=(back I4);have hy4:H4 Dp=some (.lst ys):=I4.base _ _ z0h;have I6:=I5.unhide (ys':=ys) hH0 hF0 (Reps.mono s4 _ _ rv);have eH:upd H4 Dp (.lst ys)=H4:=by
    funext b;by_cases hb:b=Dp
    ·rw[hb,z0h,hy4]
    ·rw[wa hb]
   rw[eH]at I6;exact⟨F4,_,acc,s1.trans s4,I6,hy4,q4⟩
  |true =>
   rw[if_pos rfl]at q4 ⊢;refine se.fz I4 q4 fun d v δ5 F5 H5 s5 I5 r5 q5=>?_;refine⟨I5.base _ _ z0h,by rw[<-rv.len];exact q5.1,F5,_,acc++[d],(s1.trans s4).trans s5,?_,z0h,q5.2⟩;exact(back I5).unhide hH0 hF0 ((Reps.mono (s4.trans s5) _ _ rv).app (.one r5))
 ·have e:j=ds.length:=by omega
  subst e;rw[drop_length]at p1;obtain⟨pk1,q1⟩:=fin acc δ1 p1;obtain⟨vs,hva,rva⟩:=at' Ih pk1;exact .inl ⟨⟨vs,SqL.of hva,by rw[rva.len];exact le_refl _⟩,k true _ _ δ1 F1 H1 s1 I1 q1⟩
variable {X:Cx}
theorem q4l {elt tg:Expr}(xs:List Str){x:Str}{p pos:Pos}{i:Nat}{ifs:List Expr}{sc:Scope}(M:List Str){gd:TGd}{cd:TTd}{ed:TEd}(hc:X.calm=true)(S:CScopeG X.env.scope X.N xs sc M)(hi:PE X (.Name x p) (tVar i))(hg:∀pins ex H₀ s₀ C,DGn (Nb X sc (xs++M) pins ex H₀ s₀ C) xs.length tg gd)
  (ht:∀pins ex H₀ s₀ C,DF (Nb X sc (xs++M) pins ex H₀ s₀ C) ifs cd)(he:∀pins ex H₀ s₀ C,DE (Nb X sc (xs++M) pins ex H₀ s₀ C) elt ed)
  (hs:∀v,foldedSetIterable (.Name x p) X.env v=pure v:=by intro _;rfl):DE X (.ListComp elt [⟨tg,.Name x p,ifs,0⟩] sc pos) (Ol i xs.length gd cd ed) :=
 ⟨_,Vp xs M hc (fun pins ex H₀ s₀ C=>(hg pins ex H₀ s₀ C).pg) S (xi hi) (fun pins ex H₀ s₀ C=>(ht pins ex H₀ s₀ C).pf) (fun pins ex H₀ s₀ C=>(he pins ex H₀ s₀ C).pe) hs,q0v (Dl _ _) (Bl _) (Al _)⟩
theorem j7e {i:Nat}{ds:List D}{te:TEd}{Q:Bool->D->List Slot->Prop}{δ:List Slot}(f:D->D)(hl:ds.length<=sizeLine)(hp:peek δ i=some (.lst ds))(hd:∀d∈ds,∃a b,d=.tup [a,b])
  (h:∀a b,D.tup [a,b]∈ds->∀P:D->List Slot->Prop,P (f (.tup [a,b])) (.fz a::.fz b::δ)->te (.fz a::.fz b::δ) fun _ y δ'=>P y δ')(q:Q true (.lst (ds.map f)) δ):Nl i ds 2 (oe 2 (me (dgN 0) (me (dgN 1) Bf))) dYes te Q δ:=by
 refine⟨fun r acc δ1=>δ1=δ/\∃pre,ds=pre++r/\acc=pre.map f,⟨rfl,[],rfl,rfl⟩,?_,?_⟩
 ·rintro d r acc δ1 ⟨rfl,pre,e,rfl⟩;refine⟨hp,?_⟩;have hm:d∈ds:=by rw[e];simp
  obtain⟨a,b,rfl⟩:=hd d hm;have hlen:pre.length<sizeLine:=by rw[e]at hl;simp at hl;omega
  refine⟨[a,b],rfl,rfl,a,[b],rfl,trivial,b,[],rfl,trivial,rfl,?_⟩;unfold dYes;dsimp only;rw[if_pos rfl];exact h a b hm _ ⟨by simpa using hlen,rfl,pre++[.tup [a,b]],by rw[e];simp,by simp⟩
 ·rintro acc δ1 ⟨rfl,pre,e,rfl⟩;simp at e;subst e;exact⟨hp,q⟩
theorem we (xs:List D)(k:Nat):cutD xs none (some (k:Int))=xs.take k:=by
 unfold cutD;rw[HT.sIx_none,HT.sIx_nat,drop_zero,Nat.sub_zero];by_cases h:k<=xs.length
 ·rw[min_eq_left h]
 ·rw[min_eq_right (by omega),take_of_length_le (le_refl _),take_of_length_le (by omega)]
theorem Oe (xs:List D)(k:Nat):cutD xs (some (k:Int)) none=xs.drop k:=by
 unfold cutD;rw[HT.sIx_none,HT.sIx_nat];by_cases h:k<=xs.length
 ·rw[min_eq_left h,take_of_length_le (by rw[length_drop];exact le_refl _)]
 ·rw[min_eq_right (by omega),drop_of_length_le (le_refl _),drop_of_length_le (by omega)];simp
noncomputable def getK (i:Nat)(δ:List Slot)(k:Slot->Prop):Prop:=match δ[i]? with|some s=>k s|none=>False
theorem x8g {s:Slot}{r:List Slot}{k:Slot->Prop}:getK 0 (s::r) k=k s:=rfl
theorem x4s {i:Nat}{s:Slot}{r:List Slot}{k:Slot->Prop}:getK (i+1) (s::r) k=getK i r k:=rfl
def setK (i:Nat)(s:Slot)(δ:List Slot)(k:List Slot->Prop):Prop:=k (δ.set i s)
theorem x5i {s x:Slot}{r:List Slot}{k:List Slot->Prop}:setK 0 s (x::r) k=k (s::r):=rfl
theorem y2k {i:Nat}{s x:Slot}{r:List Slot}{k:List Slot->Prop}:setK (i+1) s (x::r) k=setK i s r fun r'=>k (x::r'):=rfl
def setW (i:Nat)(s:Slot)(δ:List Slot)(k:List Slot->Prop):Prop:=noIo δ i/\k (δ.set i s)
theorem z8j {s:Slot}{r:List Slot}{k:List Slot->Prop}:setW 0 s (.no::r) k=k (s::r):=by simp[setW,j3l]
theorem z9g {s:Slot}{d:D}{r:List Slot}{k:List Slot->Prop}:setW 0 s (.fz d::r) k=k (s::r):=by simp[setW,j0v]
theorem z8m {s:Slot}{d:D}{r:List Slot}{k:List Slot->Prop}:setW 0 s (.ob false d::r) k=k (s::r):=by simp[setW,j3t]
theorem x8t {i:Nat}{s x:Slot}{r:List Slot}{k:List Slot->Prop}:setW (i+1) s (x::r) k=setW i s r fun r'=>k (x::r'):=by simp[setW,j6g]
def varS (s:Slot)(a b:D->Prop):Prop:=match s with | .fz d=>a d | .ob false c=>b c|_=>False
theorem z8q {d:D}{a b:D->Prop}:varS (.fz d) a b=a d:=rfl
theorem z8f {d:D}{a b:D->Prop}:varS (.ob false d) a b=b d:=rfl
def pkS (s:Slot)(k:D->Prop):Prop:=match s with | .fz d=>k d | .ob _ c=>k c|_=>False
theorem x9z {d:D}{k:D->Prop}:pkS (.fz d) k=k d:=rfl
theorem x8f {b:Bool}{d:D}{k:D->Prop}:pkS (.ob b d) k=k d:=rfl
def obK (s:Slot)(k:Bool->D->Prop):Prop:=match s with | .ob b c=>k b c|_=>False
theorem q1u {b:Bool}{d:D}{k:Bool->D->Prop}:obK (.ob b d) k=k b d:=rfl
def scK (K:W.Frag)(s:Slot)(k:List Int->Prop):Prop:=∃ns,s=.sc K ns/\k ns
theorem x5j {K:W.Frag}{ns:List Int}{k:List Int->Prop}:scK K (.sc K ns) k=k ns:=by simp[scK]
def ioK:List Slot->(D->Prop)->Prop
 |.ob true c::_,k=>k c
 |_::r,k=>ioK r k
 | [],_=>False
theorem j1r {c:D}{r:List Slot}{k:D->Prop}:ioK (.ob true c::r) k=k c:=rfl
theorem x9d {r:List Slot}{k:D->Prop}:ioK (.no::r) k=ioK r k:=rfl
theorem rh:∀{δ:List Slot}{k:D->Prop},(∃c,Od δ=some c/\k c)=ioK δ k
 | [],k=>by simp[Od,ioK]
 |.no::r,k=>by simpa[Od,ioK] using rh (δ:=r) (k:=k)
 |.fz _::r,k=>by simpa[Od,ioK] using rh (δ:=r) (k:=k)
 |.sc _ _::r,k=>by simpa[Od,ioK] using rh (δ:=r) (k:=k)
 |.ob false _::r,k=>by simpa[Od,ioK] using rh (δ:=r) (k:=k)
 |.ob true c::r,k=>by simp[Od,ioK]
def intK (d:D)(k:Int->Prop):Prop:=match d with | .int x=>k x|_=>False
theorem x6a {x:Int}{k:Int->Prop}:intK (.int x) k=k x:=rfl
theorem Ef {d:D}{k:Int->Prop}:(∃x,d=.int x/\k x)=intK d k:=by cases d<;>simp[intK]
def strK (d:D)(k:Str->Prop):Prop:=match d with | .str x=>k x|_=>False
theorem x5l {x:Str}{k:Str->Prop}:strK (.str x) k=k x:=rfl
theorem Td {d:D}{k:Str->Prop}:(∃x,d=.str x/\k x)=strK d k:=by cases d<;>simp[strK]
def blK (d:D)(k:Bool->Prop):Prop:=match d with | .bl x=>k x|_=>False
theorem j0l {x:Bool}{k:Bool->Prop}:blK (.bl x) k=k x:=rfl
theorem Pl {d:D}{k:Bool->Prop}:(∃x,d=.bl x/\k x)=blK d k:=by cases d<;>simp[blK]
def lstK (d:D)(k:List D->Prop):Prop:=match d with | .lst x=>k x|_=>False
theorem x5q {x:List D}{k:List D->Prop}:lstK (.lst x) k=k x:=rfl
theorem sh {d:D}{k:List D->Prop}:(∃x,d=.lst x/\k x)=lstK d k:=by cases d<;>simp[lstK]
def dctK (d:D)(k:List (Key×D)->Prop):Prop:=match d with | .dct x=>k x|_=>False
theorem x6l {x:List (Key×D)}{k:List (Key×D)->Prop}:dctK (.dct x) k=k x:=rfl
theorem jq {d:D}{k:List (Key×D)->Prop}:(∃x,d=.dct x/\k x)=dctK d k:=by cases d<;>simp[dctK]
theorem Ff {δ:List Slot}{i:Nat}{k:D->Prop}:(∃d,peek δ i=some d/\k d)=getK i δ fun s=>pkS s k:=by
 unfold peek getK;cases δ[i]? with
 |none=>simp
 |some s=>cases s<;>simp[pkS]
theorem uh {δ:List Slot}{i:Nat}{P:Prop}:((peek δ i).isSome=true/\P)=getK i δ fun s=>pkS s fun _=>P:=by
 unfold peek getK;cases δ[i]? with
 |none=>simp
 |some s=>cases s<;>simp[pkS]
theorem Vi {δ:List Slot}{i:Nat}{k:Bool->D->Prop}:(∃fl c,δ[i]? = some (.ob fl c)/\k fl c)=getK i δ fun s=>obK s k:=by
 unfold getK;cases δ[i]? with
 |none=>simp
 |some s =>
  apply propext;constructor
  ·rintro⟨fl,c,e,h⟩;cases e;exact h
  ·intro h;cases s with
   |ob b c=>exact⟨b,c,rfl,h⟩
   |_=>exact h.elim
variable {δ:List Slot}{E:EndsD}{Q:Bool->D->List Slot->Prop}{QT:Bool->List Slot->Prop}{QL:List D->List Slot->Prop}{QS:List Slot->Prop}{Q2:Bool->D->Prop}{QM:D->D->Prop}{QA:List (Option D)->List Slot->Prop}{QO:Option Int->List Slot->Prop}{t u:TSd}{ta tb td te tv ti:TEd}{tt tu tc:TTd}{ul:TLd}{ua:TAd}{l h:TOd}{g gd:TGd}{gs:TGsd}{i j n:Nat}{d:D}
theorem j1k:dSeq t u E δ=t { E with nx:=u E } δ:=rfl
theorem q0e:il E δ=E.nx δ:=rfl
theorem j5n:dRet td E δ=td δ E.rt:=rfl
theorem z9c:jl E δ=False:=rfl
theorem y2n:kl td E δ=td δ fun _ _ δ'=>E.nx δ':=rfl
theorem v_if:dIfS tt t u E δ=tt δ fun b δ'=>if b=true then t E δ' else u E δ':=rfl
theorem j4n:dSet i td E δ=td δ fun b d δ'=>setW i (rsl b d) δ' E.nx:=rfl
theorem v_c:dC d δ Q=Q false d δ:=rfl
theorem j5f:dVar i δ Q=getK i δ fun s=>varS s (fun d=>Q false d δ) fun c=>setK i (.fz c) δ fun δ'=>Q false c δ':=by
 unfold dVar getK;cases δ[i]? with
 |none=>rfl
 |some s=>cases s with
  |ob b c=>cases b<;>rfl
  |_=>rfl
theorem v_mv:dMv i δ Q=getK i δ fun s=>varS s (fun d=>Q false d δ) fun c=>setK i .no δ fun δ'=>Q true c δ':=by
 unfold dMv getK;cases δ[i]? with
 |none=>rfl
 |some s=>cases s with
  |ob b c=>cases b<;>rfl
  |_=>rfl
variable {f:D->D->(Bool->D->Prop)->Prop}
theorem v_op:dOp f ta tb δ Q=ta δ fun _ x δ1=>tb δ1 fun _ y δ2=>f x y fun b d=>Q b d δ2:=rfl
theorem j3w:dOpV f i tb δ Q=getK i δ fun s=>pkS s fun _=>tb δ fun _ y δ2=>getK i δ2 fun s=>pkS s fun x=>f x y fun b d=>Q b d δ2:=by
 unfold dOpV;rw[uh];simp only[Ff]
theorem j3n:dOpW f ta j δ Q=ta δ fun _ x δ1=>getK j δ1 fun s=>pkS s fun y=>f x y fun b d=>Q b d δ1:=by
 unfold dOpW;simp only[Ff]
theorem x7h:fe td δ QT=td δ fun _ d δ'=>blK d fun c=>QT c δ':=by unfold fe;simp only[Pl]
theorem q9z:dNot tt δ QT=tt δ fun c δ'=>QT (!c) δ':=rfl
theorem j1j:dAnd tt tu δ QT=tt δ fun c δ'=>if c=true then tu δ' QT else QT false δ':=rfl
theorem v_or:dOr tt tu δ QT=tt δ fun c δ'=>if c=true then QT true δ' else tu δ' QT:=rfl
def truK (d:D)(k:Bool->Prop):Prop:=∃c,truD d=some c/\k c
theorem z6j {xs:List D}{k:Bool->Prop}:truK (.lst xs) k=k (!xs.isEmpty):=propext ⟨fun⟨c,e,h⟩=>by cases e;exact h,fun h=>⟨_,rfl,h⟩⟩
theorem x7a:Lk i δ QT=getK i δ fun s=>pkS s fun d=>truK d fun c=>QT c δ:=by
 unfold Lk;rw[<-Ff];simp only[truK,exists_and_left,and_assoc]
theorem x5f:Qk ta tb δ Q=ta δ fun _ x δ'=>blK x fun c=>if c=true then tb δ' Q else Q false (.bl false) δ':=by unfold Qk;simp only[Pl]
theorem x9e:Rk ta δ Q=ta δ fun _ x δ'=>blK x fun c=>Q false (.bl (!c)) δ':=by unfold Rk;simp only[Pl]
theorem j4c:dIf tt ta tb δ Q=tt δ fun c δ'=>if c=true then ta δ' Q else tb δ' Q:=rfl
theorem j4e:dNeg ta δ Q=ta δ fun _ x δ'=>intK x fun i=>Q false (.int (-i)) δ':=by unfold dNeg;simp only[Ef]
theorem q9q:dNil δ QL=QL [] δ:=rfl
theorem x7k:Sk td ul δ QL=td δ fun _ d δ'=>ul δ' fun ds δ''=>QL (d::ds) δ'':=rfl
theorem j4d:dTup ul δ Q=ul δ fun ds δ'=>ds.length<=sizeLine/\Q false (.tup ds) δ':=rfl
theorem j2q:dLst ul δ Q=ul δ fun ds δ'=>ds.length<=sizeLine/\Q true (.lst ds) δ':=rfl
variable {fc:List D->(Bool->D->Prop)->Prop}{fm:D->List D->(D->D->Prop)->Prop}
theorem v_CB:dCB fc ul δ Q=ul δ fun ds δ'=>fc ds fun b d=>Q b d δ':=rfl
theorem j2u:dCBV fc i δ Q=getK i δ fun s=>pkS s fun d=>fc [d] fun b d=>Q b d δ:=by unfold dCBV;rw[Ff]
theorem q9k:dRev td δ Q=td δ fun _ d δ'=>lstK d fun xs=>Q true (.lst xs.reverse) δ':=by unfold dRev;simp only[sh]
def isLK (d:D)(P:Prop):Prop:=match d with | .lst _=>P|_=>False
theorem x9b {xs:List D}{P:Prop}:isLK (.lst xs) P=P:=rfl
theorem v_mt:dMt fm i ul δ Q=getK i δ fun s=>pkS s fun d=>isLK d (ul δ fun ds δ'=>getK i δ' fun s=>obK s fun fl c=>fm c ds fun c' d=>setK i (.ob fl c') δ' fun δ''=>Q false d δ''):=by
 unfold dMt;simp only[Vi,setK];unfold peek getK;cases δ[i]? with
 |none=>simp
 |some s=>cases s with
  |no=>simp[pkS]
  |sc K ns=>simp[pkS]
  |fz d=>cases d<;>simp[pkS,isLK,isL]
  |ob b d=>cases d<;>simp[pkS,isLK,isL]
theorem v_gN:dgN i d δ QS=setW i (.fz d) δ QS:=rfl
theorem z8d {a b:D}:oe 2 gs (.tup [a,b]) δ QS=gs [a,b] δ QS:=by simp[oe]
theorem z9b {a b c:D}:oe 3 gs (.tup [a,b,c]) δ QS=gs [a,b,c] δ QS:=by simp[oe]
theorem z8c {r:List D}:me g gs (d::r) δ QS=g d δ fun δ'=>gs r δ' QS:=propext ⟨fun⟨_,_,e,h⟩=>by cases e;exact h,fun h=>⟨_,_,rfl,h⟩⟩
theorem x7y:Bf [] δ QS=QS δ:=by simp[Bf]
theorem j4q:dAsg td g E δ=td δ fun _ d δ'=>g d δ' E.nx:=rfl
theorem y2o:ml i ti tv E δ=tv δ fun _ v δ1=>getK i δ1 fun s=>pkS s fun _=>ti δ1 fun _ y δ2=>getK i δ2 fun s=>obK s fun fl c=>lstK c fun xs=>intK y fun k=>∃j,ixN xs.length k=some j/\setK i (.ob fl (.lst (xs.set j v))) δ2 E.nx:=by
 unfold ml;simp only[uh];have key:∀(δ2:List Slot)(y v:D),(∃fl xs k j,δ2[i]? = some (.ob fl (.lst xs))/\y=.int k/\ixN xs.length k=some j/\E.nx (δ2.set i (.ob fl (.lst (xs.set j v)))))=(getK i δ2 fun s=>obK s fun fl c=>lstK c fun xs=>intK y fun k=>∃j,ixN xs.length k=some j/\setK i (.ob fl (.lst (xs.set j v))) δ2 E.nx):=by
  intro δ2 y v;simp only[<-Vi,<-sh,<-Ef,setK];apply propext;constructor
  ·rintro⟨fl,xs,k,j,e,rfl,h1,h2⟩;exact⟨fl,_,e,xs,rfl,k,rfl,j,h1,h2⟩
  ·rintro⟨fl,_,e,xs,rfl,k,rfl,j,h1,h2⟩;exact⟨fl,xs,k,j,e,rfl,h1,h2⟩
 simp only[key]
theorem z9k:nl td δ QL=td δ fun _ d δ'=>lstK d fun ds=>QL ds δ':=by unfold nl;simp only[sh]
def Ql (ds:List D)(k:Int->Prop):Prop:=match ds with | [.int j]=>k j|_=>False
theorem z8y {j:Int}{k:Int->Prop}:Ql [.int j] k=k j:=rfl
theorem z8e:ql ul δ QL=ul δ fun ds δ'=>Ql ds fun j=>-(2 ^ 62)<=j/\j<2 ^ 62/\QL (rngD 0 j.toNat) δ':=by
 unfold ql;congr 1;funext ds δ';apply propext;constructor
 ·rintro⟨j,rfl,h⟩;exact h
 ·intro h;unfold Ql at h;split at h
  ·exact⟨_,rfl,h⟩
  ·exact h.elim
inductive Beh (Q:Bool->D->List Slot->Prop):Type|mk
def hold (R:RD)(Q:Bool->D->List Slot->Prop)(_:Beh Q)(δ:List Slot):Prop:=R δ Q
variable {R:RD}
theorem x5u:wl R ul δ Q=ul δ fun ds δ'=>hold R (fun b d _=>Q b d δ') .mk (ds.map .fz):=rfl
theorem z8k:Ol i n gd tc te δ Q=getK i δ fun s=>pkS s fun d=>lstK d fun ds=>Nl i ds n gd tc te Q δ:=by
 simp only[<-Ff,<-sh];apply propext;constructor
 ·rintro⟨ds,e,h⟩;exact⟨_,e,ds,rfl,h⟩
 ·rintro⟨_,e,ds,rfl,h⟩;exact⟨ds,e,h⟩
theorem x6p:j9 δ QA=QA [] δ:=rfl
theorem v_aV:daV td ua δ QA=td δ fun _ d δ'=>ua δ' fun os δ''=>QA (some d::os) δ'':=rfl
theorem v_aO:daO ua δ QA=ua δ fun os δ''=>QA (none::os) δ'':=rfl
theorem z6t:Oi R i ua δ Q=getK i δ fun s=>pkS s fun _=>ua δ fun os δ'=>getK i δ' fun s=>obK s fun fl c=>(os.filter isNone).length=1/\hold R (fun b d δ2=>ioK δ2 fun c'=>setK i (.ob fl c') δ' fun δ''=>Q b d δ'') .mk (os.map (z5x c)):=by
 unfold Oi hold;rw[uh];simp only[Vi,rh,setK]
theorem v_oN:doN δ QO=QO none δ:=rfl
theorem v_oS:doS td δ QO=td δ fun _ d δ'=>intK d fun i=>QO (some i) δ':=by unfold doS;simp only[Ef]
theorem x7r:Il i l h δ Q=getK i δ fun s=>pkS s fun _=>l δ fun lo δ2=>h δ2 fun hi δ3=>getK i δ3 fun s=>pkS s fun d=>lstK d fun xs=>Q true (.lst (cutD xs lo hi)) δ3:=by
 unfold Il;rw[uh];have key:∀(δ3:List Slot) lo hi,(∃xs,peek δ3 i=some (.lst xs)/\Q true (.lst (cutD xs lo hi)) δ3)=(getK i δ3 fun s=>pkS s fun d=>lstK d fun xs=>Q true (.lst (cutD xs lo hi)) δ3):=by
  intro δ3 lo hi;simp only[<-Ff,<-sh];apply propext;constructor
  ·rintro⟨xs,e,h⟩;exact⟨_,e,xs,rfl,h⟩
  ·rintro⟨_,e,xs,rfl,h⟩;exact⟨xs,e,h⟩
 simp only[key]
theorem j1z:dSlS td l h δ Q=td δ fun _ d δ1=>l δ1 fun lo δ2=>h δ2 fun hi δ3=>strK d fun z=>z.length<=sizeLine/\Q false (.str (Txt.slice z lo hi)) δ3:=by unfold dSlS;simp only[Td]
theorem q9x {K:W.Frag}:dSlC K i l h δ Q=getK i δ fun s=>scK K s fun ns=>l δ fun lo δ2=>h δ2 fun hi δ3=>Q true (.lst (cutD (ns.map .int) lo hi)) δ3:=by
 unfold dSlC getK scK;cases δ[i]?<;>simp
theorem x6h:Jl ta tb δ Q=ta δ fun _ x δ1=>strK x fun sep=>tb δ1 fun _ y δ2=>∃ts:List Str,y=.lst (ts.map .str)/\JoinOk sep ts=true/\Q false (.str (join sep ts)) δ2:=by unfold Jl;simp only[Td]
theorem z8t:cq δ Q=Q true (.dct []) δ:=rfl
theorem q9w {neg:Bool}:ph neg ti i δ Q=ti δ fun _ y δ'=>getK i δ' fun s=>pkS s fun c=>dctK c fun kds=>strK y fun k=>Q false (.bl (if neg then !(getS kds k).isSome else(getS kds k).isSome)) δ':=by
 unfold ph;have key:∀(δ':List Slot)(y:D),(∃kds k,peek δ' i=some (.dct kds)/\y=.str k/\Q false (.bl (if neg then !(getS kds k).isSome else(getS kds k).isSome)) δ')=(getK i δ' fun s=>pkS s fun c=>dctK c fun kds=>strK y fun k=>Q false (.bl (if neg then !(getS kds k).isSome else(getS kds k).isSome)) δ'):=by
  intro δ' y;simp only[<-Ff,<-jq,<-Td];apply propext;constructor
  ·rintro⟨kds,k,e,rfl,h⟩;exact⟨_,e,kds,rfl,k,rfl,h⟩
  ·rintro⟨_,e,kds,rfl,k,rfl,h⟩;exact⟨kds,k,e,rfl,h⟩
 simp only[key]
theorem x4p:Kl i ti tv E δ=tv δ fun _ v δ1=>getK i δ1 fun s=>pkS s fun _=>ti δ1 fun _ y δ2=>getK i δ2 fun s=>obK s fun fl c=>dctK c fun kds=>strK y fun k=>kds.length<sizeLine/\setK i (.ob fl (.dct (putS kds k v))) δ2 E.nx:=by
 unfold Kl;simp only[uh];have key:∀(δ2:List Slot)(y v:D),(∃fl kds k,δ2[i]? = some (.ob fl (.dct kds))/\y=.str k/\kds.length<sizeLine/\E.nx (δ2.set i (.ob fl (.dct (putS kds k v)))))=(getK i δ2 fun s=>obK s fun fl c=>dctK c fun kds=>strK y fun k=>kds.length<sizeLine/\setK i (.ob fl (.dct (putS kds k v))) δ2 E.nx):=by
  intro δ2 y v;simp only[<-Vi,<-jq,<-Td,setK];apply propext;constructor
  ·rintro⟨fl,kds,k,e,rfl,h⟩;exact⟨fl,_,e,kds,rfl,k,rfl,h⟩
  ·rintro⟨fl,_,e,kds,rfl,k,rfl,h⟩;exact⟨fl,kds,k,e,rfl,h⟩
 simp only[key]
variable {x y:Int}{z z':Str}{xs ys:List D}{b b':Bool}
theorem v_I {g:Int->Int->D}:fI g (.int x) (.int y) Q2=Q2 false (g x y):=by simp[fI]
theorem v_Ic {C:Int->Int->Prop}{g:Int->Int->D}:fIc C g (.int x) (.int y) Q2=(C x y/\Q2 false (g x y)):=by simp[fIc]
theorem Wi {P:Bool->Prop}{a:Bool}:(∃b,some a=some b/\P b)=P a:=by simp
theorem z8z:fEq (.int x) (.int y) Q2=Q2 false (.bl (decide (x=y))):=Wi (P:=fun b=>Q2 false (.bl b))
theorem z8n:fEq (.str z) (.str z') Q2=Q2 false (.bl (decide (z=z'))):=Wi (P:=fun b=>Q2 false (.bl b))
theorem z9a:fNe (.int x) (.int y) Q2=Q2 false (.bl (!decide (x=y))):=Wi (P:=fun b=>Q2 false (.bl (!b)))
theorem z8b:fNe (.str z) (.str z') Q2=Q2 false (.bl (!decide (z=z'))):=Wi (P:=fun b=>Q2 false (.bl (!b)))
theorem j2n:fIsN d .non Q2=Q2 false (.bl (isNon d)):=by simp[fIsN]
theorem z5p:isNon .non=true:=rfl
theorem z5l:isNon (.str z)=false:=rfl
theorem z5q:isNon (.tup xs)=false:=rfl
theorem q2e:Ik (.str z) (.str z') Q2=(z.length+z'.length<=sizeLine/\Q2 false (.str (z++z'))):=by simp[Ik]
theorem j0h:fCat (.lst xs) (.lst ys) Q2=(xs.length+ys.length<=sizeLine/\Q2 true (.lst (xs++ys))):=by simp[fCat]
theorem j3j:fIxL (.lst xs) (.int x) Q2 = ∃d,atI xs x=some d/\Q2 false d:=by simp[fIxL]
theorem q1j {a:D}{r:List D}:fIxT (.tup (a::r)) (.int 0) Q2=Q2 false a:=by simp[fIxT,atI0]
theorem x5a {a b:D}{r:List D}:fIxT (.tup (a::b::r)) (.int 1) Q2=Q2 false b:=by simp[fIxT,atI1]
theorem j4a:fIxS (.str z) (.int x) Q2=(z.length<=sizeLine/\∃c,atI z.cps.toList x=some c/\Q2 false (.str ⟨#[c]⟩)):=by simp[fIxS]
theorem x6m:fIxQ (.lst xs) (.int x) Q2 = ∃d,atI xs x=some d/\Q2 false d:=by simp[fIxQ]
theorem y2m:fIxQ (.tup xs) (.int x) Q2 = ∃d,atI xs x=some d/\Q2 false d:=by simp[fIxQ]
theorem x6t:fEqL (.lst xs) (.lst []) Q2=Q2 false (.bl xs.isEmpty):=by
 cases xs with
 |nil=>simp[fEqL,eqbL,depL]
 |cons a r=>simp[fEqL]
theorem x5h:fNeL (.lst xs) (.lst []) Q2=Q2 false (.bl (!xs.isEmpty)):=by
 cases xs with
 |nil=>simp[fNeL,eqbL,depL]
 |cons a r=>simp[fNeL]
theorem lq {ks ks':List Str}(h:ks.map D.str=ks'.map D.str):ks=ks':=by
 induction ks generalizing ks' with
 |nil=>cases ks' with
  |nil=>rfl
  |cons a r=>simp at h
 |cons a r ih=>cases ks' with
  |nil=>simp at h
  |cons a' r'=>simp at h;rw[h.1,ih h.2]
theorem j3o {ks:List Str}:fInL (.str z) (.lst (ks.map .str)) Q2=Q2 false (.bl (decide (z∈ks))):=by
 apply propext;constructor
 ·rintro⟨k,ks',e1,e2,h⟩;cases e1;have e2:=lq (D.lst.inj e2);subst e2;exact h
 ·intro h;exact⟨z,ks,rfl,rfl,h⟩
theorem z6k {ks:List Str}:Ip (.str z) (.lst (ks.map .str)) Q2=Q2 false (.bl (!decide (z∈ks))):=by
 apply propext;constructor
 ·rintro⟨k,ks',e1,e2,h⟩;cases e1;have e2:=lq (D.lst.inj e2);subst e2;exact h
 ·intro h;exact⟨z,ks,rfl,rfl,h⟩
theorem q2a:Uk [.lst xs] Q2=Q2 false (.int xs.length):=by simp[Uk]
theorem q0n:Vk [.str z] Q2=(z.length<=sizeLine/\Q2 false (.int z.length)):=by simp[Vk]
theorem z8g:nh [.lst xs] Q2=Q2 false (.int xs.length):=by simp[nh]
theorem z9f:nh [.tup xs] Q2=Q2 false (.int xs.length):=by simp[nh]
theorem z6n:Mi [.lst xs] Q2=Q2 true (.lst xs):=by simp[Mi]
theorem z8p:Xk [.bl b] Q2=Q2 false (.int (if b then 1 else 0)):=by simp[Xk]
theorem z6o:Zk (.lst xs) [d] QM=(xs.length<sizeLine/\QM (.lst (xs++[d])) .non):=by simp[Zk]
theorem z6q:al (.lst xs) [.lst ys] QM=(xs.length+ys.length<=sizeLine/\QM (.lst (xs++ys)) .non):=by simp[al]
theorem j5i:fPop (.lst xs) [] QM = ∃d,xs[xs.length - 1]? = some d/\QM (.lst xs.dropLast) d:=by simp[fPop]
theorem j3m:rsl true d=.ob false d:=rfl
theorem j1n:rsl false d=.fz d:=rfl
theorem z3s:fIsI [(.str z),.ty "str"] Q2=Q2 false (.bl true):=by
 apply propext;constructor
 ·rintro⟨_,_,e,_,_,h⟩;cases e;exact h
 ·exact fun h=>⟨_,_,rfl,(show("str":String) ≠ "type" by decide),by decide,h⟩
theorem z3u:fIsI [(.str z),.ty "int"] Q2=Q2 false (.bl false):=by
 apply propext;constructor
 ·rintro⟨_,_,e,_,_,h⟩;cases e;exact h
 ·exact fun h=>⟨_,_,rfl,(show("str":String) ≠ "type" by decide),by decide,h⟩
theorem z3h:fIsI [(.str z),.ty "bool"] Q2=Q2 false (.bl false):=by
 apply propext;constructor
 ·rintro⟨_,_,e,_,_,h⟩;cases e;exact h
 ·exact fun h=>⟨_,_,rfl,(show("str":String) ≠ "type" by decide),by decide,h⟩
theorem z3j:fIsI [(.str z),.ty "list"] Q2=Q2 false (.bl false):=by
 apply propext;constructor
 ·rintro⟨_,_,e,_,_,h⟩;cases e;exact h
 ·exact fun h=>⟨_,_,rfl,(show("str":String) ≠ "type" by decide),by decide,h⟩
theorem z2r:fIsI [(.str z),.ty "tuple"] Q2=Q2 false (.bl false):=by
 apply propext;constructor
 ·rintro⟨_,_,e,_,_,h⟩;cases e;exact h
 ·exact fun h=>⟨_,_,rfl,(show("str":String) ≠ "type" by decide),by decide,h⟩
theorem z3z:fIsI [(.lst xs),.ty "str"] Q2=Q2 false (.bl false):=by
 apply propext;constructor
 ·rintro⟨_,_,e,_,_,h⟩;cases e;exact h
 ·exact fun h=>⟨_,_,rfl,(show("list":String) ≠ "type" by decide),by decide,h⟩
theorem z3x:fIsI [(.lst xs),.ty "int"] Q2=Q2 false (.bl false):=by
 apply propext;constructor
 ·rintro⟨_,_,e,_,_,h⟩;cases e;exact h
 ·exact fun h=>⟨_,_,rfl,(show("list":String) ≠ "type" by decide),by decide,h⟩
theorem z3l:fIsI [(.lst xs),.ty "bool"] Q2=Q2 false (.bl false):=by
 apply propext;constructor
 ·rintro⟨_,_,e,_,_,h⟩;cases e;exact h
 ·exact fun h=>⟨_,_,rfl,(show("list":String) ≠ "type" by decide),by decide,h⟩
theorem z3k:fIsI [(.lst xs),.ty "list"] Q2=Q2 false (.bl true):=by
 apply propext;constructor
 ·rintro⟨_,_,e,_,_,h⟩;cases e;exact h
 ·exact fun h=>⟨_,_,rfl,(show("list":String) ≠ "type" by decide),by decide,h⟩
theorem z2s:fIsI [(.lst xs),.ty "tuple"] Q2=Q2 false (.bl false):=by
 apply propext;constructor
 ·rintro⟨_,_,e,_,_,h⟩;cases e;exact h
 ·exact fun h=>⟨_,_,rfl,(show("list":String) ≠ "type" by decide),by decide,h⟩
theorem z3t:fIsI [(.tup xs),.ty "str"] Q2=Q2 false (.bl false):=by
 apply propext;constructor
 ·rintro⟨_,_,e,_,_,h⟩;cases e;exact h
 ·exact fun h=>⟨_,_,rfl,(show("tuple":String) ≠ "type" by decide),by decide,h⟩
theorem z3y:fIsI [(.tup xs),.ty "int"] Q2=Q2 false (.bl false):=by
 apply propext;constructor
 ·rintro⟨_,_,e,_,_,h⟩;cases e;exact h
 ·exact fun h=>⟨_,_,rfl,(show("tuple":String) ≠ "type" by decide),by decide,h⟩
theorem z3g:fIsI [(.tup xs),.ty "bool"] Q2=Q2 false (.bl false):=by
 apply propext;constructor
 ·rintro⟨_,_,e,_,_,h⟩;cases e;exact h
 ·exact fun h=>⟨_,_,rfl,(show("tuple":String) ≠ "type" by decide),by decide,h⟩
theorem z3f:fIsI [(.tup xs),.ty "list"] Q2=Q2 false (.bl false):=by
 apply propext;constructor
 ·rintro⟨_,_,e,_,_,h⟩;cases e;exact h
 ·exact fun h=>⟨_,_,rfl,(show("tuple":String) ≠ "type" by decide),by decide,h⟩
theorem z2q:fIsI [(.tup xs),.ty "tuple"] Q2=Q2 false (.bl true):=by
 apply propext;constructor
 ·rintro⟨_,_,e,_,_,h⟩;cases e;exact h
 ·exact fun h=>⟨_,_,rfl,(show("tuple":String) ≠ "type" by decide),by decide,h⟩
end
end VL
namespace L2
open PySem PySem.Spec PyProof.Rows
end L2
namespace VL
open PySem L2
def fAll:List D->(Bool->D->Prop)->Prop:=fun ds Q=>∃bs:List Bool,ds=[.lst (bs.map .bl)]/\Q false (.bl (bs.all id))
theorem mq:Wc (fun xs H Q=>∃p,xs=[.ref p]/\∃bs:List Bool,H p=some (.lst (bs.map V.bl))/\Q (.bl (bs.all id)) H) fAll:=by
 intro io H0 F0 F δ σ H xs vs Q Qd I px q k;obtain⟨bs,rfl,q⟩:=q;obtain⟨v,rfl,pk⟩:=pks1 px;obtain⟨a,us,rfl,h1,r⟩:=pk.lst I;rw[r.bls]at h1;exact⟨a,rfl,bs,h1,k false _ _ F H (Same.refl _) I.pB q⟩
section
variable {X:Cx}
noncomputable def zipD (xs ys:List D):List D:=List.zipWith (fun x y=>.tup [x,y]) xs ys
def Rl (u:TLd):TLd:=fun δ Q=>u δ fun ds δ'=>∃xs ys,ds=[.lst xs,.lst ys]/\Q (zipD xs ys) δ'
theorem q3a {F:Hp}{a b:Addr}{vs us:List V}{xs ys:List D}(ha:F a=some (.lst vs))(ra:Reps F xs vs)(hb:F b=some (.lst us))(rb:Reps F ys us):ItOk (Itz a b) F (zipD xs ys):=by
 intro io H0 F0 F' δ σ H' sf I i;have hA:H' a=some (.lst vs):=I.sub _ _ (sf _ _ ha);have hB:H' b=some (.lst us):=I.sub _ _ (sf _ _ hb);refine⟨fun d e=>?_,fun e=>?_⟩
 ·unfold zipD at e;rw[List.getElem?_zipWith]at e;split at e
  ·rename_i x y ex ey;cases e;obtain⟨v,ev,rv⟩:=ra.get ex;obtain⟨u,eu,ru⟩:=rb.get ey;refine⟨⟨vs,us,v,u,hA,hB,ev,eu⟩,fun z H'' yl=>?_⟩;obtain⟨t,rfl,ht,yl⟩:=yl;obtain⟨v',u',ev',eu',rfl⟩:=yl vs us hA hB;rw[ev]at ev';cases ev';rw[eu]at eu';cases eu';obtain⟨F2,s2,I2,r2⟩:=I.newT (ds:=[x,y]) (vs:=[v,u]) ht ⟨_,_,rfl,Rep.mono sf _ _ rv,_,_,rfl,Rep.mono sf _ _ ru,rfl⟩;exact⟨F2,s2,I2,r2⟩
  ·cases e
 ·refine⟨vs,us,hA,hB,?_⟩;have l1:=ra.len;have l2:=rb.len;simp only[zipD,List.length_zipWith]at e;rw[List.getElem?_eq_none_iff,List.getElem?_eq_none_iff];omega
theorem Reps.two_inv {F:Hp}{d e:D}{vs:List V}(h:Reps F [d,e] vs):∃v u,vs=[v,u]/\Rep F d v/\Rep F e u:=by
 obtain⟨v,r,rfl,h1,u,r',rfl,h2,h3⟩:=h;cases(show r' = [] from h3);exact⟨v,u,rfl,h1,h2⟩
theorem j6e {elts:List Expr}{x1:Nat}{pt:Pos}{e1 e2:Expr}{u:TLd}{p pos:Pos}(hg:Gl X "zip")(hm:X.mg "zip" = none)(ha:DL X [e1,e2] u)(hs:starEach [e1,e2] X.env=(false,eval e1 X.env)::starEach [e2] X.env:=by rfl)(hpl:(backTo pos (starEach [e2] X.env)).any (·.1)=false:=by rfl) :
  DI X (.Tuple elts x1 pt) (.Call (.Name "zip" p) [e1,e2] [] pos) (Rl u):=by
 obtain⟨t,p,s⟩:=ha;refine⟨_,j8j hg hm p hs hpl,fun io H0 F0 F δ σ H R Qd I q k=>s io H0 F0 F δ σ H _ _ I q fun ds vs δ' F' H' sf I' r q'=>?_⟩;obtain⟨xs,ys,rfl,q'⟩:=q';obtain⟨v,w,rfl,⟨a,us,rfl,h1,r1⟩,b,ws,rfl,h2,r2⟩:=r.two_inv;exact⟨a,b,rfl,us,I'.sub _ _ h1,ws,I'.sub _ _ h2,k _ _ δ' F' H' sf I' (q3a h1 r1 h2 r2) q'⟩
def dIxC (K:W.Frag)(i:Nat)(ti:TEd):TEd:=fun δ Q=>∃ns,δ[i]? = some (.sc K ns)/\ti δ fun _ y δ1=>∃j n,y=.int j/\atI ns j=some n/\Q false (.int n) δ1
theorem j2z {α β:Type}(f:α->β){xs:List α}{i:Int}{x:α}(h:atI xs i=some x):atI (xs.map f) i=some (f x):=by
 unfold atI at h ⊢;rw[length_map];obtain⟨j,e,h⟩:=Option.bind_eq_some_iff.mp h;rw[e];simp[h]
theorem j9d {K:W.Frag}(hK:X.K=K){i:Nat}{x:Str}{p pos:Pos}{ie:Expr}{ti:TEd}(ho:PE X (.Name x p) (tVar i))(hi:DE X ie ti)(hs:NoSl ie:=by intro _ _;rfl):DE X (.Subscript (.Name x p) ie pos) (dIxC K i ti):=by
 subst hK;obtain⟨t,pi,si⟩:=hi;refine⟨_,bd ix_list ho pi hs,fun io H0 F0 F δ σ H Q Qd I q k=>?_⟩;obtain⟨ns,e,q⟩:=q;obtain⟨a,ea,sq⟩:=I.get i _ e;refine⟨.ref a,Uc ea,si.fz I q fun y u δ1 F1 H1 f1 I1 r1 q1=>?_⟩;obtain⟨j,n,rfl,hj,q1⟩:=q1;cases(show u=V.int j from r1);exact⟨a,_,j,_,rfl,rfl,I1.sub.seq (f1.seq sq),j2z V.int hj,k false _ _ δ1 F1 H1 f1 I1.pI q1⟩
def Sl (K:W.Frag)(i:Nat):TEd:=fun δ Q=>∃ns,δ[i]? = some (.sc K ns)/\Q false (.int ns.length) δ
theorem j2v {K:W.Frag}(hK:X.K=K){i:Nat}{y:Str}{p p' pos:Pos}(hg:Gl X "len")(hm:X.mg "len" = none)(ha:PE X (.Name y p') (tVar i))
  (he:starEach [.Name y p'] X.env=[(false,eval (.Name y p') X.env)]:=by rfl)(hpl:(backTo pos (starEach [] X.env)).any (·.1)=false:=by rfl):DE X (.Call (.Name "len" p) [.Name y p'] [] pos) (Sl K i):=by
 subst hK;refine⟨_,Nc Zg hg hm boot_len (xa ha Ca he) (by decide) (by decide) he hpl,fun io H0 F0 F δ σ H Q Qd I q k=>?_⟩;obtain⟨ns,e,q⟩:=q;obtain⟨a,ea,sq⟩:=I.get i _ e;refine⟨.ref a,Uc ea,a,_,rfl,.inl (I.sub.seq sq),?_⟩;rw[length_map];exact k false _ _ δ F H (Same.refl _) I.pI q
def Tl (R:RD)(i:Nat)(u:TLd):TEd:=fun δ Q=>∃K ns,δ[i]? = some (.sc K ns)/\u δ fun ds δ'=>δ'[i]? = some (.sc K ns)/\R (.sc K ns::ds.map .fz) fun b d _=>Q b d δ'
variable {CX:CXT}{k:Nat}{f:Addr}{fd:FuncData}{ps:List Str}{R:RD}{E:XK}{x y:Str}{p p' pos:Pos}{es:List Expr}{u:TLd}{i:Nat}
theorem Ul (G:FnOk X.prog X.w X.K X.mg X.base CX k f fd ps (spD R))(hr:Room k X.A)(hg:Gl X x)(hm:X.mg x=some (.ref f))(hk:keepIn X.K (.ref f)=true)(hb:Binds X.K fd ps [])(hx:Fe CX X E)
  (hv:PE X (.Name y p') (tVar i))(ha:DL X es u)(hdb:(x == ("__debug__":Str))=false:=by decide)(hs:starEach (.Name y p' :: es) X.env=(false,eval (.Name y p') X.env)::starEach es X.env:=by rfl)(hpl:(backTo pos (starEach es X.env)).any (·.1)=false:=by rfl) :
  DE X (.Call (.Name x p) (.Name y p' :: es) [] pos) (Tl R i u):=by
 obtain⟨t,pt,s⟩:=ha;refine⟨_,yb G hr hg hm hk hb .nil hx (xa hv pt hs) hdb hs hpl,fun io H0 F0 F δ σ H Q Qd I q kk=>?_⟩;obtain⟨K,ns,e0,q⟩:=q;obtain⟨a,ea,sq⟩:=I.get i _ e0;refine⟨.ref a,Uc ea,s io H0 F0 F δ σ H _ _ I q fun ds vs δ' F' H' sf I' r q'=>?_⟩;obtain⟨e1,q'⟩:=q';show spD R ((.ref a::vs)++[]) H' Q E;rw[append_nil];refine⟨H',[none],F',.sc K ns::ds.map .fz,_,fun p a e=>by cases p<;>simp at e,(lh I'.sub r).push (s:=.sc K ns) (v:=.ref a) ⟨a,rfl,sf.seq sq⟩ (fun b c a e=>by cases e),q',fun b d v δ2 F2 H2 C q2=>?_⟩;exact kk b d v δ' F2 H2 (sf.trans C.ext) (I'.back C) q2
variable {δ:List Slot}{Q:Bool->D->List Slot->Prop}{QL:List D->List Slot->Prop}{Q2:Bool->D->Prop}{td ti:TEd}{ul:TLd}
def Vl (ds:List D)(k:List D->List D->Prop):Prop:=match ds with | [.lst x,.lst y]=>k x y|_=>False
theorem z8v {x y:List D}{k:List D->List D->Prop}:Vl [.lst x,.lst y] k=k x y:=rfl
theorem x4n:Rl ul δ QL=ul δ fun ds δ'=>Vl ds fun xs ys=>QL (zipD xs ys) δ':=by
 unfold Rl;congr 1;funext ds δ';apply propext;constructor
 ·rintro⟨xs,ys,rfl,h⟩;exact h
 ·intro h;unfold Vl at h;split at h
  ·exact⟨_,_,rfl,h⟩
  ·exact h.elim
theorem j3e {K:W.Frag}:dIxC K i ti δ Q=getK i δ fun s=>scK K s fun ns=>ti δ fun _ y δ1=>intK y fun j=>∃n,atI ns j=some n/\Q false (.int n) δ1:=by
 unfold dIxC getK scK;have key:∀(ns:List Int)(y:D)(δ1:List Slot),(∃j n,y=.int j/\atI ns j=some n/\Q false (.int n) δ1)=(intK y fun j=>∃n,atI ns j=some n/\Q false (.int n) δ1):=by
  intro ns y δ1;simp only[<-Ef];apply propext;constructor
  ·rintro⟨j,n,rfl,h⟩;exact⟨j,rfl,n,h⟩
  ·rintro⟨j,rfl,n,h⟩;exact⟨j,n,rfl,h⟩
 simp only[key];cases δ[i]?<;>simp
theorem x8u {K:W.Frag}:Sl K i δ Q=getK i δ fun s=>scK K s fun ns=>Q false (.int ns.length) δ:=by
 unfold Sl getK scK;cases δ[i]?<;>simp
def scA (s:Slot)(k:W.Frag->List Int->Prop):Prop:=match s with | .sc K ns=>k K ns|_=>False
theorem j5a {K:W.Frag}{ns:List Int}{k:W.Frag->List Int->Prop}:scA (.sc K ns) k=k K ns:=rfl
theorem z8i {R:RD}:Tl R i ul δ Q=getK i δ fun s=>scA s fun K ns=>ul δ fun ds δ'=>getK i δ' fun s'=>s' = .sc K ns/\hold R (fun b d _=>Q b d δ') .mk (.sc K ns::ds.map .fz):=by
 unfold Tl getK hold;have key:∀(K:W.Frag)(ns:List Int)(δ':List Slot)(A:Prop),(δ'[i]? = some (.sc K ns)/\A)=(match δ'[i]? with|some s'=>s' = .sc K ns/\A|none=>False):=by
  intro K ns δ' A;cases δ'[i]?<;>simp
 simp only[key];cases δ[i]? with
 |none=>simp
 |some s =>
  cases s with
  |sc K ns =>
   apply propext;constructor
   ·rintro⟨K',ns',e,h⟩;cases e;exact h
   ·intro h;exact⟨K,ns,rfl,h⟩
  |_=>simp[scA]
end
end VL
namespace L2
open PySem PySem.Spec PyProof.Rows PySem.SeqAt
end L2
namespace VL
open PySem L2
end VL
namespace L2
open PySem
open PyProof.Rows
end L2
namespace VL
open PySem L2
end VL
namespace L2
open PySem PySem.Spec PyProof.Rows PySem.W
end L2
namespace L2
open PySem PySem.Spec PyProof.Rows PySem.SeqAt
end L2
namespace L2
open PySem PySem.Spec PyProof.Rows
noncomputable def Oa (acc:List Str)(x:Str):List Str:=if x∈acc then acc else acc++[x]
end L2
namespace VL
open PySem L2
inductive A2 where
 |v (d:D)|o1|o2
def A2.one:A2->Bool
 |.o1=>true
 |_=>false
def A2.two:A2->Bool
 |.o2=>true
 |_=>false
abbrev TA2:=List Slot->(List A2->List Slot->Prop)->Prop
abbrev TAT:=List Slot->(List A2->D->List Slot->Prop)->Prop
end VL
namespace L2
open PySem PySem.Spec PyProof.Rows PySem.SeqAt
end L2
namespace VL
open PySem L2
end VL
namespace L2
open PySem PyProof.Rows
end L2
namespace VL
open PySem L2
end VL
namespace L2
open PySem PyProof.Rows
end L2
namespace VL
open PySem L2
end VL
namespace L2
open PySem PySem.Spec PySem.Calls PyProof.Rows PySem.W
noncomputable abbrev q2x:Scope:={ kind:=.function,names:=[(Str.ofString "each",.local)],isGenerator:=false,isCoroutine:=false,more:=[] }
section
variable {X:Cx}{c p:Addr}{pos p0 p1 p2 p3 p4 p5 lp k1 k2:Pos}{e:Expr}{t:TA}
structure LamX (X:Cx)(c p:Addr):Prop where
 code:X.env.code=.ref c
 qual:X.env.qual++"<lambda>" = lamQ
 P:lamP=some p
 hd:codeHdIn X.K c p=true
 cl:closureFor q2x X.env=pure []
end
end L2
namespace VL
open PySem L2
end VL
namespace L2
open PySem PySem.Spec PyProof.Rows PySem.W
section
variable {X:Cx}
theorem nq:OpR X (compareOp .LtE) (fun x y H Q=>∃i j,x=.str i/\y=.str j/\Q (.bl (!decide (j.cps.toList<i.cps.toList))) H):=by
 intro pins s σ H x y v u Q I rx ry h;obtain⟨i,j,rfl,rfl,q⟩:=h;obtain⟨t,rfl⟩:=rx;obtain⟨t',rfl⟩:=ry;exact PySem.P.le_str (Za I q rfl)
end
end L2
namespace VL
open PySem L2
noncomputable def leC (x y:Str):Bool:=!decide (y.cps.toList<x.cps.toList)
def oq (da db dc:TEd):TEd:=fun δ Q=>da δ fun _ x δ1=>db δ1 fun _ y δ2=>∃i j,x=.str i/\y=.str j/\(if leC i j=true then dc δ2 fun _ z δ3=>∃k,z=.str k/\Q false (.bl (leC j k)) δ3 else Q false (.bl false) δ2)
theorem q1o {X:Cx}{a b c:Expr}{da db dc:TEd}{pos:Pos}(ha:DE X a da)(hb:DE X b db)(hc:DE X c dc)(hm:lastMarks [CmpOp.LtE,CmpOp.LtE] [b,c]=false:=by with_unfolding_all rfl):DE X (.Compare a [.LtE,.LtE] [b,c] pos) (oq da db dc):=by
 obtain⟨ta,pa,sa⟩:=ha;obtain⟨tb,pb,sb⟩:=hb;obtain⟨tc,pc,sc⟩:=hc;refine⟨_,vo nq nq pa pb pc hm,fun io H0 F0 F δ σ H Q Qd I q k=>sa.fz I q fun d v δ1 F1 H1 s1 I1 r1 q1=>sb.fz I1 q1 fun d2 v2 δ2 F2 H2 s2 I2 r2 q2=>?_⟩;obtain⟨i,j,rfl,rfl,q2⟩:=q2;cases r1;cases r2;refine⟨i,j,rfl,rfl,leC i j,rfl,?_⟩;cases e:leC i j with
 |false =>
  rw[e,if_neg (by simp)]at q2;rw[if_neg (by simp)];exact k false (.bl false) _ δ2 F2 H2 (s1.trans s2) I2.pB q2
 |true =>
  rw[e,if_pos rfl]at q2;rw[if_pos rfl];refine sc.fz I2 q2 fun d3 v3 δ3 F3 H3 s3 I3 r3 q3=>?_;obtain⟨m,rfl,q3⟩:=q3;cases r3;exact⟨j,m,rfl,rfl,k false (.bl (leC j m)) _ δ3 F3 H3 ((s1.trans s2).trans s3) I3.pB q3⟩
theorem x2j {da db dc:TEd}{δ:List Slot}{Q:Bool->D->List Slot->Prop}:oq da db dc δ Q=da δ fun _ x δ1=>db δ1 fun _ y δ2=>∃i j,x=.str i/\y=.str j/\(if leC i j=true then dc δ2 fun _ z δ3=>∃k,z=.str k/\Q false (.bl (leC j k)) δ3 else Q false (.bl false) δ2):=rfl
end VL
namespace L2
open PySem PySem.Spec PyProof.Rows
def Its (x:Str):It:=⟨fun i H=>i<x.cps.size,fun i H v H'=>H' = H/\∃c,x.cps[i]? = some c/\v=.str ⟨#[c]⟩,fun i H=>i=x.cps.size⟩
theorem pq {P:Program}{w:World}{K:PySem.W.Frag}{tg:Expr}{ty:String}(x:Str)(t:Tok)(it:Addr)(W:∀A:Around,A.handled=none->Walks P w A it [it] [it] x.cps.size (SignAt x) (fun i h=>h.IsStrIter it ty x t i))
  (hn:["enumerate","zip","dict_itemiterator","dict_reverseitemiterator","odict_iterator","itertools.zip_longest","itertools.pairwise"].contains ty=false)
  (self:∀(A:Around)(i:Nat)(s:Shared)(Q:Value->Shared->Prop)(E:Value->Shared->Prop),s.heap.IsStrIter it ty x t i->Q (.ref it) s->wpAny (model P w) A (pyIter (.ref it)) Q E s) :
  Turn P w K tg (Its x) [it] it (fun i h=>h.IsStrIter it ty x t i) where
 mem:=by simp
 obj:=fun i h st b hb=>by
  have e:b=it:=by simpa using hb
  subst e;obtain⟨o,e,c,d⟩:=st;exact⟨o,e,fun v z=>by rw[d]at z;cases z⟩
 keep:=fun i h h' st k=>by
  obtain⟨o,e,c,d⟩:=st;exact⟨o,k it (by simp) o e,c,d⟩
 item:=by
  intro X hP hw hK hc i pins s σ H E I hf st hg;subst hP hw hK;obtain⟨f0,f1,f2,f3,f4,f5⟩:=hf it (by simp);refine(W X.A (I.ok.hd hc)).item i s _ _ hg st fun v h' tk hv st' hk=>?_;obtain⟨c,u,hc',rfl⟩:=hv;intro hkk;have I1:Inv X pins σ H { s with heap:=h',toks:=tk }:=I.turned (fun b o hb e=>hk b o (by simpa using hb) e) f0 f1 f3 f4 f5;obtain⟨o,e,c2,d⟩:=id st';exact(⟨_,rfl,ak (s:={ s with heap:=h',toks:=tk }) e c2 d hn (fun _=>⟨.str ⟨#[c]⟩,H,I1,⟨u,rfl⟩,⟨rfl,c,hc',rfl⟩,st',fun b hb=>(hf b hb).1⟩)⟩)
 done:=by
  intro X hP hw hK hc i pins s σ H E I hf st hg;subst hP hw hK;obtain⟨f0,f1,f2,f3,f4,f5⟩:=hf it (by simp);have hg':i=x.cps.size:=hg;subst hg';exact(W X.A (I.ok.hd hc)).done s _ _ st fun h' tk hk=>(fun _=>⟨rfl,I.turned (fun b o hb e=>hk b o (by simpa using hb) e) f0 f1 f3 f4 f5⟩)
 self:=self
def iStr (tl:TE):TI:=fun σ H R=>tl σ H fun v H1=>∃x,v=.str x/\R (Its x) H1
theorem j5w {X:Cx}{tg l:Expr}{tl:TE}(hl:PE X l tl):PI X tg l (iStr tl):=by
 intro pins s σ H R I h;refine thn (hl pins s σ H _ I h) fun v s1 zq=>?_;obtain⟨y,H1,I1,r1,x,ey,q1⟩:=zq;subst ey;obtain⟨t,rfl⟩:=r1;refine wpAny_pyIter_strU ?_;have fp:∀b∈[s1.heap.objs.size],FpOk X pins H1 b:=fun b hb=>by
  have e:b=s1.heap.objs.size:=by simpa using hb
  subst e;exact I1.fpOk (le_refl _) I1.fresh
 have k2:∀ob:Obj,Inv X pins σ H1 { s1 with heap:=s1.heap.push ob }:=fun ob=>I1.kept (t':=s1.toks) fun b o e=>get?_push_of_some _ e;unfold strIterType;cases ha:x.cps.all (· < 128) with
 |true =>
  exact⟨s1.heap.objs.size,[s1.heap.objs.size],_,_,H1,rfl,k2 _,pq (ty:="str_ascii_iterator") x t _ (fun A hA=>Walks.strAscii hA _ x t) (by decide) (fun A i s Q E hit h=>wpAny_pyIter_striter_ascii hit h),⟨_,get?_push_size _ rfl,rfl,rfl⟩,fp,q1⟩
 |false =>
  exact⟨s1.heap.objs.size,[s1.heap.objs.size],_,_,H1,rfl,k2 _,pq (ty:="str_iterator") x t _ (fun A hA=>Walks.strWide hA _ x t) (by decide) (fun A i s Q E hit h=>wpAny_pyIter_striter_wide hit h),⟨_,get?_push_size _ rfl,rfl,rfl⟩,fp,q1⟩
end L2
namespace VL
open PySem L2
def sgD (x:Str):List D:=x.cps.toList.map fun c=>D.str ⟨#[c]⟩
theorem q5e {F:Hp}(x:Str):ItOk (Its x) F (sgD x):=by
 intro io H0 F0 F' δ σ H' sf I i;refine⟨fun d e=>?_,fun e=>?_⟩
 ·have hi:i<x.cps.size:=by
   have:=(List.getElem?_eq_some_iff.mp e).1;simpa[sgD] using this
  refine⟨hi,fun v H'' y=>?_⟩;obtain⟨rfl,c,hc,rfl⟩:=y;have ed:d=.str ⟨#[c]⟩:=by
   simp only[sgD,getElem?_map,Array.getElem?_toList,hc,map_some,Option.some.injEq]at e;exact e.symm
  subst ed;exact⟨F',Same.refl _,I,rfl⟩
 ·simpa[sgD,Its] using e
def rq (td:TEd):TLd:=fun δ Q=>td δ fun _ d δ'=>∃x,d=.str x/\Q (sgD x) δ'
theorem Wl {X:Cx}{tg a:Expr}{da:TEd}(h:DE X a da):DI X tg a (rq da):=by
 obtain⟨t,p,s⟩:=h;refine⟨_,j5w p,fun io H0 F0 F δ σ H R Qd I q k=>s.fz I q fun d v δ' F' H' sf I' r q'=>?_⟩;obtain⟨x,rfl,q'⟩:=q';cases r;exact⟨x,rfl,k _ (sgD x) δ' F' H' sf I' (q5e x) q'⟩
theorem x9s {td:TEd}{δ:List Slot}{Q:List D->List Slot->Prop}:rq td δ Q=td δ fun _ d δ'=>∃x,d=.str x/\Q (sgD x) δ':=rfl
def dAug (i:Nat)(n:Int):TSd:=fun E δ=>∃k,δ[i]? = some (.fz (.int k))/\E.nx (δ.set i (.fz (.int (k+n))))
theorem j7u {X:Cx}{i:Nat}{x:Str}{n:Int}{j:Nat}{pos pos' p:Pos}(hN:X.N.Nodup)(hi:X.N[i]? = some x)(hx:Loc X.env.scope x)(hf:X.fn x=true\/X.env.scope.names.lookup x=some .local:=by first|exact .inl rfl|exact .inr rfl|assumption) :
  DS X (.AugAssign (.Name x pos') .Add (.Constant (.int n) j p) pos) (dAug i n):=by
 refine⟨_,j6l hN hi hx Ub j9g hf,fun io H0 F0 F δ σ H E Ed I h S=>?_⟩;obtain⟨k,e,q⟩:=h;obtain⟨v,ev,rv⟩:=I.get i _ e;cases rv;have hl:i<δ.length:=(List.getElem?_eq_some_iff.mp e).1;refine⟨_,Uc ev,k,n,rfl,rfl,S.nx F _ _ H (Same.refl _) ((I.pushF (d:=.int (k+n)) (v:=.int (k+n)) rfl).setv (b:=false) (fun c z=>by rw[e]at z;cases z) hl) q⟩
noncomputable def inS:Slot->Nat
 |.fz (.int e)=>e.toNat
 |.fz (.tup [_,.int e])=>e.toNat
 |_=>0
noncomputable def inAt (i:Nat)(δ:List Slot):Nat:=inS (δ.getD i .no)
theorem j9o {a:Slot}{e:Int}{r:List Slot}:inAt 1 (a::.fz (.int e)::r)=e.toNat:=rfl
theorem j4o {a b:Slot}{e:Int}{r:List Slot}:inAt 2 (a::b::.fz (.int e)::r)=e.toNat:=rfl
theorem lenS {α:Type}{l:List α}{n:Nat}(h:l.length=n+1):∃a r,l=a::r/\r.length=n:=by
 cases l with
 |nil=>cases h
 |cons a r=>exact⟨a,r,rfl,Nat.succ.inj h⟩
theorem len0 {α:Type}{l:List α}(h:l.length=0):l=[]:=eq_nil_of_length_eq_zero h
theorem len3 {α:Type}{l:List α}(h:l.length=3):∃a b c,l=[a,b,c]:=by
 obtain⟨a,r,rfl,h1⟩:=lenS h;obtain⟨b,q,rfl,h2⟩:=lenS h1;obtain⟨c,p,rfl,h3⟩:=lenS h2;cases len0 h3;exact⟨a,b,c,rfl⟩
end VL
namespace L2
open PySem PySem.Spec PyProof.Rows PySem.SeqAt
section
variable {X:Cx}{CX:CXT}{k:Nat}{f:Addr}{fd:FuncData}{ps:List Str}{sp:Sp}{dvs:List V}{ds:List Value}{E:XK}{x:Str}{p pos:Pos}{e:Expr}{es:List Expr}{t:TA}
def x5r (i:Nat)(f:Addr)(sp:Sp)(dvs:List V)(E:XK)(t:TA):TE:=fun σ H Q=>tVar i σ H fun v H1=>v=.ref f/\t σ H1 fun vs H2=>sp (vs++dvs) H2 Q E
theorem q4f (i:Nat)(F:FnOk X.prog X.w X.K X.mg X.base CX k f fd ps sp)(hr:Room k X.A)(hk:keepIn X.K (.ref f)=true)(hb:Binds X.K fd ps ds)(hd:Vals dvs ds)(hx:Fe CX X E)(ha:PA X (e::es) t)
  (hN:X.N[i]? = some x:=by rfl)(hv:Vis X.env.scope x:=by first|exact Or.inl rfl|exact Or.inr (Or.inl rfl)|exact Or.inr (Or.inr rfl))(hdb:(x == ("__debug__":Str))=false:=by decide)(hcd:(x == ("__classdict__":Str))=false:=by decide)(he:starEach (e::es) X.env=(false,eval e X.env)::starEach es X.env:=by rfl)(hpl:(backTo pos (starEach es X.env)).any (·.1)=false:=by rfl) :
  PE X (.Call (.Name x p) (e::es) [] pos) (x5r i f sp dvs E t):=by
 intro pins s σ H Q I h;refine wpAny_Call_Name_kw (thn (mf hN hv hdb hcd pins s σ H _ I h) fun u s1 zq=>?_);obtain⟨v,H1,I1,r,ev,q⟩:=zq;subst ev;obtain rfl:u=Value.ref f:=r;refine callWith_K (h₀:=X.base) I1.ok.mod.kin hk (thn (ha pos pins s1 σ H1 _ I1 q) fun us s2 ⟨vs,H2,I2,r2,q2⟩=>⟨I2.kIn,?_⟩) he hpl;exact Bo F hr hb hd hx I2 r2 q2
def j4l:V->List V->Hp->VK->Prop:=fun x vs H Q=>∃a b,x=.str a/\vs=[.str b]/\b.length≠0/\a.length<=sizeLine/\∀p,H p=none->Q (.ref p) (upd H p (.tup [.str (partition a b).1,.str (partition a b).2.1,.str (partition a b).2.2]))
theorem uq:MtR X "str.partition" j4l:=by
 intro pins s σ H x xs v us Q I rx rs h;obtain⟨a,b,rfl,rfl,hb,ha,q⟩:=h;obtain⟨t,rfl⟩:=rx;obtain⟨u,rfl,ru⟩:=Mc rs;obtain⟨t',rfl⟩:=ru;refine call_meets F.slot_str_partition (typeIs_str _ _ _) F.entry_str_partition (F.args_str_partition_2 _ _) (meets_str_partition a b t t' (by simpa using hb) ha) ?_;have q':=q _ (I.hok.fresh (le_refl _));unfold partition at q';revert q';cases Builtin.Str.occurrences a b 0 a.length 1 with
 |nil=>exact fun q'=>(fun _=>⟨.ref s.heap.objs.size,_,I.laid (t':=s.toks+1) (fun b u e=>get?_push_of_some _ e) (le_refl _) (show ObjOk X.prog X.w _ _ _ (.tup [.str a,.str Str.empty,.str Str.empty]) from⟨by show 3<=sizeLine;decide,_,.cons ⟨_,rfl⟩ (.cons ⟨_,rfl⟩ (.cons ⟨_,rfl⟩ .nil)),⟨_,get?_push_size _ rfl,rfl,_,rfl⟩⟩),rfl,q'⟩)
 |cons i r=>exact fun q'=>(fun _=>⟨.ref s.heap.objs.size,_,I.laid (t':=s.toks+1+1) (fun b u e=>get?_push_of_some _ e) (le_refl _) (show ObjOk X.prog X.w _ _ _ (.tup [.str (Builtin.Str.strSub a 0 i),.str b,.str (Builtin.Str.strSub a (i+b.length) a.length)]) from⟨by show 3<=sizeLine;decide,_,.cons ⟨_,rfl⟩ (.cons ⟨_,rfl⟩ (.cons ⟨_,rfl⟩ .nil)),⟨_,get?_push_size _ rfl,rfl,_,rfl⟩⟩),rfl,q'⟩)
end
section
variable {prog:Program}{w:World}{A:Around}{E:Value->Shared->Prop}{s:Shared}
theorem newKw (l:Addr)(its:Array Value)(n:Nat)(dct:Option Addr)(sl:Array (Option Value))(j:Int)(t:Tok)(hj:Builtin.SmallTypes.fitsIndex j=true) :
  Meets (Builtin.«enumerate.__new__» ⟨[.type "enumerate",.ref l],[("start",.int j t)]⟩) (fun _ R s=>s.heap.get? l=some { cls:=.type "list",dict:=dct,data:=.seq its n,slots:=sl } /\
   R (.ok (.ret (.ref (s.heap.push { cls:=.type "list_iterator",data:=.fields #[.ref l,.int 0 0] }).objs.size)))
    { s with heap:=(s.heap.push { cls:=.type "list_iterator",data:=.fields #[.ref l,.int 0 0] }).push { cls:=.type "enumerate",data:=.fields #[.none,.bool false,.ref s.heap.objs.size,rawInt j,.none,.none] } }) :=
 .of_wp fun prog w A R s h=>by
  obtain⟨hp,g,d,tk,os⟩:=s;obtain⟨hl,h⟩:=h;have hsub:=sub_enumerate;have hL:Heap.IsList (Shared.heap ⟨hp,g,d,tk,os⟩) l its:=⟨_,hl,rfl,n,rfl⟩
  wp_walk using AutoSeq1.wpAny_loadPart' hl
  refine wpAny_stack_any fun st=>wpAny_pure ?_;have hj2:(!Builtin.SmallTypes.fitsIndex j)=false:=by rw[hj];rfl
  split
  ·rename_i c _ _ _ _ _;cases(c == Value.type "enumerate")
   ·wp_walk using AutoSeq1.wpAny_loadPart' hl,wpAny_pyIter_list hL
    exact⟨_,rfl,h⟩
   ·wp_walk using AutoSeq1.wpAny_loadPart' hl,wpAny_pyIter_list hL
    exact⟨_,rfl,h⟩
  ·wp_walk using AutoSeq1.wpAny_loadPart' hl,wpAny_pyIter_list hL
   exact⟨_,rfl,h⟩
theorem j9w {T newId:String}{self:Value}{rest:List Value}{kw:List (Str×Value)}(hl:typeLookup (.type T) "__init__" = pure (some (.builtin "object.__init__")))
  (hm:Bind.madeBy (.type T)=pure (some newId))(hne:(some newId != some "object.__new__")=true) :
  Meets (Builtin.«object.__init__» ⟨self::rest,kw⟩) (fun _ R s=>s.TypeIs self T/\R (.ok (.ret .none)) s):=by
 refine Meets.of_wp fun prog w A R s ⟨hT,hq⟩=>?_;by_cases hz:(!rest.isEmpty||!kw.isEmpty)=true
 ·repeat (any_goals (first|assumption|wp_step))
  exact⟨_,rfl,hq⟩
 ·cases rest with
  |cons a r=>exact absurd rfl hz
  |nil =>
   cases kw with
   |cons a r=>exact absurd rfl hz
   |nil=>exact wpAny_pure ⟨_,rfl,hq⟩
theorem j8w {T newId:String}{Bn:Builtin}{us:List Value}{kw:List (Str×Value)}{S:PySem.Spec}{Q:Value->Shared->Prop}(ft:TypeCalled T newId "object.__init__")(hne:(some newId != some "object.__new__")=true)
  (hct:checkTypeCall T ⟨us,kw⟩=pure ())(hcn:checkBuiltinCall newId ⟨.type T::us,kw⟩=pure ())(hok:∀obj,argsOk "object.__init__" ⟨obj::us,kw⟩)(eN:entryFor table newId=some Bn)(g:Meets (Bn ⟨.type T::us,kw⟩) S)
  (h:S A.in1 (wants (fun obj s₁=>s₁.TypeIs obj T/\Q obj s₁) E) s):wpAny (model prog w) A (call (.type T) us kw) Q E s:=by
 obtain⟨c,tl,hmro⟩:=ft.mro;have hmade:=ft.made;have hsub:=ft.sub;refine wpAny_call (codeAny_of_tree ?_);show wpAny _ _ (callAny (.type T) _) _ _ _;refine wpAny_pure ⟨Code.quiet_builtin _ (by decide +kernel),codeAny_builtin F.entry_type_call ?_⟩;rw[Around.under_plain (weight_type_call_type T us kw) (units_type_call_type T us kw)];have h1:=ft.notType;have h2:=ft.canCreate
 repeat (any_goals (first|assumption|wp_step))
 refine codeAny_mono (codeAny_call_builtin ft.plain eN (wpAny_of_eq hcn (g prog w A.in1 _ s h))) fun r s1 hr=>?_;cases r with
 |error e=>exact hr
 |ok fl =>
  cases fl with
  |ret obj =>
   obtain⟨hT,hq⟩:=hr;have hli:=ft.init.lookup;have hbi:=ft.init.bind obj
   repeat (any_goals (first|assumption|wp_step))
   refine codeAny_mono (codeAny_call_builtin ft.init.plain F.entry_object_init (ft.init.check _ _ _ _ _ _ _ _ hT (hok obj) (j9w (kw:=kw) ft.init.lookup ft.made hne prog w A.in1 _ s1 ⟨hT,(show wants (fun r s2=>r=.none/\Q obj s2) E _ _ from⟨rfl,hq⟩)⟩))) fun r2 s2 hr2=>?_;cases r2 with
   |error e=>exact hr2
   |ok fl2 =>
    cases fl2 with
    |ret r =>
     obtain⟨rfl,hq⟩:=hr2
     repeat (any_goals (first|assumption|wp_step))
    |_=>exact hr2.elim
  |_=>exact hr.elim
theorem j8x (a:Value)(j:Int)(t:Tok):checkTypeCall "enumerate" ⟨[a],[("start",.int j t)]⟩=pure ():=by kernel_rfl
theorem k0e (a:Value)(j:Int)(t:Tok):checkBuiltinCall "enumerate.__new__" ⟨[.type "enumerate",a],[("start",.int j t)]⟩=pure ():=by kernel_rfl
theorem aiKw (a b:Value)(j:Int)(t:Tok):argsOk "object.__init__" ⟨[a,b],[("start",.int j t)]⟩:=by
 unfold argsOk;rw[signature?_of (id:="object.__init__") (n:=['_','_','t','i','n','i','_','_']) (o:=['t','c','e','j','b','o']) (by kernel_rfl) F.owner_object]
 kernel_rfl
theorem y9a {l:Addr}{items:Array Value}{j:Int}{t:Tok}{Q:Value->Shared->Prop}(hj:Builtin.SmallTypes.fitsIndex j=true)(hL:s.heap.IsList l items)
  (h:∀h',IsEnum h' (s.heap.objs.size+1) s.heap.objs.size j .none->h'.IsListIter s.heap.objs.size l 0->h'.objs.size=s.heap.objs.size+2 ->
   (∀b o,s.heap.get? b=some o->h'.get? b=some o)->Q (.ref (s.heap.objs.size+1)) { s with heap:=h' }) :
  wpAny (model prog w) A (call (.type "enumerate") [.ref l] [("start",.int j t)]) Q E s:=by
 obtain⟨⟨c,dct,dt,sl⟩,hl,hc,n,hd⟩:=hL;obtain rfl:c=.type "list":=hc;obtain rfl:dt=.seq items n:=hd;refine j8w F.called_enumerate (by decide) (j8x _ j t) (k0e _ j t) (fun obj=>aiKw obj _ j t) F.entry_enumerate_new (newKw l items n dct sl j t hj) ⟨hl,?_⟩;have hz:(s.heap.push { cls:=.type "list_iterator",data:=.fields #[.ref l,.int 0 0] }).objs.size=s.heap.objs.size+1:=size_push ..;show _/\_;rw[hz];have he:IsEnum ((s.heap.push { cls:=.type "list_iterator",data:=.fields #[.ref l,.int 0 0] }).push { cls:=.type "enumerate",data:=.fields #[.none,.bool false,.ref s.heap.objs.size,rawInt j,.none,.none] }) (s.heap.objs.size+1) s.heap.objs.size j .none:=by
  have:=get?_push_size (s.heap.push { cls:=.type "list_iterator",data:=.fields #[.ref l,.int 0 0] }) (o:={ cls:=.type "enumerate",data:=.fields #[.none,.bool false,.ref s.heap.objs.size,rawInt j,.none,.none] }) rfl;rwa [hz]at this
 exact⟨⟨_,he,rfl⟩,h _ he ⟨_,get?_push_of_some _ (get?_push_size _ rfl),rfl,rfl⟩ (by rw[size_push,hz]) fun b o x=>get?_push_of_some _ (get?_push_of_some _ x)⟩
theorem j9i {e it l:Addr}{j:Int}{i:Nat}{items:Array Value}{x old:Value}{Q:Value->Shared->Prop}
  (he:IsEnum s.heap e it j old)(hit:s.heap.IsListIter it l i)(hl:s.heap.IsList l items)(hx:items[i]? = some x)(hne:e≠it)
  (hQ:∀h',IsEnumOut h' e it (j+1) x s.heap.objs.size->h'.IsListIter it l (i+1)->h'.get? s.heap.objs.size=some { cls:=.type "tuple",data:=.seq #[.int j s.toks,x] }->h'.objs.size=s.heap.objs.size+1 ->
   (∀b o,b≠e->b≠it->s.heap.get? b=some o->h'.get? b=some o)->Q (.ref s.heap.objs.size) { s with heap:=h',toks:=s.toks+1 }) :
  wpAny (model prog w) A (Builtin.«enumerate.__next__» ⟨[.ref e],[]⟩) (fun fin s'=>∃v,fin=.done (.ret v)/\Q v s') E s:=by
 obtain⟨hp,g,d,tk,os⟩:=s;show wpAny _ _ (field (.ref e) 2 >>= _) _ _ _;refine wpAny_bind (wpAny_field he rfl (x:=.ref it) rfl ?_);refine wpAny_bind (wpAny_nextOf_list_item hit hl hx fun g1 i1 (k1:Heap.SameBut it hp g1)=>?_);have e1:IsEnum g1 e it j old:=(k1.2 e hne).trans he;show wpAny _ _ (field (.ref e) 3 >>= _) _ _ ⟨g1,g,d,tk,os⟩;refine wpAny_bind (wpAny_field e1 rfl (x:=rawInt j) rfl ?_);show wpAny _ _ (field (.ref e) 4 >>= _) _ _ ⟨g1,g,d,tk,os⟩;refine wpAny_bind (wpAny_field e1 rfl (x:=.none) rfl ?_);show wpAny _ _ (mkInt j >>= _) _ _ ⟨g1,g,d,tk,os⟩;refine wpAny_bind (wpAny_mkInt ?_);show wpAny _ _ (setField (.ref e) 3 (rawInt (j+1)) >>= _) _ _ ⟨g1,g,d,tk+1,os⟩;refine wpAny_bind (wpAny_setField_rec e1 (by simp) fun g2 (e2:IsEnum g2 e it (j+1) old) (k2:Heap.SameBut e g1 g2)=>?_);show wpAny _ _ (setField (.ref e) 4 .none >>= _) _ _ ⟨g2,g,d,tk+1,os⟩;refine wpAny_bind (wpAny_setField_rec e2 (by simp) fun g3 (e3:IsEnum g3 e it (j+1) old) (k3:Heap.SameBut e g2 g3)=>?_);show wpAny _ _ (newTuple [.int j tk,x] >>= _) _ _ ⟨g3,g,d,tk+1,os⟩;refine wpAny_bind (wpAny_newTuple ?_);have e4:IsEnum (g3.push { cls:=.type "tuple",data:=.seq #[.int j tk,x] }) e it (j+1) old:=get?_push_of_some _ e3;generalize hg4:g3.push { cls:=.type "tuple",data:=.seq #[.int j tk,x] }=g4 at e4;have hsz:g3.objs.size=hp.objs.size:=by rw[k3.1,k2.1,k1.1]
 have hel:e<hp.objs.size:=lt_size he;have t4:g4.get? hp.objs.size=some { cls:=.type "tuple",data:=.seq #[.int j tk,x] }:=by rw[<-hg4,<-hsz];exact get?_push_size _ rfl
 have z4:g4.objs.size=hp.objs.size+1:=by rw[<-hg4,size_push,hsz]
 have k4:∀b o,b≠e->b≠it->hp.get? b=some o->g4.get? b=some o:=fun b o hbe hbi hb=>by
  rw[<-hg4];exact get?_push_of_some _ (k3.extBut b o hbe (k2.extBut b o hbe (k1.extBut b o hbi hb)))
 have i4:g4.IsListIter it l (i+1):=by
  rw[<-hg4];obtain⟨o,ho,r⟩:=(i1.extBut k2.extBut (Ne.symm hne)).extBut k3.extBut (Ne.symm hne);exact⟨o,get?_push_of_some _ ho,r⟩
 show wpAny _ _ (Builtin.SmallTypes.ownedTupleIsFree (.ref e) >>= _) _ _ ⟨g4,g,d,tk+1,os⟩;rw[hsz];clear hg4 e3 k3 e2 k2 e1 k1 i1 hsz g3 g2 g1;refine wpAny_bind ?_;unfold Builtin.SmallTypes.ownedTupleIsFree;refine wpAny_bind (wpAny_field e4 rfl (x:=.none) rfl (wpAny_pure ?_));simp only[if_true];refine wpAny_bind (wpAny_rule ?_);refine wpAny_bind (wpAny_field e4 rfl (x:=old) rfl ?_);refine wpAny_bind (wpAny_setField_rec e4 (by simp) fun g5 (e5:IsEnum g5 e it (j+1) x) (k5:Heap.SameBut e g4 g5)=>?_);show wpAny _ _ (Builtin.SmallTypes.ownedTupleHandOut (.ref e) (.ref hp.objs.size) >>= _) _ _ ⟨g5,g,d,tk+1,os⟩;refine wpAny_bind ?_;unfold Builtin.SmallTypes.ownedTupleHandOut;refine wpAny_bind (wpAny_setField_rec e5 (by simp) fun g6 (e6:IsEnumOut g6 e it (j+1) x hp.objs.size) (k6:Heap.SameBut e g5 g6)=>?_);refine wpAny_setField_rec e6 (by simp) fun g7 (e7:IsEnumOut g7 e it (j+1) x hp.objs.size) (k7:Heap.SameBut e g6 g7)=>?_;have ne:=ne_of_gt hel;exact wpAny_bind (wpAny_letGo (wpAny_pure ⟨_,rfl,hQ g7 e7 (((i4.extBut k5.extBut (Ne.symm hne)).extBut k6.extBut (Ne.symm hne)).extBut k7.extBut (Ne.symm hne)) (k7.extBut _ _ ne (k6.extBut _ _ ne (k5.extBut _ _ ne t4))) (by rw[k7.1,k6.1,k5.1,z4]) fun b o h1 h2 hb=>k7.extBut b o h1 (k6.extBut b o h1 (k5.extBut b o h1 (k4 b o h1 h2 hb)))⟩))
theorem q5o {e it l:Addr}{j:Int}{i:Nat}{items:Array Value}{x old:Value}{Q:Option Value->Shared->Prop}
  (he:IsEnum s.heap e it j old)(hit:s.heap.IsListIter it l i)(hl:s.heap.IsList l items)(hx:items[i]? = some x)(hne:e≠it)
  (hQ:∀h',IsEnumOut h' e it (j+1) x s.heap.objs.size->h'.IsListIter it l (i+1)->h'.get? s.heap.objs.size=some { cls:=.type "tuple",data:=.seq #[.int j s.toks,x] }->h'.objs.size=s.heap.objs.size+1 ->
   (∀b o,b≠e->b≠it->s.heap.get? b=some o->h'.get? b=some o)->Q (some (.ref s.heap.objs.size)) { s with heap:=h',toks:=s.toks+1 }) :
  wpAny (model prog w) A (pyNext (.ref e)) Q E s:=by
 have hT:s.TypeIs (.ref e) "enumerate":=⟨_,he,rfl⟩;unfold pyNext;exact wpAny_bind (wpAny_attempt (wpAny_callSpecial?_slot (name:=Str.ofString "__next__") hT F.slot_enumerate_next (wpAny_call_entry F.slot_enumerate_next hT F.entry_enumerate_next (j9i he hit hl hx hne fun h' a b c d k=>wpAny_pure (hQ h' a b c d k)) (F.args_enumerate_next_1 _))))
theorem y8k {e it l:Addr}{j:Int}{i:Nat}{items:Array Value}{old:Value}{Q:Option Value->Shared->Prop}(hh:A.handled=none)
  (he:IsEnum s.heap e it j old)(hit:s.heap.IsListIter it l i)(hl:s.heap.IsList l items)(hx:items[i]? = none)(hQ:∀h',Heap.ExtBut it s.heap h'->Q none { s with heap:=h' }):wpAny (model prog w) A (pyNext (.ref e)) Q E s:=by
 have hT:s.TypeIs (.ref e) "enumerate":=⟨_,he,rfl⟩;unfold pyNext;refine wpAny_bind (wpAny_attempt (wpAny_callSpecial?_slot (name:=Str.ofString "__next__") hT F.slot_enumerate_next (wpAny_call_entry F.slot_enumerate_next hT F.entry_enumerate_next ?_ (F.args_enumerate_next_1 _))));show wpAny _ _ (field (.ref e) 2 >>= _) _ _ _;refine wpAny_bind (wpAny_field he rfl (x:=.ref it) rfl (wpAny_bind (wpAny_nextOf_list_end hh hit hl hx fun h' x he' hx'=>?_)));obtain⟨o,ho,hc⟩:=hx';exact wpAny_bind (wpAny_isInstance (T:="StopIteration") (b:=true) ⟨o,ho,hc⟩ isSubtype_stop (wpAny_pure (hQ _ he')))
variable {X:Cx}
theorem y0u {M:Model}{A:Around}{E:Value->Shared->Prop}{s:Shared}{env:Env}{pos:Pos}{T:String}{e:Expr}{rest:List Expr}{kws:List Keyword}{Q:Value->Shared->Prop}
  (h:wpAny M A (spliced (backTo pos (starEach (e::rest) env))) (fun vs s₁=>wpAny M A (evalAll ((backToKw pos (keywordEach kws env)).map (·.2)))
   (fun kvs s₂=>wpAny M A (call (.type T) vs (((backToKw pos (keywordEach kws env)).filterMap (·.1)).zip kvs)) Q E s₂) E s₁) E s)
  (he:backTo pos (starEach (e::rest) env)=(false,eval e env)::backTo pos (starEach rest env))(hplain:(backTo pos (starEach (e::rest) env)).any (·.1)=false)
  (hall:(backToKw pos (keywordEach kws env)).all (·.1.isSome)=true)(hkw:(backToKw pos (keywordEach kws env)).any (·.1.isNone)=false) :
  wpAny M A (callWith pos (.type T) [] (backTo pos (starEach (e::rest) env)) (backToKw pos (keywordEach kws env))) Q E s:=by
 have h2:wpAny M A (evalArgs (.type T) true (backTo pos (starEach (e::rest) env)) (backToKw pos (keywordEach kws env))) (fun a s₁=>wpAny M A (call (.type T) ([]++a.pos) a.kw) Q E s₁) E s:=by
  rw[he]at h ⊢;exact evalArgs_kwB hall h
 unfold callWith;refine wpAny_bind (wpAny_holding (wpAny_mono h2 (fun a s1 h1=>wpAny_bind (wpAny_standAt ?_)) fun _ _ x=>x));simp only[hplain,hkw,Bool.or_false];refine wpAny_bind (wpAny_pure ?_);exact wpAny_bind (wpAny_mono h1 (fun r s2 hr=>wpAny_bind (wpAny_holding (wpAny_point (wpAny_pure hr)))) fun _ _ x=>x)
end
end L2
namespace L2
open PySem PySem.Spec PySem.Calls PyProof.Rows
theorem j0p:1<=tk0:=by decide
inductive TkE (X:Cx):Expr->Str->Bool->Prop
 |lit {y:Str}{j pos}:TkE X (.Constant (.str y) j pos) y true
 |glob {x y:Str}{u:Tok}{pos:Pos}(hg:Gl X x) (hm:X.mg x=some (.str y u)) (h1:1<=u) (h2:u<tk0) (hd:(x == ("__debug__":Str))=false):TkE X (.Name x pos) y false
section
variable {X:Cx}{e o e1 e2:Expr}{to:TE}{y z:Str}{b b1 b2:Bool}{apos cpos:Pos}
theorem TkE.ev {pins:List (Addr×Obj)}{s:Shared}{σ:St}{H:Hp}{Q:Value->Shared->Prop}{E:Value->Shared->Prop}(h:TkE X e y b)(I:Inv X pins σ H s)
  (hQ:∀u k,(b=true->u=s.toks/\k=s.toks+1)->(b=false->1<=u/\u<tk0/\k=s.toks)->Q (.str y u) { s with toks:=k }):wpAny (model X.prog X.w) X.A (eval e X.env) Q E s:=by
 cases h with
 |lit=>exact Calls.Constant_str (hQ _ _ (fun _=>⟨rfl,rfl⟩) fun h=>by cases h)
 |glob hg hm h1 h2 hd=>exact qf I hg hm (hQ _ s.toks (fun h=>by cases h) fun _=>⟨h1,h2,rfl⟩) hd
def tRepl (to:TE)(y z:Str):TE:=fun σ H Q=>to σ H fun x H1=>∃i,x=.str i/\i.length<=1048576/\Q (.str (Txt.replace i y z)) H1
theorem x4g (ho:PE X o to)(h1:TkE X e1 y b1)(h2:TkE X e2 z b2)(hb:(b1||b2)=true)(hyz:(y == z)=false)(hz:z.length<=14)
  (hbase:attributeBase o "replace" X.env (eval o X.env)=eval o X.env:=by rfl)
  (hfew:((backTo cpos (starEach [e1,e2] X.env)).all (fun x=>!x.1)&&(backToKw cpos (keywordEach [] X.env)).all (fun x=>x.1.isSome)
  &&decide ([e1,e2].length+([]:List Keyword).length+(if ([]:List Keyword).isEmpty then 0 else 1)<30))=true:=by rfl)
  (hline:(apos.endLine == cpos.line)=true:=by rfl)(hs:starEach [e1,e2] X.env=[(false,eval e1 X.env),(false,eval e2 X.env)]:=by rfl) :
  PE X (.Call (.Attribute o "replace" apos) [e1,e2] [] cpos) (tRepl to y z):=by
 intro pins s σ H Q I h;refine wpAny_Call_method_late hbase hfew hline rfl (thn (ho pins s σ H _ I h) fun v s1 zq=>?_);obtain⟨x,H1,I1,r1,i,ex,hi,q⟩:=zq;subst ex;obtain⟨t,rfl⟩:=(show ∃t,v=.str i t from r1);refine⟨"str",_,plainAttrs_str,PySem.F.slot_str_replace,PySem.F.type_str_replace,rfl,(fun b e=>by cases e),?_⟩;rw[hs];refine Calls.callWith_builtin rfl (Calls.evalArgs_plain ?_);show wpAny _ _ (spliced ((false,eval e1 X.env)::[(false,eval e2 X.env)])) _ _ s1;refine Calls.spliced_cons (h1.ev I1 fun u k k1 k2=>?_);have hk:tk0<=k:=by
  have:=I1.pos;cases b1 with
  |true=>obtain⟨_,rfl⟩:=k1 rfl;omega
  |false=>obtain⟨_,_,rfl⟩:=k2 rfl;omega
 have I2:Inv X pins σ H1 { s1 with toks:=k }:=I1.tok k hk;refine Calls.spliced_cons (h2.ev I2 fun w k' j1 j2=>?_);have p0:=j0p;have p1:=I1.pos;have fact:u≠0/\w≠0/\u≠w:=by
  cases b1 with
  |true =>
   obtain⟨rfl,rfl⟩:=k1 rfl;cases b2 with
   |true=>obtain⟨e,_⟩:=j1 rfl;have e':w=s1.toks+1:=e;exact⟨by omega,by omega,by omega⟩
   |false=>obtain⟨e1,e2,_⟩:=j2 rfl;exact⟨by omega,by omega,by omega⟩
  |false =>
   obtain⟨q1,q2,rfl⟩:=k2 rfl;cases b2 with
   |true=>obtain⟨e,_⟩:=j1 rfl;have e':w=s1.toks:=e;exact⟨by omega,by omega,by omega⟩
   |false=>cases hb
 refine Calls.spliced_nil ?_;have hk':tk0<=k':=by
  cases b2 with
  |true=>obtain⟨_,e⟩:=j1 rfl;have e':k' = k+1:=e;omega
  |false=>obtain⟨_,_,e⟩:=j2 rfl;have e':k' = k:=e;omega
 have I3:Inv X pins σ H1 { s1 with toks:=k' }:=I1.tok k' hk';exact SC.replaceW fact.1 fact.2.1 fact.2.2 hyz hi hz fun t' k2=>fun hk2=>⟨.str _,H1,I3.tok k2 hk2,⟨t',rfl⟩,q⟩
end
end L2
namespace VL
open PySem L2
def Xl (ta:TEd)(y z:Str):TEd:=fun δ Q=>ta δ fun _ d δ'=>∃i,d=.str i/\i.length<=1048576/\Q false (.str (Txt.replace i y z)) δ'
section
variable {X:Cx}{a e1 e2:Expr}{ta:TEd}{y z:Str}{b1 b2:Bool}{apos cpos:Pos}
theorem Yl (ha:DE X a ta)(h1:TkE X e1 y b1)(h2:TkE X e2 z b2)(hb:(b1||b2)=true)(hyz:(y == z)=false)(hz:z.length<=14)
  (hbase:attributeBase a "replace" X.env (eval a X.env)=eval a X.env:=by rfl)
  (hfew:((backTo cpos (starEach [e1,e2] X.env)).all (fun x=>!x.1)&&(backToKw cpos (keywordEach [] X.env)).all (fun x=>x.1.isSome)
  &&decide ([e1,e2].length+([]:List Keyword).length+(if ([]:List Keyword).isEmpty then 0 else 1)<30))=true:=by rfl)
  (hline:(apos.endLine == cpos.line)=true:=by rfl)(hs:starEach [e1,e2] X.env=[(false,eval e1 X.env),(false,eval e2 X.env)]:=by rfl) :
  DE X (.Call (.Attribute a "replace" apos) [e1,e2] [] cpos) (Xl ta y z):=by
 obtain⟨t,p,s⟩:=ha;refine⟨_,x4g p h1 h2 hb hyz hz hbase hfew hline hs,fun io H0 F0 F δ σ H Q Qd I q k=>s.fz I q fun d v δ1 F1 H1 f1 I1 r1 q1=>?_⟩;obtain⟨i,rfl,hi,q1⟩:=q1;cases(show v=.str i from r1);exact⟨i,rfl,hi,k false _ _ δ1 F1 H1 f1 (I1.pushF (d:=.str _) rfl) q1⟩
end
end VL
namespace L2
open PySem PySem.Spec PyProof.Rows PySem.W Builtin Builtin.Str
noncomputable def qg (x y:Str)(i:Int):Int:=match occurrences x y (fromIndex x.length i) x.length 1 with|k::_=>(k:Int) | []=>-1
section
variable {X:Cx}
theorem q5y:MtR X "str.find" (fun x vs H Q=>∃i j n,x=.str i/\vs=[.str j,.int n]/\Q (.int (qg i j n)) H):=by
 intro pins s σ H x xs v us Q I rx rs h;obtain⟨i,j,n,rfl,rfl,q⟩:=h;obtain⟨t,rfl⟩:=rx;cases rs with
 |cons r1 rs =>
  cases rs with
  |cons r2 rs =>
   cases rs;obtain⟨t1,rfl⟩:=r1;obtain⟨t2,rfl⟩:=r2;exact call_gives F.slot_str_find (typeIs_str _ _ _) F.entry_str_find (F.args_str_find_3 _ _ _) (gives_str_find_from i j n t t1 t2) (fun _=>⟨.int (qg i j n),H,I.tok _,⟨_,rfl⟩,q⟩)
theorem q0y:MtR X "str.startswith" (fun x vs H Q=>∃i j,x=.str i/\vs=[.str j]/\Q (.bl (startswith i j)) H):=by
 intro pins s σ H x xs v us Q I rx rs h;obtain⟨i,j,rfl,rfl,q⟩:=h;obtain⟨t,rfl⟩:=rx;obtain⟨u,rfl,ru⟩:=Mc rs;obtain⟨t',rfl⟩:=ru;exact SC.startswith (fun _=>⟨.bl _,H,I,rfl,q⟩)
theorem j1x:MtR X "str.endswith" (fun x vs H Q=>∃i j,x=.str i/\vs=[.str j]/\Q (.bl (endswith i j)) H):=by
 intro pins s σ H x xs v us Q I rx rs h;obtain⟨i,j,rfl,rfl,q⟩:=h;obtain⟨t,rfl⟩:=rx;obtain⟨u,rfl,ru⟩:=Mc rs;obtain⟨t',rfl⟩:=ru;exact SC.endswith (fun _=>⟨.bl _,H,I,rfl,q⟩)
theorem vq:∀l:List (Str×Tok),Vals ((l.map (·.1)).map V.str) (strValues l)
 | []=>.nil
 |(x,t)::l=>.cons ⟨t,rfl⟩ (vq l)
def j9p:V->List V->Hp->VK->Prop:=fun x vs H Q=>∃a b,x=.str a/\vs=[.str b]/\b.length≠0/\a.length<=sizeLine/\(Txt.split a b).length<=sizeLine/\(partsBetween a (occurrences a b 0 a.length (a.length+1)) b.length).length<=sizeLine /\
 ∀p,H p=none->Q (.ref p) (upd H p (.lst ((Txt.split a b).map .str)))
theorem q3c:MtR X "str.split" j9p:=by
 intro pins s σ H x xs v us Q I rx rs h;obtain⟨a,b,rfl,rfl,hb,ha,hl,hl2,q⟩:=h;obtain⟨t,rfl⟩:=rx;obtain⟨u,rfl,ru⟩:=Mc rs;obtain⟨t',rfl⟩:=ru;have q':=q _ (I.hok.fresh (le_refl _));have fin:∀(l:List (Str×Tok))(k:Nat),l.map (·.1)=Txt.split a b->EP X pins σ Q (.ref s.heap.objs.size) { s with toks:=k,heap:=s.heap.push { cls:=.type "list",data:=.seq (strValues l).toArray } }:=fun l k e hk=>by
  refine⟨.ref s.heap.objs.size,_,I.laid (t':=k) (fun b u e=>get?_push_of_some _ e) (le_refl _) (show ObjOk X.prog X.w _ _ _ (.lst ((Txt.split a b).map .str)) from⟨by rw[length_map];exact hl,_,_,e ▸ vq l,get?_push_size _ rfl⟩),rfl,q'⟩
 cases h1:(decide (a.length<b.length)||decide (strKind a<strKind b))
 ·cases hf:(occurrences a b 0 a.length (a.length+1)).isEmpty
  ·refine call_meets F.slot_str_split (typeIs_str _ _ _) F.entry_str_split (F.args_str_split_2 _ _) (meets_str_split_sep a b t t' h1 (by simpa using hb) hf ha hl2) ?_;show wants _ _ _ { s with toks:=_,heap:=s.heap.push { cls:=.type "list",data:=.seq (strsFrom s.toks (partsBetween a (occurrences a b 0 a.length (a.length+1)) b.length)).toArray } };rw[strsFrom_eq];exact fin (numbered s.toks _) _ ((numbered_texts _ _).trans ((if_neg (ne_true_of_eq_false h1)).trans (if_neg (ne_true_of_eq_false hf))).symm)
  ·exact call_meets F.slot_str_split (typeIs_str _ _ _) F.entry_str_split (F.args_str_split_2 _ _) (meets_str_split_not_found a b t t' h1 (by simpa using hb) hf)
    (fin [(a,t)] s.toks ((if_neg (ne_true_of_eq_false h1)).trans (if_pos hf)).symm)
 ·exact call_meets F.slot_str_split (typeIs_str _ _ _) F.entry_str_split (F.args_str_split_2 _ _) (meets_str_split_cannot_occur a b t t' h1)
   (fin [(a,t)] s.toks (if_pos h1).symm)
end
end L2
namespace VL
open PySem L2
section
variable {X:Cx}{a b c:Expr}{ta tb tc:TEd}{apos cpos pos:Pos}
def Zl (f:Str->Str->Bool)(ta tb:TEd):TEd:=fun δ Q=>ta δ fun _ x δ1=>∃i,x=.str i/\tb δ1 fun _ y δ2=>∃j,y=.str j/\Q false (.bl (f i j)) δ2
theorem j0j (ha:DE X a ta)(hb:DE X b tb)
  (hbase:attributeBase a "endswith" X.env (eval a X.env)=eval a X.env:=by rfl)
  (hfew:((backTo cpos (starEach [b] X.env)).all (fun x=>!x.1)&&(backToKw cpos (keywordEach [] X.env)).all (fun x=>x.1.isSome)
  &&decide ([b].length+([]:List Keyword).length+(if ([]:List Keyword).isEmpty then 0 else 1)<30))=true:=by rfl)
  (hline:(apos.endLine == cpos.line)=true:=by rfl)(hst:starEach [b] X.env=(false,eval b X.env)::starEach [] X.env:=by rfl)(hplain:(backTo cpos (starEach [] X.env)).any (·.1)=false:=by rfl) :
  DE X (.Call (.Attribute a "endswith" apos) [b] [] cpos) (Zl endswith ta tb):=by
 obtain⟨t1,p1,s1⟩:=ha;obtain⟨t2,p2,s2⟩:=hb;refine⟨_,yf plainAttrs_str PySem.F.slot_str_endswith PySem.F.type_str_endswith j1x p1 (xa p2 Ca hst) hbase hfew hline hst hplain,fun io H0 F0 F δ σ H Q Qd I q k=>s1.fz I q fun d v δ1 F1 H1 f1 I1 r1 q1=>?_⟩;obtain⟨i,rfl,q1⟩:=q1;cases(show v=.str i from r1);refine⟨rfl,s2.fz I1 q1 fun d v δ2 F2 H2 f2 I2 r2 q2=>?_⟩;obtain⟨j,rfl,q2⟩:=q2;cases(show v=.str j from r2);exact⟨i,j,rfl,rfl,k false _ _ δ2 F2 H2 (f1.trans f2) I2.pB q2⟩
def am (ta tb tc:TEd):TEd:=fun δ Q=>ta δ fun _ x δ1=>∃i,x=.str i/\tb δ1 fun _ y δ2=>∃j,y=.str j/\tc δ2 fun _ z δ3=>∃n,z=.int n/\Q false (.int (qg i j n)) δ3
theorem q5w (ha:DE X a ta)(hb:DE X b tb)(hc:DE X c tc)
  (hbase:attributeBase a "find" X.env (eval a X.env)=eval a X.env:=by rfl)
  (hfew:((backTo cpos (starEach [b,c] X.env)).all (fun x=>!x.1)&&(backToKw cpos (keywordEach [] X.env)).all (fun x=>x.1.isSome)
  &&decide ([b,c].length+([]:List Keyword).length+(if ([]:List Keyword).isEmpty then 0 else 1)<30))=true:=by rfl)
  (hline:(apos.endLine == cpos.line)=true:=by rfl)(hst:starEach [b,c] X.env=(false,eval b X.env)::starEach [c] X.env:=by rfl)(hst2:starEach [c] X.env=(false,eval c X.env)::starEach [] X.env:=by rfl)(hplain:(backTo cpos (starEach [c] X.env)).any (·.1)=false:=by rfl) :
  DE X (.Call (.Attribute a "find" apos) [b,c] [] cpos) (am ta tb tc):=by
 obtain⟨t1,p1,s1⟩:=ha;obtain⟨t2,p2,s2⟩:=hb;obtain⟨t3,p3,s3⟩:=hc;refine⟨_,yf plainAttrs_str PySem.F.slot_str_find PySem.F.type_str_find q5y p1 (xa p2 (xa p3 Ca hst2) hst) hbase hfew hline hst hplain,fun io H0 F0 F δ σ H Q Qd I q k=>s1.fz I q fun d v δ1 F1 H1 f1 I1 r1 q1=>?_⟩;obtain⟨i,rfl,q1⟩:=q1;cases(show v=.str i from r1);refine⟨rfl,s2.fz I1 q1 fun d v δ2 F2 H2 f2 I2 r2 q2=>?_⟩;obtain⟨j,rfl,q2⟩:=q2;cases(show v=.str j from r2);refine s3.fz I2 q2 fun d v δ3 F3 H3 f3 I3 r3 q3=>?_;obtain⟨n,rfl,q3⟩:=q3;cases(show v=.int n from r3);exact⟨i,j,n,rfl,rfl,k false _ _ δ3 F3 H3 ((f1.trans f2).trans f3) I3.pI q3⟩
def cm (ta tb:TEd):TEd:=fun δ Q=>ta δ fun _ x δ1=>∃i,x=.str i/\tb δ1 fun _ y δ2=>∃j,y=.str j/\j.length≠0/\i.length<=sizeLine/\(Txt.split i j).length<=sizeLine/\(Builtin.Str.partsBetween i (Builtin.Str.occurrences i j 0 i.length (i.length+1)) j.length).length<=sizeLine/\Q true (.lst ((Txt.split i j).map .str)) δ2
theorem q6c (ha:DE X a ta)(hb:DE X b tb)
  (hbase:attributeBase a "split" X.env (eval a X.env)=eval a X.env:=by rfl)
  (hfew:((backTo cpos (starEach [b] X.env)).all (fun x=>!x.1)&&(backToKw cpos (keywordEach [] X.env)).all (fun x=>x.1.isSome)
  &&decide ([b].length+([]:List Keyword).length+(if ([]:List Keyword).isEmpty then 0 else 1)<30))=true:=by rfl)
  (hline:(apos.endLine == cpos.line)=true:=by rfl)(hst:starEach [b] X.env=(false,eval b X.env)::starEach [] X.env:=by rfl)(hplain:(backTo cpos (starEach [] X.env)).any (·.1)=false:=by rfl) :
  DE X (.Call (.Attribute a "split" apos) [b] [] cpos) (cm ta tb):=by
 obtain⟨t1,p1,s1⟩:=ha;obtain⟨t2,p2,s2⟩:=hb;refine⟨_,yf plainAttrs_str PySem.F.slot_str_split PySem.F.type_str_split q3c p1 (xa p2 Ca hst) hbase hfew hline hst hplain,fun io H0 F0 F δ σ H Q Qd I q k=>s1.fz I q fun d v δ1 F1 H1 f1 I1 r1 q1=>?_⟩;obtain⟨i,rfl,q1⟩:=q1;cases(show v=.str i from r1);refine⟨rfl,s2.fz I1 q1 fun d v δ2 F2 H2 f2 I2 r2 q2=>?_⟩;obtain⟨j,rfl,h1,h2,h3,h4,q2⟩:=q2;cases(show v=.str j from r2);exact⟨i,j,rfl,rfl,h1,h2,h3,h4,fun p hp=>k true _ _ δ2 F2 _ (f1.trans f2) (I2.newL hp (fq _)) q2⟩
def fOrd:List D->(Bool->D->Prop)->Prop:=fun xs Q=>∃c:Nat,xs=[.str ⟨#[c]⟩]/\Q false (.int c)
theorem wq:Wc (fun xs H Q=>∃x,xs=[.str x]/\x.length=1/\Q (.int (x.cps.getD 0 0:Nat)) H) fOrd:=by
 intro io H0 F0 F δ σ H xs vs Q Qd I px q k;obtain⟨c,rfl,q⟩:=q;obtain⟨v,rfl,pk⟩:=pks1 px;cases pk.str;exact⟨_,rfl,rfl,k false (.int c) _ F H (Same.refl _) I.pI q⟩
theorem tk_g {x y:Str}{pos:Pos}(hg:Gl X x)(h:∃u,X.mg x=some (.str y u)/\1<=u/\u<tk0)(hd:(x == ("__debug__":Str))=false:=by decide):TkE X (.Name x pos) y false:=by
 obtain⟨u,h1,h2,h3⟩:=h;exact .glob hg h1 h2 h3 hd
def em (da db dc:TEd):TEd:=fun δ Q=>da δ fun _ x δ1=>db δ1 fun _ y δ2=>∃i j:Int,x=.int i/\y=.int j/\(if decide (i<=j)=true then dc δ2 fun _ z δ3=>∃k:Int,z=.int k/\Q false (.bl (decide (j<=k))) δ3 else Q false (.bl false) δ2)
theorem x6q (ha:DE X a ta)(hb:DE X b tb)(hc:DE X c tc)(hm:lastMarks [CmpOp.LtE,CmpOp.LtE] [b,c]=false:=by with_unfolding_all rfl):DE X (.Compare a [.LtE,.LtE] [b,c] pos) (em ta tb tc):=by
 obtain⟨ta,pa,sa⟩:=ha;obtain⟨tb,pb,sb⟩:=hb;obtain⟨tc,pc,sc⟩:=hc;refine⟨_,vo so so pa pb pc hm,fun io H0 F0 F δ σ H Q Qd I q k=>sa.fz I q fun d v δ1 F1 H1 s1 I1 r1 q1=>sb.fz I1 q1 fun d2 v2 δ2 F2 H2 s2 I2 r2 q2=>?_⟩;obtain⟨i,j,rfl,rfl,q2⟩:=q2;cases r1;cases r2;refine⟨i,j,rfl,rfl,decide (i<=j),rfl,?_⟩;cases e:decide (i<=j) with
 |false =>
  rw[e,if_neg (by simp)]at q2;rw[if_neg (by simp)];exact k false (.bl false) _ δ2 F2 H2 (s1.trans s2) I2.pB q2
 |true =>
  rw[e,if_pos rfl]at q2;rw[if_pos rfl];refine sc.fz I2 q2 fun d3 v3 δ3 F3 H3 s3 I3 r3 q3=>?_;obtain⟨m,rfl,q3⟩:=q3;cases r3;exact⟨j,m,rfl,rfl,k false (.bl (decide (j<=m))) _ δ3 F3 H3 ((s1.trans s2).trans s3) I3.pB q3⟩
variable {δ:List Slot}{Q:Bool->D->List Slot->Prop}{f:Str->Str->Bool}{y z:Str}
theorem q9e:Zl f ta tb δ Q=ta δ fun _ x δ1=>strK x fun i=>tb δ1 fun _ y δ2=>strK y fun j=>Q false (.bl (f i j)) δ2:=by unfold Zl;simp only[Td]
theorem x5d:am ta tb tc δ Q=ta δ fun _ x δ1=>strK x fun i=>tb δ1 fun _ y δ2=>strK y fun j=>tc δ2 fun _ z δ3=>intK z fun n=>Q false (.int (qg i j n)) δ3:=by unfold am;simp only[Td,Ef]
theorem x8o:cm ta tb δ Q=ta δ fun _ x δ1=>strK x fun i=>tb δ1 fun _ y δ2=>strK y fun j=>j.length≠0/\i.length<=sizeLine/\(Txt.split i j).length<=sizeLine/\(Builtin.Str.partsBetween i (Builtin.Str.occurrences i j 0 i.length (i.length+1)) j.length).length<=sizeLine/\Q true (.lst ((Txt.split i j).map .str)) δ2:=by unfold cm;simp only[Td]
theorem x2k:em ta tb tc δ Q=ta δ fun _ x δ1=>tb δ1 fun _ y δ2=>intK x fun i=>intK y fun j=>(if decide (i<=j)=true then tc δ2 fun _ z δ3=>intK z fun k=>Q false (.bl (decide (j<=k))) δ3 else Q false (.bl false) δ2):=by
 unfold em;congr 1;funext _ x δ1;congr 1;funext _ y δ2;refine propext ⟨fun⟨i,j,e1,e2,h⟩=>?_,fun h=>?_⟩
 ·subst e1 e2;simp only[Ef]at h;exact h
 ·cases x with
  |int i =>
   cases y with
   |int j =>
    refine⟨i,j,rfl,rfl,?_⟩;simp only[Ef];exact h
   |_=>exact h.elim
  |_=>exact h.elim
theorem q8j:Xl ta y z δ Q=ta δ fun _ x δ1=>strK x fun i=>i.length<=1048576/\Q false (.str (Txt.replace i y z)) δ1:=by unfold Xl;simp only[Td]
end
end VL
namespace L2
open PySem PyProof.Rows Builtin Builtin.ObjectAttr
noncomputable abbrev quiets:List Str:=["__init__","__getattribute__","__getattr__","__setattr__","__class__","name","row"]
noncomputable abbrev mroV:List Value:=[.type "ValueError",.type "Exception",.type "BaseException",.type "object"]
inductive Abv (h:Heap):List Value->Prop
 |base:Abv h mroV
 |own {a:Addr}{cl:Value}{di:Option Addr}{k:ClassData}{sl:Array (Option Value)}{f:Str->Option Value}{l:List Value}
   (ob:h.get? a=some { cls:=cl,dict:=di,data:=.cls k,slots:=sl }) (ns:h.Ns k.ns f) (no:∀x∈quiets,f x=none) (up:Abv h l):Abv h (.ref a::l)
theorem Abv.tail {h:Heap}{l:List Value}(T:Abv h l):OwnTail h mroV l:=by
 induction T with
 |base=>exact .base
 |own ob ns no _ ih=>exact .own ob ns (no _ (by simp)) ih
theorem Abv.keeps {h h2:Heap}{l:List Value}(T:Abv h l)(hk:∀b o,h.get? b=some o->h2.get? b=some o):Abv h2 l:=by
 induction T with
 |base=>exact .base
 |own ob ns no _ ih=>exact .own (hk _ _ ob) (ns.keeps hk) no ih
theorem Abv.refuse {h:Heap}{l:List Value}(T:Abv h l)(self:Value):refuseLoop self "__setattr__" l=pure ():=by
 induction T with
 |base=>exact F.store_ValueError.passes self
 |own _ _ _ _ ih=>rw[refuseLoop_ref];exact ih
section
variable {M:Model}{A:Around}{E:Value->Shared->Prop}{h:Heap}{g:Array GenState}{d:Drawn}{t:Nat}{os:OsState}
theorem Abv.along {l:List Value}{x:Str}{y:Option Value}{Q:Option Value->Shared->Prop}(T:Abv h l)(hx:x∈quiets)(e:typeLookup (.type "ValueError") x=pure y)(q:Q y ⟨h,g,d,t,os⟩) :
  wpAny M A (lookupAlong l x) Q E ⟨h,g,d,t,os⟩:=by
 induction T with
 |base =>
  have z:lookupAlong mroV x=pure y:=by rw[typeLookup_eq,F.store_ValueError.mro]at e;exact e
  rw[z];exact wpAny_pure q
 |own ob ns no _ ih =>
  rw[lookupAlong_cons];refine wpAny_bind (wpAny_classOwn_cls ob ns ?_);rw[no x hx];exact ih
structure XC (h:Heap)(C:Addr)(bm:List Value)(f:Str->Option Value)(nid:String):Prop where
 ex:∃nm q N bs sn sub ab col dd k0 k1 k2 k3 k5,h.get? C=some (excClassObj nm q C N bs bm true sn sub ab col dd k0 k1 k2 k3 k5 nid)/\h.Ns N f
 up:Abv h bm
theorem XC.keeps {h h2:Heap}{C:Addr}{bm:List Value}{f:Str->Option Value}{nid:String}(T:XC h C bm f nid)(hk:∀b o,h.get? b=some o->h2.get? b=some o):XC h2 C bm f nid:=by
 obtain⟨⟨nm,q,N,bs,sn,sub,ab,col,dd,k0,k1,k2,k3,k5,e,n⟩,u⟩:=T;exact⟨⟨nm,q,N,bs,sn,sub,ab,col,dd,k0,k1,k2,k3,k5,hk _ _ e,n.keeps hk⟩,u.keeps hk⟩
theorem XC.look {C:Addr}{bm:List Value}{f:Str->Option Value}{nid:String}{x:Str}{y:Option Value}{Q:Option Value->Shared->Prop}(c:XC h C bm f nid)(hx:x∈quiets)(e:typeLookup (.type "ValueError") x=pure y)
  (q:Q (match f x with|some v=>some v|none=>y) ⟨h,g,d,t,os⟩):wpAny M A (typeLookup (.ref C) x) Q E ⟨h,g,d,t,os⟩:=by
 obtain⟨⟨nm,qn,N,bs,sn,sub,ab,col,dd,k0,k1,k2,k3,k5,eC,n⟩,u⟩:=c;rw[typeLookup_eq];refine wpAny_bind (wpAny_mroOf_exc eC ?_);rw[lookupAlong_cons];refine wpAny_bind (wpAny_classOwn_exc eC n ?_);cases z:f x with
 |some v=>rw[z]at q;exact wpAny_pure q
 |none=>rw[z]at q;exact u.along hx e q
end
end L2
set_option maxHeartbeats 1000000
namespace L2
open PySem PyProof.Rows Builtin Builtin.ObjectAttr
section
variable {prog:Program}{w:World}{A:Around}{E:Value->Shared->Prop}{h:Heap}{g:Array GenState}{d:Drawn}{t:Nat}{os:OsState}{C x:Addr}{bm:List Value}{nid:String}{f:Str->Option Value}{a:Str}{v:Value}{vs:Array Value}{sl:Array (Option Value)}
theorem hasV {l:List Value}(T:Abv h l){X:String}(e:mroV.contains (.type X)=true)(C:Addr):(Value.ref C::l).contains (.type X)=true:=by
 rw[contains_cons,T.tail.hasType e,Bool.or_true]
def xq (h:Heap)(x C:Addr)(vs:Array Value)(sl:Array (Option Value))(a:Str)(v:Value)(h2:Heap):Prop :=
 ∃dx,h.objs.size<=dx/\dx≠x/\h2.get? x=some { cls:=.ref C,dict:=some dx,data:=.fields vs,slots:=sl }/\h2.Ns1 dx (fun y=>if y=a then some v else none)/\∀b o,b≠x->h.get? b=some o->h2.get? b=some o
theorem x9n {tk:Tok}{Q:Fin->Shared->Prop}(c:XC h C bm f nid)(ha:a∈quiets)(hB:typeLookup (.type "ValueError") a=pure none)(hfa:f a=none)
  (hx:h.get? x=some { cls:=.ref C,data:=.fields vs,slots:=sl })(hq:∀h2 tk2,xq h x C vs sl a v h2->Q (.done (.ret .none)) ⟨h2,g,d,tk2,os⟩) :
  wpAny (model prog w) A (Builtin.«object.__setattr__» ⟨[.ref x,.str a tk,v],[]⟩) Q E ⟨h,g,d,t,os⟩:=by
 have hpass:=c.up.refuse (.ref x);obtain⟨nm,qn,N,bs,sn,sub,ab,col,dd,k0,k1,k2,k3,k5,eC,n⟩:=id c.ex;unfold Builtin.«object.__setattr__»;have xs:x≠h.objs.size:=ne_of_lt (lt_size hx);have x1:(h.push { cls:=.type "dict",data:=.dict #[] }).get? x=some { cls:=.ref C,data:=.fields vs,slots:=sl }:=get?_push_of_some _ hx;have gd:((h.push { cls:=.type "dict",data:=.dict #[] }).update x fun o=>{ cls:=o.cls,dict:=some h.objs.size,data:=o.data,slots:=o.slots }).get? h.objs.size=some { cls:=.type "dict",data:=.dict #[] } :=
  (Heap.get?_update_ne _ _ _ _ xs.symm).trans (get?_push_at rfl rfl)
 have nd:((h.push { cls:=.type "dict",data:=.dict #[] }).update x fun o=>{ cls:=o.cls,dict:=some h.objs.size,data:=o.data,slots:=o.slots }).Ns h.objs.size (fun _=>none) :=
  ⟨_,#[],_,gd,rfl,fun e he=>absurd he (by simp),fun _=>rfl⟩
 repeat (first|rw[refuse_eq]|(rw[refuseLoop_ref,hpass])|with_reducible refine wpAny_loadPart_at hx ?_|with_reducible refine wpAny_mroOf_exc eC ?_|(with_reducible refine c.look ha hB ?_;rw[hfa])|with_reducible refine wpAny_nsSet1 (Heap.Ns1.of_empty nd) ?_|wp_step)
 intro h2 n2 s2;obtain⟨oD,eD,pD,gD,dD,cD⟩:=n2.count (Within.cons a v Within.nil);refine wpAny_bind (wpAny_lookBehind gD (by rw[dD];exact pastItsLine_dict (le_trans cD (by rw[length_cons,length_nil,sizeLine_eq];omega))) ?_)
 wp_walk
 refine hq _ _ ⟨h.objs.size,le_refl _,xs.symm,?_,n2,fun b o hb hbo=>?_⟩
 ·exact(s2.2 x xs).trans (get?_update_self _ x1 rfl)
 ·exact(s2.2 b (ne_of_lt (lt_size hbo))).trans ((Heap.get?_update_ne _ _ _ _ hb).trans (get?_push_of_some _ hbo))
theorem j8c {M:Model}{z:Value}{Q:Unit->Shared->Prop}(c:XC h C bm f nid)(hx:h.get? x=some { cls:=.ref C,data:=.fields vs,slots:=sl })(hq:Q () ⟨h,g,d,t,os⟩) :
  wpAny M A (checkBuiltinCall "object.__setattr__" ⟨[.ref x,z,v],[]⟩) Q E ⟨h,g,d,t,os⟩:=by
 obtain⟨nm,qn,N,bs,sn,sub,ab,col,dd,k0,k1,k2,k3,k5,eC,n⟩:=id c.ex;have SF:=F.store_ValueError;have hcB:=hasV c.up (X:="object") (by decide) C;have har:=SF.args (.ref x) z v;simp only[checkBuiltinCall,SF.kind,SF.split];refine wpAny_bind ?_;unfold isInstance
 repeat (first|with_reducible refine wpAny_loadPart_at hx ?_|(with_reducible refine wpAny_isSubtype_exc eC ?_;rw[hcB])|wp_step)
 exact hq
theorem q6f {Q:Unit->Shared->Prop}(c:XC h C bm f nid)(hfs:f "__setattr__" = none)(ha:a∈quiets)(hB:typeLookup (.type "ValueError") a=pure none)(hfa:f a=none)
  (hx:h.get? x=some { cls:=.ref C,data:=.fields vs,slots:=sl })(hq:∀h2 tk2,xq h x C vs sl a v h2->Q () ⟨h2,g,d,tk2,os⟩) :
  wpAny (model prog w) A (setAttr (.ref x) a v) Q E ⟨h,g,d,t,os⟩:=by
 obtain⟨nm,qn,N,bs,sn,sub,ab,col,dd,k0,k1,k2,k3,k5,eC,n⟩:=id c.ex;have SF:=F.store_ValueError;have f3:=SF.slot.bind (.ref x);have hcB:=hasV c.up (X:="object") (by decide) C;have har:=SF.args (.ref x);unfold setAttr callSpecial? specialOf
 repeat (any_goals (first|assumption|with_reducible refine wpAny_loadPart_at hx ?_|(with_reducible refine c.look (by simp) SF.slot.lookup ?_;rw[hfs])|wp_step))
 refine codeAny_call_builtin SF.slot.plain SF.entry (j8c c hx (x9n c ha hB hfa hx fun h2 tk2 hl=>?_))
 repeat (any_goals (first|assumption|wp_step))
 exact hq h2 tk2 hl
end
end L2
set_option maxHeartbeats 1000000
namespace L2
open PySem PyProof.Rows Builtin Builtin.ObjectAttr
section
variable {prog:Program}{w:World}{A:Around}{E:Value->Shared->Prop}{h:Heap}{g:Array GenState}{d:Drawn}{t:Nat}{os:OsState}{C x dx:Addr}{bm:List Value}{nid:String}{f mA:Str->Option Value}{a:Str}{u:Value}{o:Obj}
theorem yq {M:Model}{z:Value}{Q:Unit->Shared->Prop}(c:XC h C bm f nid)(hx:h.get? x=some o)(hc:o.cls=.ref C)(hq:Q () ⟨h,g,d,t,os⟩) :
  wpAny M A (checkBuiltinCall "BaseException.__getattribute__" ⟨[.ref x,z],[]⟩) Q E ⟨h,g,d,t,os⟩:=by
 obtain⟨nm,qn,N,bs,sn,sub,ab,col,dd,k0,k1,k2,k3,k5,eC,n⟩:=id c.ex;have kd:builtinKind "BaseException.__getattribute__" = some .slot:=by decide +kernel
 have ks:splitId "BaseException.__getattribute__" = some ("BaseException","__getattribute__"):=by decide +kernel
 have hcB:=hasV c.up (X:="BaseException") (by decide) C;have har:=F.args_bexc_ga (.ref x) z;simp only[checkBuiltinCall,kd,ks];refine wpAny_bind ?_;unfold isInstance
 repeat (first|(with_reducible refine wpAny_loadPart_at hx ?_;rw[hc])|(with_reducible refine wpAny_isSubtype_exc eC ?_;rw[hcB])|wp_step)
 exact hq
theorem x6u {tk:Tok}{Q:Fin->Shared->Prop}{vs:Array Value}{sl:Array (Option Value)}(c:XC h C bm f nid)(ha:a∈quiets)(hB:typeLookup (.type "ValueError") a=pure none)(hfa:f a=none)
  (hx:h.get? x=some { cls:=.ref C,dict:=some dx,data:=.fields vs,slots:=sl })(nx:h.Ns1 dx mA)(hv:mA a=some u)(hq:Q (.done (.ret u)) ⟨h,g,d,t,os⟩) :
  wpAny (model prog w) A (Builtin.«object.__getattribute__» ⟨[.ref x,.str a tk],[]⟩) Q E ⟨h,g,d,t,os⟩:=by
 have nx2:=nx.ns;obtain⟨nm,qn,N,bs,sn,sub,ab,col,dd,k0,k1,k2,k3,k5,eC,n⟩:=id c.ex
 repeat (any_goals (first|assumption|with_reducible refine wpAny_loadPart_at hx ?_|(with_reducible refine c.look ha hB ?_;rw[hfa])|with_reducible refine wpAny_loadPart_at eC ?_|(with_reducible refine wpAny_nsGet nx2 ?_;rw[hv])|wp_step))
theorem Aq {expr:Bool}{Q:Value->Shared->Prop}{vs:Array Value}{sl:Array (Option Value)}(c:XC h C bm f nid)(hg:f "__getattribute__" = none)(hh:f "__getattr__" = none)(ha:a∈quiets)(hB:typeLookup (.type "ValueError") a=pure none)(hfa:f a=none)
  (hx:h.get? x=some { cls:=.ref C,dict:=some dx,data:=.fields vs,slots:=sl })(nx:h.Ns1 dx mA)(hv:mA a=some u)(ho:handedOut u=pure u)(hq:Q u ⟨h,g,d,t+1,os⟩) :
  wpAny (model prog w) A (getAttr (.ref x) a expr) Q E ⟨h,g,d,t,os⟩:=by
 have FB:=F.attrBase_ValueError;have f3:=FB.ga.bind (.ref x);have z0:(expr&&onTheHeap (Value.builtin "BaseException.__getattribute__"))=false:=by cases expr<;>rfl
 have z2:(Value.builtin "BaseException.__getattribute__" == Value.builtin "object.__getattribute__")=false:=by decide +kernel
 have z1:(onTheHeap (Value.ref C)&&Value.builtin "BaseException.__getattribute__" == Value.builtin "object.__getattribute__")=false:=by rw[z2];rfl
 unfold getAttr
 repeat (any_goals (first|assumption|with_reducible refine wpAny_loadPart_at hx ?_|(with_reducible refine c.look (by simp) FB.ga.lookup ?_;rw[hg])|(with_reducible refine c.look (by simp) FB.noGetattr ?_;rw[hh])|wp_step))
 refine codeAny_call_builtin FB.ga.plain F.entry_bexc_ga (yq c hx rfl (x6u c ha hB hfa hx nx hv ?_))
 repeat (any_goals (first|assumption|rw[ho]|wp_step))
end
end L2
set_option maxHeartbeats 1000000
namespace L2
open PySem PyProof.Rows
section
variable {prog:Program}{w:World}{A:Around}{E:Value->Shared->Prop}{h:Heap}{g:Array GenState}{d:Drawn}{t:Nat}{os:OsState}{C fI:Addr}{bm:List Value}{f:Str->Option Value}{us:List Value}{oI:Obj}
abbrev vnew:String:="ValueError.__new__"
noncomputable abbrev Gf (us:List Value):Obj:={ cls:=.type "tuple",data:=.seq us.toArray }
noncomputable abbrev Ud (C T:Addr):Obj:={ cls:=.ref C,data:=.fields #[.ref T,.none,.none,.none,.bool false,.none] }
theorem x3b {Q:Fin->Shared->Prop}(c:XC h C bm f vnew)(hi:f "__init__" = some (.ref fI))(hf:h.get? fI=some oI)(hfc:oI.cls=.type "function")(hl:us.length<=sizeLine)
  (hq:wpAny (model prog w) A (call (.ref fI) (.ref (h.objs.size+1)::us)) (fun r s2=>r=.none/\Q (.done (.ret (.ref (h.objs.size+1)))) s2) E ⟨(h.push (Gf us)).push (Ud C h.objs.size),g,d,t,os⟩) :
  wpAny (model prog w) A (Builtin.«type.__call__» ⟨.ref C::us,[]⟩) Q E ⟨h,g,d,t,os⟩:=by
 obtain⟨nm,qn,N,bs,sn,sub,ab,col,dd,k0,k1,k2,k3,k5,eC,n⟩:=id c.ex;have Fx:=F.excBase_ValueError;have hB:mroV.contains (.type "ValueError")=true:=by decide
 have kp:∀b o,h.get? b=some o->((h.push (Gf us)).push (Ud C h.objs.size)).get? b=some o:=fun b o e=>get?_push_of_some _ (get?_push_of_some _ e);have c2:XC ((h.push (Gf us)).push (Ud C h.objs.size)) C bm f vnew:=c.keeps kp;have eC2:=kp _ _ eC;have hs:((h.push (Gf us)).push (Ud C h.objs.size)).get? (h.objs.size+1)=some (Ud C h.objs.size):=get?_push_at (by rw[size_push]) rfl;have hcC:(Value.ref C::bm).contains (.ref C)=true:=by simp
 repeat (first|with_reducible refine wpAny_loadPart_at eC ?_|with_reducible refine wpAny_madeBy_exc eC ?_|wp_step)
 refine codeAny_call_builtin_code (Code.quiet_builtin _ Fx.quiet) (wpAny_check_new_subU Fx hB c.up.tail eC ?_);refine codeAny_exc_new_subU Fx hB Fx c.up.tail eC ?_ hl;show wpAny _ _ _ _ _ _;unfold isInstance
 repeat (first|with_reducible refine wpAny_loadPart_at hs ?_|(with_reducible refine wpAny_isSubtype_exc eC2 ?_;rw[hcC])|wp_step)
 show wpAny _ _ (typeLookup (.ref C) _) _ _ _;refine c2.look (by simp) Fx.init.lookup ?_;rw[hi];refine wpAny_holding (wpAny_bind ?_);unfold bindSpecial;refine wpAny_bind (wpAny_typeOf (T:="function") ⟨_,kp _ _ hf,hfc⟩ ?_);rw[if_pos (by decide)];refine wpAny_pure (wpAny_bind (wpAny_mono hq (fun r s2 hr=>?_) fun _ _ z=>z));obtain⟨rfl,hr⟩:=hr
 wp_walk
 exact hr
theorem x5c {Q:Value->Shared->Prop}(c:XC h C bm f vnew)(hi:f "__init__" = some (.ref fI))(hf:h.get? fI=some oI)(hfc:oI.cls=.type "function")(hl:us.length<=sizeLine)
  (hq:wpAny (model prog w) (A.under (.builtin "type.__call__" ⟨.ref C::us,[]⟩)) (call (.ref fI) (.ref (h.objs.size+1)::us)) (fun r s2=>r=.none/\Q (.ref (h.objs.size+1)) s2) E ⟨(h.push (Gf us)).push (Ud C h.objs.size),g,d,t,os⟩) :
  wpAny (model prog w) A (call (.ref C) us) Q E ⟨h,g,d,t,os⟩:=by
 obtain⟨nm,qn,N,bs,sn,sub,ab,col,dd,k0,k1,k2,k3,k5,eC,n⟩:=id c.ex;have f1:=tc_lookup;have f2:=tc_bind (.ref C);have hT:(⟨h,g,d,t,os⟩:Shared).TypeIs (.ref C) "type":=⟨_,eC,rfl⟩;refine wpAny_call (codeAny_of_tree ?_);show wpAny _ _ (callAny (.ref C) _) _ _ _
 repeat (any_goals (first|assumption|with_reducible refine wpAny_loadPart_at eC ?_|wp_step))
 refine⟨rfl,?_⟩;exact codeAny_call_builtin_at (Code.quiet_builtin _ (by decide +kernel)) entry_typeCall (wpAny_check_type_call_sub eC (x3b c hi hf hfc hl hq))
end
end L2
set_option maxHeartbeats 1000000
namespace L2
open PySem PyProof.Rows
def XObj (h:Heap)(e C dx:Addr)(hd:Value):Prop:=∃vs sl,h.get? e=some { cls:=.ref C,dict:=some dx,data:=.fields vs,slots:=sl }/\vs[1]? = some hd
def TrOk (h:Heap)(T:Addr):Prop:=∃oT ts,h.get? T=some oT/\oT.data=.fields ts/\ts[3]? = some .none
section
variable {M:Model}{A:Around}{E:Value->Shared->Prop}{s:Shared}{base:Heap}{env:Env}{outer:List Env}{L e C dx T:Addr}
def Hf (l:List Env)(e C dx:Addr)(X:Addr->Prop)(h h2:Heap):Prop :=
 (∃T,h.objs.size<=T/\XObj h2 e C dx (.ref T)/\TrOk h2 T)/\(∀b o,h.get? b=some o->b≠e->¬X b->b∉l.filterMap (·.frame)->h2.get? b=some o) /\
  ∀b o,h.get? b=some o->b≠e->¬X b->∃sl,h2.get? b=some { o with slots:=sl }
theorem Bq {head:Value}{k:Bool}{vs:Array Value}{sl:Array (Option Value)}{Q:Unit->Shared->Prop}(hfr:A.frames=some (env::outer))(hl:s.heap.FunFrames base (env::outer))(hf:env.frame=some L)
  (he:s.heap.get? e=some { cls:=.ref C,dict:=some dx,data:=.fields vs,slots:=sl })(sz:1<vs.size)(hq:∀h2,Hf (env::outer) e C dx (fun _=>False) s.heap h2->Q () { s with heap:=h2 }) :
  wpAny M A (do let a <-frameOf env;let p <-entryPlaceOf L k;let b <-EntryCells.newEntry head a .none (rawInt L) .none p;setField (.ref e) 1 b) (fun _ s2=>wpAny M A (setFlight (.ref e) none) Q E s2) E s:=by
 have ne:e∉(env::outer).filterMap (·.frame):=fun m=>by
  obtain⟨_,o,ho,nf⟩:=hl.mem m;rw[he]at ho;cases ho;exact nf vs rfl
 refine wpAny_bind (wpAny_frameOf_fun hfr hl hf fun g1 r1=>?_);refine wpAny_bind (wpAny_entryPlaceOf fun p hp=>?_);unfold EntryCells.newEntry newFields;refine wpAny_bind (wpAny_newObj_type ?_ (hp.sizeOk5 _ _ _ _ _));generalize hob:(({ cls:=.type "traceback",dict:=none,data:=.fields ([head,.ref L,.none,rawInt L,.none]++(if p.isEmpty then replicate 6 Value.none else p)).toArray }:Obj))=ob;have obd:ob.data=.fields ([head,.ref L,.none,rawInt L,.none]++(if p.isEmpty then replicate 6 Value.none else p)).toArray:=by rw[<-hob]
 have obf:ob.isFreed=false:=by rw[<-hob];rfl
 have e1:g1.get? e=some { cls:=.ref C,dict:=some dx,data:=.fields vs,slots:=sl }:=(r1.2.1 e ne).trans he;have e2:=get?_push_of_some (h:=g1) ob e1;refine wpAny_setField e2 rfl sz ?_;have nTe:g1.objs.size≠e:=ne_of_gt (lt_size e1);have e3:((g1.push ob).update e (Obj.mapFields (·.setIfInBounds 1 (Value.ref g1.objs.size)))).get? e=some { cls:=.ref C,dict:=some dx,data:=.fields (vs.setIfInBounds 1 (.ref g1.objs.size)),slots:=sl } :=
  get?_update_self _ e2 rfl
 have T3:((g1.push ob).update e (Obj.mapFields (·.setIfInBounds 1 (Value.ref g1.objs.size)))).get? g1.objs.size=some ob:=(get?_update_other _ _ (Ne.symm nTe)).trans (get?_push_size g1 obf);unfold setFlight;refine wpAny_bind (wpAny_field e3 rfl (x:=.ref g1.objs.size) (by simp[sz]) ?_);rw[if_pos (show(Value.ref g1.objs.size != Value.none)=true from by simp)];refine wpAny_setField T3 obd (by simp only[size_toArray,length_append,length_cons,length_nil];omega) (hq _ ⟨⟨g1.objs.size,?_,⟨_,_,(get?_update_other _ _ nTe).trans e3,by simp[sz]⟩,_,_,get?_update_self _ T3 (Obj.isFreed_of_fields (Obj.data_mapFields obd _)),Obj.data_mapFields obd _,?_⟩,fun b o hb nb _ nf=>?_,fun b o hb nb _=>?_⟩)
 ·rw[r1.1];exact le_refl _
 ·rcases hp with rfl|⟨_,_,_,_,_,_,_,rfl⟩<;>simp
 ·have b1:g1.get? b=some o:=(r1.2.1 b nf).trans hb;exact(get?_update_other _ _ (ne_of_gt (lt_size b1))).trans ((get?_update_other _ _ (Ne.symm nb)).trans (get?_push_of_some _ b1))
 ·obtain⟨l2,b1⟩:=r1.2.2 b o hb;exact⟨l2,(get?_update_other _ _ (ne_of_gt (lt_size b1))).trans ((get?_update_other _ _ (Ne.symm nb)).trans (get?_push_of_some _ b1))⟩
theorem j7k {Q:Unit->Shared->Prop}(hfr:A.frames=some (env::outer))(hl:s.heap.FunFrames base (env::outer))(hf:env.frame=some L)(he:XObj s.heap e C dx .none)
  (hq:∀h2,Hf (env::outer) e C dx (fun _=>False) s.heap h2->Q () { s with heap:=h2 }) :
  wpAny M A (noteFrame (.ref e) env) (fun _ s2=>wpAny M A (setFlight (.ref e) none) Q E s2) E s:=by
 obtain⟨vs,sl,he,h1⟩:=he;unfold noteFrame;simp only[hf];refine wpAny_bind (wpAny_field he rfl h1 ?_);rw[if_neg (by decide)];exact Bq hfr hl hf he (Array.getElem?_eq_some_iff.mp h1).1 hq
theorem Cq {Q:Unit->Shared->Prop}(hfr:A.frames=some (env::outer))(hl:s.heap.FunFrames base (env::outer))(hf:env.frame=some L)(he:XObj s.heap e C dx (.ref T))(hT:TrOk s.heap T)(nT:T≠e)
  (hq:∀h2,Hf (env::outer) e C dx (fun b=>b=T) s.heap h2->Q () { s with heap:=h2 }) :
  wpAny M A (noteFrame (.ref e) env) (fun _ s2=>wpAny M A (setFlight (.ref e) none) Q E s2) E s:=by
 obtain⟨vs,sl,he,h1⟩:=he;obtain⟨oT,ts,gT,dT,h3⟩:=hT;unfold noteFrame;simp only[hf];refine wpAny_bind (wpAny_field he rfl h1 ?_);rw[if_pos (show(Value.ref T != Value.none)=true from by simp)];refine wpAny_bind (wpAny_field gT dT h3 ?_);rw[if_neg (show ¬((Value.none == rawInt L)=true) from by simp[rawInt])];refine wpAny_bind (wpAny_setField gT dT (Array.getElem?_eq_some_iff.mp h3).1 ?_);have oth:∀b,b≠T->(s.heap.update T (Obj.mapFields (·.setIfInBounds 3 Value.none))).get? b=s.heap.get? b:=fun b nb=>get?_update_other _ _ (Ne.symm nb);have nf:∀b o,s.heap.get? b=some o->(∀q,o.data≠.fields q)->b≠T:=fun b o hb n z=>by
  subst z;rw[gT]at hb;cases hb;exact n ts dT
 refine Bq (hfr) (hl.of_keeps fun b o hb n=>⟨o,(oth b (nf b o hb n)).trans hb,rfl⟩) hf ((oth e (Ne.symm nT)).trans he) (Array.getElem?_eq_some_iff.mp h1).1 fun h2 N=>hq h2 ?_;obtain⟨⟨T2,n2,x2,t2⟩,k,k2⟩:=N;exact⟨⟨T2,le_trans (le_of_eq (Heap.size_after_update ..).symm) n2,x2,t2⟩,fun b o hb nb nx=>k b o ((oth b nx).trans hb) nb id,fun b o hb nb nx=>k2 b o ((oth b nx).trans hb) nb id⟩
end
end L2
set_option maxHeartbeats 1000000
namespace L2
open PySem PyProof.Rows
def XO (C dx x:Addr):HO:=.ext fun h=>∃vs sl,h.get? x=some { cls:=.ref C,dict:=some dx,data:=.fields vs,slots:=sl }
section
variable {P:Program}{w:World}{X:Cx}{pins:List (Addr×Obj)}{σ:St}{H:Hp}{s:Shared}{x C dx T:Addr}{hd:Value}{l:List Env}{h2:Heap}
theorem XO.ok {h:Heap}(o:XObj h x C dx hd):ObjOk P w H h x (XO C dx x):=by
 obtain⟨vs,sl,e,_⟩:=o;exact⟨⟨vs,sl,e⟩,⟨_,e⟩,fun h1 h2 ⟨vs,sl,e⟩ k=>⟨vs,sl,k _ e⟩⟩
theorem Dq {Y:Addr->Prop}(ok:HOk P w H s.heap)(fr:∀b∈frs l,H b=none)(hY:∀b,Y b->H b=none)(hx:H x=some (XO C dx x))(N:Hf l x C dx Y s.heap h2):HOk P w H h2:=fun a o e=>by
 obtain⟨⟨T2,_,x2,_⟩,k,k2⟩:=N;by_cases z:a=x
 ·subst z;rw[hx]at e;cases e;exact XO.ok x2
 ·refine(ok a o e).stay (fun b u hb q=>?_) (fun _ q=>q) fun _ _ q=>q;have tr:∃ob,H b=some ob/\b≠x:=by
   rcases hb with rfl|hb
   ·exact⟨_,e,z⟩
   ·refine⟨_,hb,fun r=>?_⟩;subst r;rw[hx]at hb;cases hb
  obtain⟨ob,tr,nb⟩:=tr;exact k b u q nb (fun y=>by rw[hY b y]at tr;cases tr) fun y=>by rw[fr b y]at tr;cases tr
theorem q3o {Y:Addr->Prop}(ok:HOk P w H s.heap)(fr:∀b∈frs l,H b=none)(hY:∀b,Y b->H b=none)(hx:H x=some (XO C dx x))(N:Hf l x C dx Y s.heap h2){ex:List Addr}(hex:∀b,Y b->b∈ex) :
  Un (frs l) ex H H s.heap h2/\HOk P w H h2:=by
 obtain⟨⟨T2,_,x2,_⟩,k,k2⟩:=id N;have nx:∀b,H b=none->b≠x:=fun b n z=>by subst z;rw[hx]at n;cases n
 refine⟨⟨fun b o e n nf ne=>k b o e (nx b n) (fun y=>ne (hex b y)) nf,fun b o e n _ ne=>k2 b o e (nx b n) fun y=>ne (hex b y),fun _ _ _ n _=>n,fun b o e ne=>?_,fun _ _ q=>q,fun _ _ _ q=>q,fun _ q=>q⟩,Dq ok fr hY hx N⟩
 ·by_cases z:b=x
  ·subst z;obtain⟨vs,sl,q,_⟩:=x2;exact⟨_,q⟩
  ·obtain⟨sl,q⟩:=k2 b o e z fun y=>ne (hex b y);exact⟨_,q⟩
def CX1 (P:Program)(w:World):CXT:=fun outer H s E e s2=>∃x C dx T H2,e=.ref x/\s2.os=s.os/\AllBare s2.gens/\Un (frs outer) [] H H2 s.heap s2.heap/\HOk P w H2 s2.heap/\H2 x=some (XO C dx x) /\
 XObj s2.heap x C dx (.ref T)/\TrOk s2.heap T/\H2 T=none/\s.heap.objs.size<=x/\s.heap.objs.size<=T/\E (.ref x) (some dx) H2/\tk0<=s2.toks
theorem Fq (o:XObj s.heap x C dx hd)(hx:H x=some (XO C dx x))(n:H T=none):T≠x:=fun z=>by subst z;rw[hx]at n;cases n
theorem Gq {K:W.Frag}{mg:Str->Option Value}{base:Heap}{N:List Str}{qual:Str}{scope:Scope}{f:Addr}{cd:Value}{A:Around}{outer:List Env}{s0:Shared}{H0:Hp}{E:XK}
  (I:Inv (cxOf (CX1 P w) P w K mg base N qual scope f cd A outer s0 H0 E) pins σ H s)(hx:H x=some (XO C dx x))(o:XObj s.heap x C dx hd)
  (ht:hd=.none \/ ∃T,hd=.ref T/\TrOk s.heap T/\H T=none/\s0.heap.objs.size<=T)(nx:s0.heap.objs.size<=x)(q:E (.ref x) (some dx) H) :
  (cxOf (CX1 P w) P w K mg base N qual scope f cd A outer s0 H0 E).xe (.ref x) s:=by
 have hl:=I.stack;have fr:=I.stkFree;have fin:∀(Y:Addr->Prop),(∀b,Y b->H b=none/\s0.heap.objs.size<=b)->∀h2,Hf (envOfC qual scope s0.heap.objs.size f cd::outer) x C dx Y s.heap h2->CX1 P w outer H0 s0 E (.ref x) { s with heap:=h2 }:=fun Y hY h2 nt=>by
  obtain⟨⟨T2,n2,x2,t2⟩,k,k2⟩:=id nt;have ok:HOk P w H h2:=Dq I.hok fr (fun b y=>(hY b y).1) hx nt;have old:∀b o,s0.heap.get? b=some o->b≠x/\¬Y b/\b≠s0.heap.objs.size:=fun b o e=>by
   have lt:b<s0.heap.objs.size:=lt_size e;exact⟨fun z=>absurd nx (by subst z;exact Nat.not_le_of_lt lt),fun z=>absurd (hY b z).2 (Nat.not_le_of_lt lt),ne_of_lt lt⟩
  have B:Un (frs outer) [] H0 H s0.heap s.heap:=I.base;refine⟨x,C,dx,T2,H,rfl,I.os,I.bare,⟨fun b o e n nf _=>?_,fun b o e n nf _=>?_,fun b o e n _=>B.free b o e n (by simp),fun b o e _=>?_,B.tups,B.frzs,B.tbls⟩,ok,hx,x2,t2,I.hok.fresh n2,nx,le_trans I.sz n2,q,I.pos⟩
  ·obtain⟨y1,y2,y3⟩:=old b o e;refine k b o (B.keep b o e n nf (by simp)) y1 y2 fun z=>?_;rcases mem_cons.mp (show b∈s0.heap.objs.size::frs outer from z) with z|z
   ·exact y3 z
   ·exact nf z
  ·obtain⟨y1,y2,y3⟩:=old b o e;obtain⟨sl,e1⟩:=B.slot b o e n nf (by simp);obtain⟨sl2,e2⟩:=k2 b _ e1 y1 y2;exact⟨sl2,e2⟩
  ·obtain⟨y1,y2,y3⟩:=old b o e;obtain⟨o1,e1⟩:=B.there b o e (by simp);obtain⟨sl,e2⟩:=k2 b _ e1 y1 y2;exact⟨_,e2⟩
 show wpAny _ _ (leaving _ _) _ _ _;unfold leaving;rcases ht with rfl|⟨T,rfl,hT,nT,zT⟩
 ·exact wpAny_bind (j7k I.ok.frames hl rfl o (fin _ fun b y=>y.elim))
 ·exact wpAny_bind (Cq I.ok.frames hl rfl o hT (Fq o hx nT) (fin _ fun b y=>by cases y;exact⟨nT,zT⟩))
theorem vh {K:W.Frag}{mg:Str->Option Value}{base:Heap}{N:List Str}{qual:Str}{scope:Scope}{f:Addr}{cd:Value}{A:Around}{outer:List Env}{s0:Shared}{H0:Hp}{E:XK} :
  Fe (CX1 P w) (cxOf (CX1 P w) P w K mg base N qual scope f cd A outer s0 H0 E) E:=by
 intro pins σ H s e s2 I z;obtain⟨x,C,dx,T,H2,he,os,bare,un,ok,hx,xo,tr,hT,nx,nT,q,hp⟩:=z;subst he;have I2:=I.call' os un ok bare (fun b z=>absurd z (by simp));exact Gq I2 hx xo (.inr ⟨T,rfl,tr,hT,le_trans I.sz nT⟩) (le_trans I.sz nx) q
end
end L2
set_option maxHeartbeats 1000000
namespace L2
open PySem PyProof.Rows
noncomputable def Xi (K:W.Frag)(N:Addr)(l:List Str):Bool:=nsOkIn K N&&l.all fun x=>nsIn K N x == some none
noncomputable def Yi (K:W.Frag):List Value->Bool
 | []=>false
 |v::r=>(v::r) == mroV||match v with
  |.ref a=>(match K.lookup a with
   |some ⟨_,_,.cls k,_⟩=>Xi K k.ns quiets&&Yi K r
   |_=>false)
  |_=>false
theorem Hq {K:W.Frag}{h:Heap}{N:Addr}{l:List Str}(X:K.In h)(q:Xi K N l=true):h.Ns N (h.nsMap N)/\∀x∈l,h.nsMap N x=none:=by
 unfold Xi at q;simp only[and_eq_true,all_eq_true,beq_iff_eq]at q;exact⟨.of_isNs (W.isNs_of_in X q.1),fun x hx=>W.nsMap_none_of_in X q.1 (q.2 x hx)⟩
theorem Iq {K:W.Frag}{h:Heap}(X:K.In h):∀{l:List Value},Yi K l=true->Abv h l
 | [],e=>by cases e
 |v::r,e=>by
  unfold Yi at e;rcases Bool.or_eq_true_iff.mp e with q|q
  ·rw[beq_iff_eq.mp q];exact .base
  ·split at q
   ·split at q
    ·rename_i ho;rw[and_eq_true]at q;obtain⟨n,f⟩:=Hq X q.1;exact .own (X _ _ ho) n f (Iq X q.2)
    ·cases q
   ·cases q
noncomputable def clIn (K:W.Frag)(C:Addr)(bm:List Value)(g:ClassData->String->Bool):Bool:=match K.lookup C with
 |some ⟨c,_,.cls k,sl⟩=>c == .type "type"&&k.mro == .ref C::bm&&!k.hasDel&&(match sl.toList with
  | [_,_,_,_,v,_]=>(match v with|some (.builtin n)=>g k n|_=>false)
  |_=>false)
 |_=>false
theorem j8 {K:W.Frag}{C:Addr}{bm:List Value}{g:ClassData->String->Bool}(q:clIn K C bm g=true):∃dd k k0 k1 k2 k3 n k5,K.lookup C=some ⟨.type "type",dd,.cls k,#[k0,k1,k2,k3,some (.builtin n),k5]⟩/\k.mro=.ref C::bm/\k.hasDel=false/\g k n=true:=by
 unfold clIn at q;cases e:K.lookup C with
 |none=>rw[e]at q;exact(Bool.false_ne_true q).elim
 |some o =>
  rw[e]at q;obtain⟨c,dd,p,sl⟩:=o;cases p with
  |cls k =>
   dsimp only at q;rw[and_eq_true,and_eq_true,and_eq_true]at q;obtain⟨⟨⟨h1,h2⟩,h3⟩,q⟩:=q;cases beq_iff_eq.mp h1;rcases sl with ⟨_|⟨k0,_|⟨k1,_|⟨k2,_|⟨k3,_|⟨k4,_|⟨k5,_|⟨k6,r⟩⟩⟩⟩⟩⟩⟩⟩
   case some.cls.refl.cons.cons.cons.cons.cons.cons.nil =>
    cases k4 with
    |none=>exact(Bool.false_ne_true q).elim
    |some v =>
     cases v with
     |builtin n=>exact⟨dd,k,k0,k1,k2,k3,n,k5,rfl,beq_iff_eq.mp h2,by simpa using h3,q⟩
     |_=>exact(Bool.false_ne_true q).elim
   all_goals exact(Bool.false_ne_true q).elim
  |_=>exact(Bool.false_ne_true q).elim
noncomputable def xcIn (K:W.Frag)(C:Addr)(bm:List Value)(fI:Addr):Bool:=clIn K C bm fun k n=>n == vnew&&k.hasDict&&Yi K bm&&Xi K k.ns quiets.tail&&nsIn K k.ns "__init__" == some (some (.ref fI))
theorem x3l {K:W.Frag}{h:Heap}{N:Addr}{mg:Str->Option Value}{n:Str}{v:Value}(X:K.In h)(G:h.Ns N mg)(e:nsIn K N n=some (some v)):mg n=some v:=by
 obtain⟨o,es,ep,ho,hd,_,hf⟩:=G;unfold nsIn at e;split at e
 ·rename_i c d es2 n2 sl q;have z:=X _ _ q;rw[ho]at z;cases z;cases hd;split at e
  ·rename_i he;rw[<-hf];unfold nsFind findBy;rw[<-Array.find?_toList,he];simpa using e
  ·exact absurd e (by intro z;split at z<;>cases z)
 ·cases e
theorem ye {K:W.Frag}{h:Heap}{C fI:Addr}{bm:List Value}(X:K.In h)(q:xcIn K C bm fI=true):∃f,XC h C bm f vnew/\f "__init__" = some (.ref fI)/\∀x∈quiets.tail,f x=none:=by
 obtain⟨dd,k,k0,k1,k2,k3,n,k5,ho,hm,hdel,q⟩:=j8 q;simp only[and_eq_true,beq_iff_eq]at q;obtain⟨⟨⟨⟨rfl,hdi⟩,ht⟩,hq⟩,hi⟩:=q;obtain⟨nm,bs,mro,ns,qn,hd,sn,sub,ab,col,del⟩:=k;dsimp only at hm hdel hq hi hdi;subst hm hdel hdi;obtain⟨n,f⟩:=Hq X hq;exact⟨h.nsMap ns,⟨⟨nm,qn,ns,bs,sn,sub,ab,col,dd,k0,k1,k2,k3,k5,X _ _ ho,n⟩,Iq X ht⟩,x3l X n hi,f⟩
end L2
set_option maxHeartbeats 1000000
namespace L2
open PySem PyProof.Rows
def XN (C T x:Addr):HO:=.ext fun h=>h.get? x=some (Ud C T)
def XF (C dx x:Addr):HO:=.ext fun h=>XObj h x C dx .none
section
variable {P:Program}{w:World}{X:Cx}{pins:List (Addr×Obj)}{σ:St}{H:Hp}{s:Shared}{x C dx T:Addr}{h h2:Heap}{fs ex:List Addr}{o1 o2:HO}
theorem Un.two (mu:Mut (H x))(nd:dx≠x)(k:∀b u,b≠x->h.get? b=some u->h2.get? b=some u)(hx:∃u,h2.get? x=some u)(hp:h.objs.size<=dx)(hn:H dx=none):Un fs ex H (upd (upd H dx o1) x o2) h h2:=by
 have nx:∀b,H b=none->b≠x:=fun b n z=>by subst z;rw[n]at mu;exact mu
 have nz:∀b u,h.get? b=some u->b≠dx:=fun b u e=>ne_of_lt (lt_of_lt_of_le (lt_size e) hp);have tr:∀b u,H b=some u->¬Mut (some u)->upd (upd H dx o1) x o2 b=some u:=fun b u e m=>by
  rw[wa (fun z=>by subst z;rw[e]at mu;exact m mu),wa (qb e hn)];exact e
 refine⟨fun b o e n _ _=>k b o (nx b n) e,fun b o e n _ _=>⟨o.slots,k b o (nx b n) e⟩,fun b o e n _=>by rw[wa (nx b n),wa (nz b o e)];exact n,fun b o e _=>?_,fun b xs e=>tr b _ e id,fun b o u e=>tr b _ e id,fun b e=>tr b _ e id⟩;by_cases z:b=x
 ·subst z;exact hx
 ·exact⟨o,k b o z e⟩
theorem HOk.two (ok:HOk P w H h)(mu:Mut (H x))(nd:dx≠x)(k:∀b u,b≠x->h.get? b=some u->h2.get? b=some u)(hp:h.objs.size<=dx)
  (n1:ObjOk P w (upd (upd H dx o1) x o2) h2 dx o1)(n2:ObjOk P w (upd (upd H dx o1) x o2) h2 x o2):HOk P w (upd (upd H dx o1) x o2) h2:=fun b u e=>by
 have hn:=ok.fresh hp;by_cases zx:b=x
 ·subst zx;rw[z0h]at e;cases e;exact n2
 ·rw[wa zx]at e;by_cases zd:b=dx
  ·subst zd;rw[z0h]at e;cases e;exact n1
  ·rw[wa zd]at e;have st:∀c v,H c=some v->¬Mut (some v)->upd (upd H dx o1) x o2 c=some v:=fun c v q m=>by
    rw[wa (fun z=>by subst z;rw[q]at mu;exact m mu),wa (qb q hn)];exact q
   refine(ok b u e).stay (fun c v hc q=>k c v (fun z=>?_) q) (fun c q=>st c _ q id) fun c xs q=>st c _ q id;subst z;rcases hc with hc|hc
   ·exact zx hc.symm
   ·rw[hc]at mu;exact mu
def tSetX (C:Addr)(a:Str)(to tv:TE):TS:=fun D σ H=>tv σ H fun v H1=>to σ H1 fun y H2=>∃x T,y=.ref x/\H2 x=some (XN C T x)/\∀dx,H2 dx=none->dx≠x->D.nx σ (upd (upd H2 dx (.xd [(a,v)])) x (XF C dx x))
theorem j5j {a:Str}{bm:List Value}{fI:Addr}{eo ev:Expr}{p pos:Pos}{to tv:TE}(q:xcIn X.K C bm fI=true)(ha:a∈(["name","row"]:List Str))(hv:PE X ev tv)(ho:PE X eo to)
  (hs:swapsWith ev (some (.Attribute eo a p)) pos.line X.env=pure false:=by rfl):PS X (.Assign [.Attribute eo a p] ev pos) (tSetX C a to tv):=by
 intro pins s σ H D I h;refine plainObj_wpAny_Assign_Attribute (thn (hv pins s σ H _ I h) fun u s1 ⟨v,H1,I1,rv,h1⟩=>thn (ho pins s1 σ H1 _ I1 h1) fun y s2 zq=>?_) hs;obtain⟨yv,H2,I2,ry,x,T,e,hx,h2⟩:=zq;subst e;obtain rfl:y=Value.ref x:=ry;obtain⟨hp,g,d,tk,os⟩:=s2;obtain⟨f,c,_,qt⟩:=ye I2.kIn q;obtain⟨hx0,_,_⟩:=I2.hok x _ hx;have hB:typeLookup (.type "ValueError") a=pure none:=by
  rcases mem_cons.mp ha with rfl|ha
  ·rw[typeLookup_type,builtinLookup_eq_fast];kernel_rfl
  ·rcases mem_cons.mp ha with rfl|ha
   ·rw[typeLookup_type,builtinLookup_eq_fast];kernel_rfl
   ·cases ha
 have ha2:a∈quiets.tail:=by
  simp only[mem_cons,not_mem_nil,or_false]at ha;rcases ha with rfl|rfl<;>simp
 refine q6f c (qt _ (by simp)) (mem_of_mem_tail ha2) hB (qt a ha2) hx0 fun g2 tk2 zq=>?_;obtain⟨dx,n1,n2,gx,nx,kp⟩:=zq;have fr:H2 dx=none:=I2.hok.fresh n1;refine(fun _=>⟨σ,_,I2.un (Un.two (o1:=.xd [(a,v)]) (o2:=XF C dx x) (by rw[hx];trivial) n2 kp ⟨_,gx⟩ n1 fr) (I2.hok.two (by rw[hx];trivial) n2 kp n1 ⟨_,nx,fun y=>?_⟩ ⟨⟨_,_,gx,rfl⟩,⟨_,gx⟩,fun h1 h2 ⟨vs,sl,e,z⟩ k=>⟨vs,sl,k _ e,z⟩⟩),h2 dx fr n2⟩);by_cases z:y=a
 ·subst z;have:([(y,v)]:List (Str×V)).lookup y=some v:=by simp[List.lookup]
  rw[this,if_pos rfl];exact rv
 ·have:([(a,v)]:List (Str×V)).lookup y=none:=by
   have hb:(y == a)=false:=by simpa using z
   simp[List.lookup,hb]
  rw[this,if_neg z];trivial
end
end L2
set_option maxHeartbeats 1000000
namespace L2
open PySem PyProof.Rows
def Jq (C:Addr)(a:Str):Sp:=fun vs H Q _=>∃x T v,vs=[.ref x,v]/\H x=some (XN C T x)/\∀dx,H dx=none->dx≠x->Q .non (upd (upd H dx (.xd [(a,v)])) x (XF C dx x))
section
variable {P:Program}{w:World}{K:W.Frag}{mg:Str->Option Value}{base:Heap}{C fI:Addr}{bm:List Value}{a qual:Str}{st:Stmt}{fd:FuncData}
theorem gm {p1 p2 p3 pos:Pos}(F:Fun K "__init__" qual st fI fd)(S:FnScope ["self",a] ["self",a] (ya st))(hb:Yb st=[.Assign [.Attribute (.Name "self" p1) a p2] (.Name a p3) pos])(q:xcIn K C bm fI=true)
  (ha:a∈(["name","row"]:List Str)):FnOk P w K mg base CX0 1 fI fd ["self",a] (Jq C a):=by
 refine F.ok S (fun vs H Q E h=>?_) (fun cdv A outer s H vs Q E hr h=>?_)
 ·obtain⟨_,_,_,rfl,_⟩:=h;rfl
 ·obtain⟨x,T,v,rfl,hx,h⟩:=h;have vis:∀y∈(["self",a]:List Str),Vis (ya st) y:=fun y hy=>by
   rcases S.par y hy with z|z
   ·exact .inl z
   ·exact .inr (.inl z)
  have db:(a == ("__debug__":Str))=false/\(a == ("__classdict__":Str))=false:=by
   simp only[mem_cons,not_mem_nil,or_false]at ha;rcases ha with rfl|rfl<;>decide
  rw[hb];refine⟨_,Ta (j5j q ha (mf (i:=1) rfl (vis a (by simp)) db.1 db.2) (mf (i:=0) rfl (vis "self" (by simp)))) Xb,?_⟩;refine⟨v,rfl,.ref x,rfl,x,T,rfl,hx,fun dx n1 n2=>h dx n1 n2⟩
theorem x4z {M:Model}{A:Around}{E:Value->Shared->Prop}{s:Shared}{env:Env}{t:Sem Value}{Q:Flow->Shared->Prop}(hh:A.handled=none)
  (h:wpAny M A t (fun v s1=>∃e C dx bm f,v=.ref e/\XC s1.heap C bm f vnew/\XObj s1.heap e C dx .none/\E (.ref e) s1) E s):wpAny M A (raiseStmt env (some t) none) Q E s:=by
 unfold raiseStmt;refine wpAny_bind (wpAny_mono h (fun v s1 h1=>?_) fun _ _ z=>z);obtain⟨e,C,dx,bm,f,rfl,c,⟨vs,sl,he,hv⟩,hE⟩:=h1;obtain⟨hp,g,d,tk,os⟩:=s1;obtain⟨nm,qn,N,bs,sn,sub,ab,col,dd,k0,k1,k2,k3,k5,eC,n⟩:=id c.ex;have hcB:=hasV c.up (X:="BaseException") (by decide) C
 repeat (first|with_reducible refine wpAny_field he rfl hv ?_|with_reducible refine wpAny_loadPart_at he ?_|with_reducible refine wpAny_loadPart_at eC ?_|(with_reducible refine wpAny_isSubtype_exc eC ?_;rw[hcB])|wp_step)
 exact wpAny_raiseNew_none hh hE
end
end L2
set_option maxHeartbeats 1000000
namespace L2
open PySem PyProof.Rows
def x7q (C:Addr)(a:Str)(E:XK)(t:TA):TS:=fun _ σ H=>t σ H fun vs H1=>∃v,vs=[v]/\∀x dx,H1 x=none->H1 dx=none->dx≠x->E (.ref x) (some dx) (upd (upd H1 dx (.xd [(a,v)])) x (XO C dx x))
section
variable {P:Program}{w:World}{K:W.Frag}{mg:Str->Option Value}{base:Heap}{C fI:Addr}{bm:List Value}{a:Str}{fd:FuncData}
structure XK1 (P:Program)(w:World)(K:W.Frag)(mg:Str->Option Value)(base:Heap)(cn a:Str)(C:Addr):Prop where
 ex:∃bm fI fd,xcIn K C bm fI=true/\FnOk P w K mg base CX0 1 fI fd ["self",a] (Jq C a)/\Binds K fd ["self",a] []/\∃o,K.lookup fI=some o/\o.cls=.type "function"
 g:mg cn=some (.ref C)
 kp:keepIn K (.ref C)=true
theorem q3m {X:Cx}{cn:Str}{pins:List (Addr×Obj)}{σ:St}{H:Hp}{s:Shared}{v:V}{u:Value}{Q:Value->Shared->Prop}(c:XK1 X.prog X.w X.K X.mg X.base cn a C)(hr:Room 2 X.A)(I:Inv X pins σ H s)(r:RelV v u)
  (h:∀x dx s2,H x=none->H dx=none->dx≠x->s.heap.objs.size<=x->Inv X pins σ (upd (upd H dx (.xd [(a,v)])) x (XF C dx x)) s2->(∃bm f,XC s2.heap C bm f vnew)->Q (.ref x) s2) :
  wpAny (model X.prog X.w) X.A (call (.ref C) [u]) Q X.xe s:=by
 obtain⟨⟨bm,fI,fd,q,F,hb,oI,lk,fc⟩,g,kp⟩:=c;obtain⟨f,c,hi,_⟩:=ye I.kIn q;obtain⟨hp,gs,d,tk,os⟩:=s;refine x5c c hi (I.kIn _ _ lk) fc (by simp[sizeLine_eq]) ?_;have gx:((hp.push (Gf [u])).push (Ud C hp.objs.size)).get? (hp.objs.size+1)=some (Ud C hp.objs.size):=get?_push_at (by rw[size_push]) rfl;have I2:Inv X pins σ (upd H (hp.objs.size+1) (XN C hp.objs.size (hp.objs.size+1))) ⟨(hp.push (Gf [u])).push (Ud C hp.objs.size),gs,d,tk,os⟩ :=
  I.laid (fun b o e=>get?_push_of_some _ (get?_push_of_some _ e)) (le_succ _) ⟨gx,⟨_,gx⟩,fun h1 h2 e k=>k _ e⟩
 have nx:H (hp.objs.size+1)=none:=I.hok.fresh (le_succ _);have rv:Vals [V.ref (hp.objs.size+1),v] [Value.ref (hp.objs.size+1),u]:=.cons rfl (.cons r .nil);refine wpAny_call (codeAny_with_toks (n:=tk0) I2.pos (codeAny_mono (F.run _ X.stack _ _ ⟨[.ref (hp.objs.size+1),u],[]⟩ [.ref (hp.objs.size+1),u] _ (fun z H2=>z=.non/\∃dx,H dx=none/\dx≠hp.objs.size+1/\H2=upd (upd H dx (.xd [(a,v)])) (hp.objs.size+1) (XF C dx (hp.objs.size+1))) E0 ((hr.make C [u] []).mono (by omega))
  (I2.env0.make C [u] []) (by simpa using hb _ [.ref (hp.objs.size+1),u] I2.kIn rfl) rv ⟨_,_,v,rfl,z0h,fun dx n1 n2=>⟨rfl,dx,?_,n2,?_⟩⟩) fun r s2 hq hk2=>?_))
 ·rw[wa n2]at n1;exact n1
 ·funext b;unfold upd;by_cases z:b=hp.objs.size+1
  ·simp[z]
  ·simp[z]
 ·cases r with
  |error e=>exact False.elim hq
  |ok fl =>
   cases fl with
   |ret u2 =>
    obtain⟨z,H2,I3,rz,e1,dx,n1,n2,e2⟩:=I2.after hq hk2;subst e1;subst e2;exact⟨rz,h _ dx s2 nx n1 n2 (le_succ _) I3 (let ⟨f,c,_⟩:=ye I3.kIn q;⟨_,f,c⟩)⟩
   |next=>exact False.elim hq
   |brk=>exact False.elim hq
   |cont=>exact False.elim hq
theorem Zi {N:List Str}{qual:Str}{scope:Scope}{f:Addr}{cd:Value}{A:Around}{outer:List Env}{s0:Shared}{H0:Hp}{E:XK}{cn:Str}{p cpos pos:Pos}{e:Expr}{t:TA}
  (c:XK1 P w K mg base cn a C)(hr:Room 2 (cxOf (CX1 P w) P w K mg base N qual scope f cd A outer s0 H0 E).A)(hg:Gl (cxOf (CX1 P w) P w K mg base N qual scope f cd A outer s0 H0 E) cn)
  (ha:PA (cxOf (CX1 P w) P w K mg base N qual scope f cd A outer s0 H0 E) [e] t)(hdb:(cn == ("__debug__":Str))=false:=by decide)
  (he:starEach [e] (cxOf (CX1 P w) P w K mg base N qual scope f cd A outer s0 H0 E).env=(false,eval e (cxOf (CX1 P w) P w K mg base N qual scope f cd A outer s0 H0 E).env)::starEach [] (cxOf (CX1 P w) P w K mg base N qual scope f cd A outer s0 H0 E).env:=by rfl) :
  PS (cxOf (CX1 P w) P w K mg base N qual scope f cd A outer s0 H0 E) (.Raise (some (.Call (.Name cn p) [e] [] cpos)) none pos) (x7q C a E t):=by
 intro pins s σ H D I h;rw[arm_exec_Raise];refine wpAny_bind (wpAny_standAt (x4z (I.ok.hd rfl) ?_));refine wpAny_bind (wpAny_mono (wpAny_Call_Name_kw (qf I hg c.g ?_ hdb)) (fun v s2 h2=>wpAny_bind (wpAny_standAt (wpAny_pure h2))) fun _ _ z=>z);refine callWith_K (h₀:=base) I.ok.mod.kin c.kp (thn (ha cpos pins s σ H _ I h) fun us s1 ⟨vs,H1,I1,r,v,e1,h1⟩=>⟨I1.kIn,?_⟩) he rfl;subst e1;obtain⟨u,rfl,ru⟩:=Mc r;refine q3m c hr I1 ru fun x dx s2 n1 n2 n3 n4 I2 ⟨bm,f2,xc⟩=>?_;have hx:∃vs sl,s2.heap.get? x=some { cls:=.ref C,dict:=some dx,data:=.fields vs,slots:=sl }/\vs[1]? = some .none:=by
  obtain⟨⟨vs,sl,e1,e2⟩,_,_⟩:=I2.hok x _ z0h;exact⟨vs,sl,e1,e2⟩
 have xo:XObj s2.heap x C dx .none:=hx;refine⟨x,C,dx,bm,f2,rfl,xc,xo,?_⟩;have I3:Inv (cxOf (CX1 P w) P w K mg base N qual scope f cd A outer s0 H0 E) pins σ (upd (upd (upd H1 dx (.xd [(a,v)])) x (XF C dx x)) x (XO C dx x)) s2:=by
  have:=I2.write (x:=x) (e:=x) (o:=XO C dx x) (h':=s2.heap) (t':=s2.toks) (by rw[z0h];trivial) (.inl rfl) (fun b u _ q=>q) (by obtain⟨_,_,q,_⟩:=hx;exact⟨_,q⟩) (XO.ok xo);exact this
 rw[j4s]at I3;exact Gq I3 z0h xo (.inl rfl) (le_trans I1.sz n4) (h1 x dx n1 n2 n3)
end
end L2
set_option maxHeartbeats 1000000
namespace L2
open PySem PyProof.Rows
section
variable {X:Cx}{pins:List (Addr×Obj)}{σ:St}{H:Hp}{s:Shared}{M:Model}{A:Around}{E:Value->Shared->Prop}
theorem Inv.frame {σ2:St}{h2:Heap}{m:Str->Option Value}(I:Inv X pins σ H s)(hs:Heap.SameBut X.env.locals s.heap h2)(hn:h2.Ns X.env.locals m)
  (hl:∀(i:Nat)(x:Str)(v:V),X.N[i]? = some x->σ2[i]? = some (some v)->Vis X.env.scope x->∃u,RelV v u/\Look X.env h2 m x u)(hz:σ2.length=σ.length):Inv X pins σ2 H { s with heap:=h2 }:=by
 have nb:∀b o,X.s₀.heap.get? b=some o->b≠X.env.locals:=fun b o e=>ne_of_lt (lt_of_lt_of_le (lt_size e) I.ok.above);have tr:HOk X.prog X.w H h2:=fun b ob e=>by
  refine(I.hok b ob e).stay (fun c u hc q=>(hs.2 c ?_).trans q) (fun _ q=>q) fun _ _ q=>q;rintro rfl;rcases hc with rfl|hc
  ·rw[I.free]at e;cases e
  ·rw[I.free]at hc;cases hc
 refine⟨I.ok,I.os,I.bare,⟨fun b o e n hb hx=>(hs.2 b (nb b o e)).trans (I.base.keep b o e n hb hx),fun b o e n hb hx=>?_,I.base.free,fun b o e hx=>?_,I.base.tups,I.base.frzs,I.base.tbls⟩,⟨m,hn,hl⟩,fun y c e=>?_,I.free,I.freeC,fun p hp=>?_,tr,hz.trans I.len,I.pos⟩
 ·obtain⟨sl,e1⟩:=I.base.slot b o e n hb hx;exact⟨sl,(hs.2 b (nb b o e)).trans e1⟩
 ·obtain⟨o1,e1⟩:=I.base.there b o e hx;exact⟨o1,(hs.2 b (nb b o e)).trans e1⟩
 ·obtain⟨u,z⟩:=I.cell y c e;exact⟨u,z.sameBut hs (I.cne y c e)⟩
 ·obtain⟨e,n,ne,nf,d⟩:=I.pin p hp;exact⟨(hs.2 p.1 ne).trans e,n,ne,nf,d⟩
theorem j6a {i:Nat}{n:Str}{pos:Pos}{Q:Unit->Shared->Prop}(I:Inv X pins σ H s)(hN:X.N.Nodup)(hi:X.N[i]? = some n)(hx:X.env.kindOf n=some .local)(h:∀s2,Inv X pins (σ.set i none) H s2->Q () s2) :
  wpAny M A (do bindName X.env n .none;unbindBehindTheSuite X.env n pos) Q E s:=by
 have hk:X.env.scope.names.lookup n=some .local:=hx;refine wpAny_bind (wpAny_bindName (Sg (v:=.non) I hN hi (.inl hk) rfl (fun s1 I1=>?_) (.inr hk)));unfold unbindBehindTheSuite;refine wpAny_onRaise ?_;obtain⟨m,hn,hl⟩:=I1.loc;have hiσ:i<σ.length:=by rw[I.len];exact(List.getElem?_eq_some_iff.mp hi).1
 obtain⟨u,ru,lk⟩:=hl i n .non hi (by rw[getElem?_set_self hiσ]) (.inl hk);have hm:m n=some u:=by
  rcases lk with ⟨_,e⟩|⟨k,_⟩
  ·exact e
  ·rw[hx]at k;rcases k with k|k<;>cases k
 refine wpAny_unbindName_local hx hn hm (by rw[I.ok.kind];rfl) fun h2 u2 hn2 hs=>h _ ?_;refine I1.frame (σ2:=σ.set i none) hs hn2 (fun j y v e1 e2 e3=>?_) (by simp);by_cases hj:j=i
 ·subst hj;rw[getElem?_set_self hiσ]at e2;cases e2
 ·rw[getElem?_set_ne (Ne.symm hj)]at e2;obtain⟨u3,r3,q⟩:=hl j y v e1 (by rw[getElem?_set_ne (Ne.symm hj)];exact e2) e3;refine⟨u3,r3,?_⟩;have ny:y≠n:=fun z=>hj (Xj hN e1 (z ▸ hi));rcases q with ⟨k,e⟩|⟨k,c,e,z⟩
  ·exact .inl ⟨k,by simp[ny,e]⟩
  ·exact .inr ⟨k,c,e,z.sameBut hs (I1.cne y c e)⟩
noncomputable abbrev Cx.in_ (X:Cx)(e:Value):Cx:={ X with A:=X.A.mark (some e),calm:=false }
theorem Cx.Ok.in_ {e:Value}(ok:X.Ok):(X.in_ e).Ok :=
 ⟨ok.mod,ok.kind,ok.glob,ok.blt,ok.above,ok.inj,ok.has,ok.cab,(fun z=>nomatch z),ok.frames,ok.stk,ok.exf,ok.bs,ok.bsz,ok.noex,ok.exfs,ok.funs,ok.frf,ok.lam⟩
theorem Inv.in_ {e:Value}(I:Inv X pins σ H s):Inv (X.in_ e) pins σ H s:=⟨I.ok.in_,I.os,I.bare,I.base,I.loc,I.cell,I.free,I.freeC,I.pin,I.hok,I.len,I.pos⟩
noncomputable def fxIn (K:W.Frag)(C:Addr):Bool:=clIn K C mroV fun _ _=>true
theorem fx_of {K:W.Frag}{h:Heap}{C:Addr}(Y:K.In h)(q:fxIn K C=true):∃nm q N bs hd sn sub ab col dd k0 k1 k2 k3 k5 nid,h.get? C=some (excClassObj nm q C N bs mroV hd sn sub ab col dd k0 k1 k2 k3 k5 nid):=by
 obtain⟨dd,k,k0,k1,k2,k3,n,k5,ho,hm,hdel,-⟩:=j8 q;obtain⟨nm,bs,mro,ns,qn,hd,sn,sub,ab,col,del⟩:=k;dsimp only at hm hdel;subst hm hdel;exact⟨nm,qn,ns,bs,hd,sn,sub,ab,col,dd,k0,k1,k2,k3,k5,n,Y _ _ ho⟩
theorem exm {K:W.Frag}{x C CF dx:Addr}{bm:List Value}{f:Str->Option Value}{hd:Value}{Q:Bool->Shared->Prop}(Y:K.In s.heap)(q:fxIn K CF=true)(c:XC s.heap C bm f vnew)(hb:bm.contains (.ref CF)=true)(o:XObj s.heap x C dx hd)(h:Q true s) :
  wpAny M A (excMatches (.ref x) (.ref CF)) Q E s:=by
 obtain⟨hp,g,d,t,os⟩:=s;obtain⟨nm,qn,N,bs,sn,sub,ab,col,dd,k0,k1,k2,k3,k5,eC,n⟩:=id c.ex;obtain⟨nm2,q2,N2,bs2,hd2,sn2,sub2,ab2,col2,dd2,j0,j1,j2,j3,j5,nid2,eF⟩:=fx_of Y q;obtain⟨vs,sl,he,_⟩:=o;have hcB:(Value.ref CF::mroV).contains (.type "BaseException")=true:=by rw[contains_cons];simp
 have hcC:(Value.ref C::bm).contains (.ref CF)=true:=by rw[contains_cons,hb,Bool.or_true]
 have f:=tc_notTuple;unfold excMatches
 repeat (first|with_reducible refine wpAny_loadPart_at he ?_|with_reducible refine wpAny_loadPart_at eF ?_|(with_reducible refine wpAny_isSubtype_exc eF ?_;rw[hcB])|(with_reducible refine wpAny_isSubtype_exc eC ?_;rw[hcC])|wp_step)
 exact h
end
end L2
set_option maxHeartbeats 1000000
namespace L2
open PySem PyProof.Rows
def Kq (K:W.Frag)(CF C:Addr):Prop:=∃bm fI,xcIn K C bm fI=true/\bm.contains (.ref CF)=true
def tTry (K:W.Frag)(CF:Addr)(sp:Sp)(t:TA)(ie iy:Nat):TS:=fun D σ H=>t σ H fun vs H1=>sp vs H1 (fun _ H2=>D.nx σ H2) (fun e od H2=>∃x C dx,e=.ref x/\od=some dx/\H2 x=some (XO C dx x)/\Kq K CF C /\
 D.nx (((σ.set ie (some (.ref x))).set iy (some (.ref x))).set ie none) H2)
section
variable {X:Cx}{pins:List (Addr×Obj)}{σ:St}{H:Hp}{s:Shared}{M:Model}{A:Around}{E:Value->Shared->Prop}{CF x C dx T:Addr}
theorem Inv.out_ {e:Value}(ok:X.Ok)(I:Inv (X.in_ e) pins σ H s):Inv X pins σ H s:=⟨ok,I.os,I.bare,I.base,I.loc,I.cell,I.free,I.freeC,I.pin,I.hok,I.len,I.pos⟩
theorem Lq {s1:Shared}(I:Inv X pins σ H s1)(n:s1.heap.objs.size<=T):∀b∈[T],(b∈X.ex\/X.s₀.heap.objs.size<=b)/\b≠X.env.locals/\(∀x c,X.env.cells.lookup x=some c->c≠b)/\∀p∈X.pn++pins,p.1≠b:=fun b hb=>by
 cases mem_singleton.mp hb;have lt:∀c o,s1.heap.get? c=some o->c≠T:=fun c o e=>ne_of_lt (lt_of_lt_of_le (lt_size e) n);refine⟨.inr (le_trans I.sz n),?_,fun y c e=>?_,fun p hp=>?_⟩
 ·exact Ne.symm (ne_of_lt (lt_of_lt_of_le I.lt n))
 ·obtain⟨v,o,ho,_⟩:=I.cell y c e;exact lt c o ho
 ·obtain⟨e,_⟩:=I.pin p hp;exact lt p.1 _ e
theorem k0b {n y cf:Str}{ie iy:Nat}{p2 p3 p4 p5 hpos:Pos}{H2:Hp}{s2:Shared}{D:Ends}(I:Inv X pins σ H s)(hst:X.stack=X.env::X.outer/\X.env.frame=some X.env.locals)(hne:X.xe=fun _ _=>False)
  (hN:X.N.Nodup)(hi:X.N[ie]? = some n)(hl:X.env.kindOf n=some .local)(hy:X.N[iy]? = some y)(hyl:Loc X.env.scope y)(hyf:X.fn y=true\/X.env.scope.names.lookup y=some .local)(gcf:Gl X cf)(mcf:X.mg cf=some (.ref CF))(qcf:fxIn X.K CF=true)(bl:Kq X.K CF C)
  (os:s2.os=s.os)(bare:AllBare s2.gens)(un:Un (frs X.stack) [] H H2 s.heap s2.heap)(ok:HOk X.prog X.w H2 s2.heap)(hx:H2 x=some (XO C dx x))(xo:XObj s2.heap x C dx (.ref T))(tr:TrOk s2.heap T)(hT:H2 T=none)(nT:s.heap.objs.size<=T)(hk:tk0<=s2.toks)
  (hd:(cf == ("__debug__":Str))=false)(hdn:(n == ("__debug__":Str))=false)(hcn:(n == ("__classdict__":Str))=false)
  (hs:swapsWith (.Name n p4) (some (.Name y p3)) p5.line X.env=pure false)
  (q:D.nx (((σ.set ie (some (.ref x))).set iy (some (.ref x))).set ie none) H2) :
  wpAny (model X.prog X.w) X.A (noteFrame (.ref x) X.env) (fun _ s3=>wpAny (model X.prog X.w) X.A (setFlight (.ref x) none) (fun _ s4=>wpAny (model X.prog X.w) X.A (handleBy (.ref x) X.env [.ExceptHandler (some (.Name cf p2)) (some n) [.Assign [.Name y p3] (.Name n p4) p5] hpos]) (SP X pins D) E s4) E s3) E s2:=by
 have I1:Inv X pins σ H2 s2:=I.call' os un ok bare (fun b z=>absurd z (by simp));have sz:s.heap.objs.size<=s2.heap.objs.size:=by
  obtain⟨bm,fI,q1,q2⟩:=bl;cases Nat.lt_or_ge s2.heap.objs.size s.heap.objs.size with
  |inr h=>exact h
  |inl h =>
   obtain⟨_,_,g,_⟩:=tr;exact absurd (lt_of_lt_of_le (Nat.lt_trans (lt_size g) h) nT) (lt_irrefl _)
 have fr:X.A.frames=some (X.env::X.outer):=by rw[<-hst.1];exact I.ok.frames
 refine Cq (base:=X.base) fr (by rw[<-hst.1];exact I1.stack) hst.2 xo tr (Fq xo hx hT) fun h2 nt=>?_;obtain⟨⟨T2,n2,x2,t2⟩,k,k2⟩:=id nt;have nt2:Hf X.stack x C dx (fun b=>b=T) s2.heap h2:=by rw[hst.1];exact nt
 obtain⟨un2,ok2⟩:=q3o (P:=X.prog) (w:=X.w) (ex:=[T]) I1.hok I1.stkFree (fun b z=>by rw[z];exact hT) hx nt2 (fun b z=>by simp[z]);have chT:∀b∈[T],(b∈X.ex\/X.s₀.heap.objs.size<=b)/\b≠X.env.locals/\(∀x c,X.env.cells.lookup x=some c->c≠b)/\∀p∈X.pn++pins,p.1≠b:=Lq I nT;have I2:Inv X pins σ H2 { s2 with heap:=h2 }:=I1.call' rfl un2 ok2 bare chT;have hT2:H2 T2=none:=I1.hok.fresh n2;obtain⟨bm,fI,qC,hbm⟩:=bl;refine wpAny_handleBy_cons (codeAny_handlers_test ?_) (by intro z;cases z);refine qf (X:=X.in_ (.ref x)) I2.in_ gcf mcf ?_ hd;obtain⟨f,xc,_⟩:=ye I2.kIn qC;refine exm I2.kIn qcf xc hbm x2 ?_;refine codeAny_handlers_suite_as ?_;obtain⟨vs,sl,gx,hv⟩:=id x2;obtain⟨oT,ts,gT,dT,h3⟩:=id t2;refine wpAny_setFlight_none gx rfl hv gT dT (Array.getElem?_eq_some_iff.mp h3).1 ?_;have nTx:T2≠x:=fun z=>by rw[z,hx]at hT2;cases hT2
 have kp:∀b o,b≠T2->h2.get? b=some o->(h2.update T2 (Obj.mapFields (·.setIfInBounds 3 .none))).get? b=some o:=fun b o nb e=>(get?_update_other _ _ (Ne.symm nb)).trans e;have un3:Un (frs X.stack) [T2] H2 H2 h2 (h2.update T2 (Obj.mapFields (·.setIfInBounds 3 .none))) :=
  ⟨fun b o e _ _ nb=>kp b o (by simpa using nb) e,fun b o e _ _ nb=>⟨o.slots,kp b o (by simpa using nb) e⟩,fun _ _ _ n _=>n,fun b o e nb=>⟨o,kp b o (by simpa using nb) e⟩,fun _ _ z=>z,fun _ _ _ z=>z,fun _ z=>z⟩
 have ok3:HOk X.prog X.w H2 (h2.update T2 (Obj.mapFields (·.setIfInBounds 3 .none))):=fun b o e=>by
  refine(I2.hok b o e).stay (fun c u hc z=>kp c u (fun r=>?_) z) (fun _ z=>z) fun _ _ z=>z;subst r;rcases hc with rfl|hc
  ·rw[hT2]at e;cases e
  ·rw[hT2]at hc;cases hc
 have I3:Inv X pins σ H2 { s2 with heap:=h2.update T2 (Obj.mapFields (·.setIfInBounds 3 .none)) }:=I2.call' rfl un3 ok3 bare (Lq I (le_trans sz n2));refine Sg (v:=.ref x) I3 hN hi (.inl hl) rfl (fun s4 I4=>?_) (.inr hl);have body:PSs (X.in_ (.ref x)) [.Assign [.Name y p3] (.Name n p4) p5] _:=Ta (xb hN hy hyl (mf hi (.inl hl) hdn hcn) hs hyf) Xb;have hiσ:ie<σ.length:=by rw[I.len];exact(List.getElem?_eq_some_iff.mp hi).1
 refine thnE (body pins s4 _ H2 { nx:=fun σ' H'=>σ' = (σ.set ie (some (.ref x))).set iy (some (.ref x))/\H' = H2,rt:=fun _ _=>False } I4.in_ ⟨.ref x,by rw[getElem?_set_self hiσ],rfl,rfl⟩) (fun fl s5 h5=>?_) fun e s5 h5=>?_
 ·cases fl with
  |next =>
   obtain⟨σ5,H5,I5,rfl,rfl⟩:=h5;exact j6a (I5.out_ I.ok) hN hi hl fun s6 I6 _=>⟨_,_,I6,q⟩
  |ret u=>obtain⟨_,_,_,_,_,z⟩:=h5;exact z.elim
  |brk=>obtain⟨_,_,_,z⟩:=h5;exact z.elim
  |cont=>obtain⟨_,_,_,z⟩:=h5;exact z.elim
 ·have z:X.xe e s5:=h5;rw[hne]at z;exact z.elim
end
end L2
set_option maxHeartbeats 1000000
namespace L2
open PySem PyProof.Rows
section
variable {X:Cx}
theorem j8h {k:Nat}{f:Addr}{fd:FuncData}{ps:List Str}{sp:Sp}{g n y cf:Str}{ie iy:Nat}{p2 p3 p4 p5 hpos pg cpos epos pos:Pos}{CF:Addr}{e:Expr}{es:List Expr}{t:TA}
  (F:FnOk X.prog X.w X.K X.mg X.base (CX1 X.prog X.w) k f fd ps sp)(hr:Room k X.A)(hg:Gl X g)(hm:X.mg g=some (.ref f))(hk:keepIn X.K (.ref f)=true)(hb:Binds X.K fd ps [])(ha:PA X (e::es) t)
  (hst:X.stack=X.env::X.outer/\X.env.frame=some X.env.locals)(hne:X.xe=fun _ _=>False)(hN:X.N.Nodup)(hi:X.N[ie]? = some n)(hl:X.env.kindOf n=some .local)(hy:X.N[iy]? = some y)(hyl:Loc X.env.scope y)
  (hyf:X.fn y=true\/X.env.scope.names.lookup y=some .local)(gcf:Gl X cf)(mcf:X.mg cf=some (.ref CF))(qcf:fxIn X.K CF=true)
  (hd:(cf == ("__debug__":Str))=false:=by decide)(hdn:(n == ("__debug__":Str))=false:=by decide)(hcn:(n == ("__classdict__":Str))=false:=by decide)(hdg:(g == ("__debug__":Str))=false:=by decide)
  (hs:swapsWith (.Name n p4) (some (.Name y p3)) p5.line X.env=pure false:=by rfl)(he:starEach (e::es) X.env=(false,eval e X.env)::starEach es X.env:=by rfl)(hpl:(backTo cpos (starEach es X.env)).any (·.1)=false:=by rfl)
  (hse:swapsWith (.Call (.Name g pg) (e::es) [] cpos) none epos.line X.env=pure false:=by rfl) :
  PS X (.Try [.Expr (.Call (.Name g pg) (e::es) [] cpos) epos] [.ExceptHandler (some (.Name cf p2)) (some n) [.Assign [.Name y p3] (.Name n p4) p5] hpos] [] [] pos) (tTry X.K CF sp t ie iy):=by
 intro pins s σ H D I h;refine wpAny_Try_except (wpAny_execs_cons ?_);refine wpAny_Expr_any ?_ I.quiet hse;refine wpAny_Call_Name_kw (qf I hg hm ?_ hdg);refine callWith_K (h₀:=X.base) I.ok.mod.kin hk (thnE (ha cpos pins s σ H _ I h) (fun us s1 ⟨vs,H1,I1,r,q⟩=>⟨I1.kIn,?_⟩) fun e s1 z=>?_) he hpl
 ·have hl2:(us++[]).length=ps.length:=by rw[append_nil,<-r.length];exact F.len _ _ _ _ q
  have bt:=hb s1 us I1.kIn hl2;rw[append_nil]at bt;refine wpAny_call (codeAny_with_toks (n:=tk0) I1.pos (codeAny_mono (F.run X.A X.stack s1 H1 ⟨us,[]⟩ us vs _ _ hr I1.env0 bt r q) fun r2 s2 hq hk=>?_));cases r2 with
  |error e =>
   obtain⟨x,C,dx,T,H2,rfl,os,bare,un,ok,hx,xo,tr,hT,nx,nT,⟨x2,C2,dx2,e1,e2,hx2,bl,q⟩,_⟩:=hq;cases e1;cases e2;have eC:C2=C:=by
    obtain⟨⟨v1,l1,g1⟩,_⟩:=ok x _ hx2;obtain⟨v2,l2,g2,_⟩:=xo;rw[g1]at g2;cases g2;rfl
   subst eC;exact k0b I1 hst hne hN hi hl hy hyl hyf gcf mcf qcf bl os bare un ok hx xo tr hT nT hk hd hdn hcn hs q
  |ok fl =>
   cases fl with
   |ret u =>
    obtain⟨v,H2,I2,rv,q2⟩:=I1.after hq hk;exact wpAny_execs_nil (wpAny_execs_nil (fun _=>⟨σ,H2,I2,q2⟩))
   |next=>exact False.elim hq
   |brk=>exact False.elim hq
   |cont=>exact False.elim hq
 ·rw[hne]at z;exact z.elim
end
end L2
set_option maxHeartbeats 1000000
namespace L2
open PySem PyProof.Rows Builtin Builtin.ObjectAttr
theorem q9v:typeLookup (.type "ValueError") "__class__" = pure (some (.builtin "object.__class__")):=by rw[typeLookup_type,builtinLookup_eq_fast];kernel_rfl
section
variable {prog:Program}{w:World}{A:Around}{E:Value->Shared->Prop}{h:Heap}{g:Array GenState}{d:Drawn}{t:Nat}{os:OsState}{C x:Addr}{bm:List Value}{nid:String}{f:Str->Option Value}{o:Obj}
theorem j0o {R:Result->Shared->Prop}(c:XC h C bm f nid)(hx:h.get? x=some o)(hc:o.cls=.ref C)(hq:R (.ok (.ret (.ref C))) ⟨h,g,d,t,os⟩) :
  codeAny (model prog w) A (.call (.builtin "getset_descriptor.__get__") ⟨[.builtin "object.__class__",.ref x,.ref C],[]⟩) R ⟨h,g,d,t,os⟩:=by
 obtain⟨nm,qn,N,bs,sn,sub,ab,col,dd,k0,k1,k2,k3,k5,eC,n⟩:=id c.ex;have t5:(⟨h,g,d,t,os⟩:Shared).TypeIs (.builtin "object.__class__") "getset_descriptor":=F.typeOf_object_class;have hcB:(Value.ref C::bm).contains (.type (".".intercalate ("object.__class__".cutAt '.').dropLast))=true:=by rw[F.owner_object_class];exact hasV c.up (by decide) C
 refine codeAny_call_builtin F.slot_gs_get.plain F.entry_gs_get (F.slot_gs_get.check _ _ _ _ _ _ _ _ t5 (F.args_gs_get _ _ _) ?_)
 repeat (any_goals (first|assumption|(with_reducible refine wpAny_loadPart_at hx ?_;rw[hc])|(with_reducible refine wpAny_isSubtype_exc eC ?_;rw[hcB])|wp_step))
 refine⟨Code.quiet_builtin _ (by decide +kernel),codeAny_builtin F.entry_object_class ?_⟩
 repeat (any_goals (first|assumption|(with_reducible refine wpAny_loadPart_at hx ?_;rw[hc])|wp_step))
theorem x6y {tk:Tok}{Q:Fin->Shared->Prop}(c:XC h C bm f nid)(hfa:f "__class__" = none)(hx:h.get? x=some o)(hc:o.cls=.ref C)(hq:Q (.done (.ret (.ref C))) ⟨h,g,d,t,os⟩) :
  wpAny (model prog w) A (Builtin.«object.__getattribute__» ⟨[.ref x,.str "__class__" tk],[]⟩) Q E ⟨h,g,d,t,os⟩:=by
 have t5:(⟨h,g,d,t,os⟩:Shared).TypeIs (.builtin "object.__class__") "getset_descriptor":=F.typeOf_object_class;have f5:=F.typeOf_object_class;have f6:=F.slot_gs_get.lookup;have f7:=F.slot_gs_set.lookup
 repeat (any_goals (first|assumption|(with_reducible refine wpAny_loadPart_at hx ?_;rw[hc])|(with_reducible refine c.look (by simp) q9v ?_;rw[hfa])|wp_step))
 refine j0o c hx hc ?_
 repeat (any_goals (first|assumption|wp_step))
theorem q6b {Q:Option Value->Shared->Prop}(c:XC h C bm f nid)(hg:f "__getattribute__" = none)(hh:f "__getattr__" = none)(hfa:f "__class__" = none)(hx:h.get? x=some o)(hc:o.cls=.ref C)(hq:Q (some (.ref C)) ⟨h,g,d,t+1,os⟩) :
  wpAny (model prog w) A (getAttr? (.ref x) "__class__") Q E ⟨h,g,d,t,os⟩:=by
 have FB:=F.attrBase_ValueError;have f3:=FB.ga.bind (.ref x);have z0:(false&&onTheHeap (Value.builtin "BaseException.__getattribute__"))=false:=rfl;have z2:(Value.builtin "BaseException.__getattribute__" == Value.builtin "object.__getattribute__")=false:=by decide +kernel
 have z1:(onTheHeap (Value.ref C)&&Value.builtin "BaseException.__getattribute__" == Value.builtin "object.__getattribute__")=false:=by rw[z2];rfl
 unfold getAttr? getAttrBy?
 repeat (any_goals (first|assumption|(with_reducible refine wpAny_loadPart_at hx ?_;rw[hc])|(with_reducible refine c.look (by simp) FB.ga.lookup ?_;rw[hg])|(with_reducible refine c.look (by simp) FB.noGetattr ?_;rw[hh])|wp_step))
 refine codeAny_call_builtin FB.ga.plain F.entry_bexc_ga (yq c hx hc (x6y c hfa hx hc ?_))
 repeat (any_goals (first|assumption|wp_step))
end
section
theorem q2n {K:W.Frag}{C x fI:Addr}{bm:List Value}(q:xcIn K C bm fI=true):W.KitX K (.ref x) (.ref C) (fun h=>∃o,h.get? x=some o/\o.cls=.ref C) where
 ty:=fun M h _ ⟨o,h1,h2⟩=>h2 ▸ (W.Looks.ld h1).andThen .now
 it:=fun M h Y _=>by
  obtain⟨f,c,_⟩:=ye Y q;obtain⟨nm,qn,N,bs,sn,sub,ab,col,dd,k0,k1,k2,k3,k5,eC,n⟩:=c.ex;intro A' Q' E' s' k q;unfold isType loadHead;exact wpAny_bind (wpAny_loadPart (k _ _ eC) (wpAny_pure q))
 ne:=fun h tp dd its n sl Y htp=>Bool.eq_false_iff.mpr fun z=>by
  obtain⟨f,c,_⟩:=ye Y q;obtain⟨nm,qn,N,bs,sn,sub,ab,col,dd,k0,k1,k2,k3,k5,eC,n⟩:=c.ex;have e:C=tp:=Value.ref.inj (beq_iff_eq.mp z);subst e;rw[eC]at htp;exact absurd (Value.type.inj (congrArg Obj.cls (Option.some.inj htp))) (by decide)
 ca:=fun {prog w A E Q s} Y ⟨o,h1,h2⟩ k=>by
  obtain⟨f,c,_,no⟩:=ye Y q;obtain⟨hp,g,d,t,os⟩:=s;exact q6b c (no _ (by simp)) (no _ (by simp)) (no _ (by simp)) h1 h2 k
end
end L2
set_option maxHeartbeats 1000000
namespace L2
open PySem PyProof.Rows
def x5v (K:W.Frag)(a:Str)(te:TE):TE:=fun σ H Q=>te σ H fun y H1=>∃x C dx v bm fI,y=.ref x/\H1 x=some (XO C dx x)/\H1 dx=some (.xd [(a,v)])/\xcIn K C bm fI=true/\(∃z,v=.str z)/\Q v H1
theorem Mq {a:Str}(ha:a∈(["name","row"]:List Str)):a∈quiets.tail/\typeLookup (.type "ValueError") a=pure none:=by
 simp only[mem_cons,not_mem_nil,or_false]at ha;rcases ha with rfl|rfl
 ·exact⟨by simp,by rw[typeLookup_type,builtinLookup_eq_fast];kernel_rfl⟩
 ·exact⟨by simp,by rw[typeLookup_type,builtinLookup_eq_fast];kernel_rfl⟩
section
variable {X:Cx}{e:Expr}{te:TE}{a:Str}{pos:Pos}
theorem xh (ha:a∈(["name","row"]:List Str))(he:PE X e te)(hb:attributeBase e a X.env (eval e X.env)=eval e X.env):PE X (.Attribute e a pos) (x5v X.K a te):=by
 intro pins s σ H Q I h;refine Ao hb (thn (he pins s σ H _ I h) fun u s1 ⟨y,H1,I1,ry,x,C,dx,v,bm,fI,e1,hx,hd,q,⟨z,e2⟩,h1⟩=>?_);subst e1;subst e2;obtain rfl:u=Value.ref x:=ry;obtain⟨f,c,_,no⟩:=ye I1.kIn q;obtain⟨⟨vs,sl,gx⟩,_,_⟩:=I1.hok x _ hx;obtain⟨mA,nx,rel⟩:=(show ∃mA,s1.heap.Ns1 dx mA/\∀f,RelO (([(a,V.str z)]:List (Str×V)).lookup f) (mA f) from I1.hok dx _ hd);obtain⟨aq,aB⟩:=Mq ha;have ra:=rel a;have lk:([(a,V.str z)]:List (Str×V)).lookup a=some (.str z):=by simp[List.lookup]
 rw[lk]at ra;cases hv:mA a with
 |none=>rw[hv]at ra;exact ra.elim
 |some u2 =>
  rw[hv]at ra;obtain⟨tk,rfl⟩:=(show ∃t,u2=Value.str z t from ra);obtain⟨hp,g,d,t,os⟩:=s1;exact Aq c (no _ (by simp)) (no _ (by simp)) (mem_of_mem_tail aq) aB (no a aq) gx nx hv rfl (fun _=>⟨.str z,H1,I1.tok _,⟨tk,rfl⟩,h1⟩)
def rIsX (K:W.Frag):List V->Hp->VK->Prop:=fun xs H Q=>∃x c cv t b,xs=[x,c]/\((∃T,c=.ty T/\cv=.type T) \/ ∃C2,c=.ref C2/\cv=.ref C2) /\
 ((x=.non/\t=.type "NoneType") \/ ∃y C dx bm fI,x=.ref y/\H y=some (XO C dx y)/\xcIn K C bm fI=true/\t=.ref C)/\kitOne K t cv=some b/\Q (.bl b) H
theorem Jf:Ec X (.builtin "isinstance") (rIsX X.K):=by
 intro pins s σ H xs us Q I r h;obtain⟨x,c,cv,t,b,rfl,hc,hx,e,q⟩:=h;obtain⟨u,u2,rfl,rx,rt⟩:=gk r;have e2:u2=cv:=by
  rcases hc with ⟨T,rfl,rfl⟩|⟨C2,rfl,rfl⟩
  ·exact rt
  ·exact rt
 subst e2;rcases hx with ⟨rfl,rfl⟩|⟨y,C,dx,bm,fI,rfl,hy,xc,rfl⟩
 ·cases(show u=Value.none from rx);exact kia_one kitx_none I.kIn True.intro e (fun z=>nomatch z) fun tk _=>⟨.bl b,H,I.tok tk,rfl,q⟩
 ·obtain rfl:u=Value.ref y:=rx;obtain⟨⟨vs,sl,gx⟩,_,_⟩:=I.hok y _ hy;exact kia_one (q2n xc) I.kIn ⟨_,gx,rfl⟩ e (fun z=>nomatch z) fun tk _=>⟨.bl b,H,I.tok tk,rfl,q⟩
theorem rg {x:Str}{C:Addr}(hg:Gl X x)(hm:X.mg x=some (.ref C))(hd:(x == ("__debug__":Str))=false:=by decide):PE X (.Name x pos) (tC (.ref C)):=fun pins s σ H Q I h=>qf I hg hm (fun _=>⟨.ref C,H,I,rfl,h⟩) hd
open PySem.Spec PySem.SeqAt
theorem jsucc (j:Int)(i:Nat):j+((i+1:Nat):Int)=j+(i:Int)+1:=by omega
def x9j (K:W.Frag)(a:Str)(te:TE):TE:=fun σ H Q=>te σ H fun y H1=>∃x C dx v bm fI,y=.ref x/\H1 x=some (XO C dx x)/\H1 dx=some (.xd [(a,v)])/\xcIn K C bm fI=true/\(∃z,v=.int z)/\Q v H1
theorem q4r (ha:a∈(["name","row"]:List Str))(he:PE X e te)(hb:attributeBase e a X.env (eval e X.env)=eval e X.env):PE X (.Attribute e a pos) (x9j X.K a te):=by
 intro pins s σ H Q I h;refine Ao hb (thn (he pins s σ H _ I h) fun u s1 z=>?_);obtain⟨y,H1,I1,ry,x,C,dx,v,bm,fI,e1,hx,hd,q,⟨z,e2⟩,h1⟩:=z;subst e1;subst e2;obtain rfl:u=Value.ref x:=ry;obtain⟨f,c,_,no⟩:=ye I1.kIn q;obtain⟨⟨vs,sl,gx⟩,_,_⟩:=I1.hok x _ hx;obtain⟨mA,nx,rel⟩:=(show ∃mA,s1.heap.Ns1 dx mA/\∀f,RelO (([(a,V.int z)]:List (Str×V)).lookup f) (mA f) from I1.hok dx _ hd);obtain⟨aq,aB⟩:=Mq ha;have ra:=rel a;have lk:([(a,V.int z)]:List (Str×V)).lookup a=some (.int z):=by simp[List.lookup]
 rw[lk]at ra;cases hv:mA a with
 |none=>rw[hv]at ra;exact ra.elim
 |some u2 =>
  rw[hv]at ra;obtain⟨tk,rfl⟩:=(show ∃t,u2=Value.int z t from ra);obtain⟨hp,g,d,t,os⟩:=s1;exact Aq c (no _ (by simp)) (no _ (by simp)) (mem_of_mem_tail aq) aB (no a aq) gx nx hv rfl (fun _=>⟨.int z,H1,I1.tok _,⟨tk,rfl⟩,h1⟩)
def Ite (a:Addr)(j:Int):It :=
 ⟨fun i H=>∃xs x,H a=some (.lst xs)/\xs[i]? = some x,
 fun i H v H'=>∃t,v=.ref t/\H t=none/\∀xs,H a=some (.lst xs)->∃x,xs[i]? = some x/\H' = upd H t (.tup [.int (j+i),x]),
 fun i H=>∃xs,H a=some (.lst xs)/\xs[i]? = none⟩
theorem x3z {P:Program}{w:World}{K:W.Frag}{elts:List Expr}{x1:Nat}{pos:Pos}{l e it:Addr}{j:Int}(nd:e≠it) :
  Turn P w K (.Tuple elts x1 pos) (Ite l j) [e,it] e (fun i h=>(∃old,IsEnum h e it (j+i) old)/\h.IsListIter it l i) where
 mem:=by simp
 obj:=fun i h st b hb=>by
  obtain⟨⟨old,h1⟩,⟨o4,e4,c4,d4⟩⟩:=st;simp only[mem_cons,not_mem_nil,or_false]at hb;rcases hb with rfl|rfl
  ·exact⟨_,h1,fun v z=>by cases z⟩
  ·exact⟨_,e4,fun v z=>by rw[d4]at z;cases z⟩
 keep:=fun i h h' ⟨⟨old,h1⟩,h4⟩ k=>⟨⟨old,k e (by simp) _ h1⟩,h4.at fun o q=>k it (by simp) o q⟩
 item:=by
  intro X hP hw hK hc i pins s σ H E I hf st hg;subst hP hw hK;obtain⟨⟨old,h1⟩,h4⟩:=st;obtain⟨xs,x,ha,hx⟩:=hg;obtain⟨us,ru,pu,_⟩:=I.list (SqL.of ha);obtain⟨ux,ex,rx⟩:=ru.get hx;refine q5o h1 h4 pu.isList (x:=ux) (by simpa using ex) nd fun h' a1 a3 a5 a6 a7=>?_;have I1:Inv X pins σ (upd H s.heap.objs.size (.tup [.int (j+i),x])) { s with heap:=h',toks:=s.toks+1 }:=I.turnsLaid (t':=s.toks+1) (ch:=[e,it]) (fun b u hb q=>a7 b u (fun z=>hb (by simp[z])) (fun z=>hb (by simp[z])) q)
   hf (le_refl _) (show ObjOk X.prog X.w _ h' _ (.tup [.int (j+i),x]) from⟨by show 2<=sizeLine;decide,[_,ux],.cons ⟨_,rfl⟩ (.cons rx .nil),⟨_,a5,rfl,_,rfl⟩⟩)
  have hfr:=I.fresh;have old':∀b∈[e,it],upd H s.heap.objs.size (.tup [.int (j+i),x]) b=none:=fun b hb=>by
   rw[z5a];refine⟨fun q=>?_,(hf b hb).1⟩;have ob:∃o,s.heap.get? b=some o:=by
    obtain⟨o4,e4,_⟩:=h4;simp only[mem_cons,not_mem_nil,or_false]at hb;rcases hb with rfl|rfl
    ·exact⟨_,h1⟩
    ·exact⟨_,e4⟩
   obtain⟨o,eo⟩:=ob;exact absurd (lt_size eo) (by rw[q];exact lt_irrefl _)
  refine(fun _=>⟨_,rfl,wpAny_letOwnedTupleGo_enum (s:={ s with heap:=h',toks:=s.toks+1 }) a1 fun h2' b1 b2=>?_⟩);obtain⟨_,f1,f2,f3,f4⟩:=hf e (by simp);have I2:Inv X pins σ (upd H s.heap.objs.size (.tup [.int (j+i),x])) { s with heap:=h2',toks:=s.toks+1 }:=I1.turned (t':=s.toks+1) (fun b o hb q=>(b2.2 b hb).trans q) (old' e (by simp)) f1 f3 f4.1 f4.2;refine(fun _=>⟨.ref s.heap.objs.size,_,I2,rfl,⟨_,rfl,hfr,fun xs' q1=>?_⟩,⟨⟨ux,by rw[jsucc];exact b1⟩,a3.at fun o q=>(b2.2 it (Ne.symm nd)).trans q⟩,old'⟩);rw[ha]at q1;cases q1;exact⟨x,hx,rfl⟩
 done:=by
  intro X hP hw hK hc i pins s σ H E I hf st hg;subst hP hw hK;obtain⟨⟨old,h1⟩,h4⟩:=st;obtain⟨xs,ha,hend⟩:=hg;obtain⟨us,ru,pu,_⟩:=I.list (SqL.of ha);refine y8k (I.ok.hd hc) h1 h4 pu.isList (by simpa using Vals.none_of ru hend) fun h' hk=>(fun _=>⟨rfl,I.turneds (t':=s.toks) (ch:=[e,it]) (fun b u hb q=>hk b u (fun z=>hb (by simp[z])) q) hf⟩)
 self:=fun _ _ _ _ _ st h=>by
  obtain⟨⟨old,h1⟩,_⟩:=st;exact wpAny_pyIter_enum h1 h
def Nq (ta:TA)(tk:TE):TI:=fun σ H R=>ta σ H fun vs H1=>tk σ H1 fun y H2=>∃a j,vs=[.ref a]/\y=.int j/\Builtin.SmallTypes.fitsIndex j=true/\∃xs,H2 a=some (.lst xs)/\R (Ite a j) H2
theorem q2o {elts:List Expr}{x1:Nat}{pt kp:Pos}{e1 e2:Expr}{ta:TA}{tk:TE}{p pos:Pos}(hg:Gl X "enumerate")(hm:X.mg "enumerate" = none)(ha:PA X [e1] ta)(hk:PE X e2 tk)
  (he:backTo pos (starEach [e1] X.env)=(false,eval e1 X.env)::backTo pos (starEach [] X.env):=by rfl)(hpl:(backTo pos (starEach [e1] X.env)).any (·.1)=false:=by rfl)
  (hall:(backToKw pos (keywordEach [⟨some "start",e2,kp⟩] X.env)).all (·.1.isSome)=true:=by rfl)(hkw:(backToKw pos (keywordEach [⟨some "start",e2,kp⟩] X.env)).any (·.1.isNone)=false:=by rfl) :
  PI X (.Tuple elts x1 pt) (.Call (.Name "enumerate" p) [e1] [⟨some "start",e2,kp⟩] pos) (Nq ta tk):=by
 intro pins s σ H R I h;refine wpAny_Call_Name_kw (Ce I hg hm PyProof.Rows.boot_enumerate ?_);refine y0u (thn (ha pos pins s σ H _ I h) fun us s1 zq=>?_) he hpl hall hkw;obtain⟨vs,H1,I1,r1,q1⟩:=zq;refine kws_cons (thn (hk pins s1 σ H1 _ I1 q1) fun u s2 ⟨y,H2,I2,ry,q2⟩=>kws_nil ?_);obtain⟨a,j,rfl,rfl,hj,xs,hA,q⟩:=q2;obtain⟨u1,rfl,ru⟩:=Mc r1;cases ru;obtain⟨t,rfl⟩:=ry;obtain⟨us,ru,pu,_⟩:=I2.list (SqL.of hA);refine y9a hj pu.isList fun h' z1 z2 z3 z7=>wpAny_pyIter_enum z1 ?_;refine⟨s2.heap.objs.size+1,_,_,_,H2,rfl,I2.kept (t':=s2.toks) z7,x3z (by show(_:Nat)≠_;omega),⟨⟨_,by simpa using z1⟩,z2⟩,fun c hc=>?_,q⟩;have hge:s2.heap.objs.size<=c:=by
  simp only[mem_cons,not_mem_nil,or_false]at hc;rcases hc with rfl|rfl
  ·exact le_add_right _ _
  ·exact le_refl _
 exact I2.fpOk hge (I2.hok.fresh hge)
def Oq (a:Addr)(j:Int)(g:TG)(tb:TS)(D:Ends)(σ:St)(H1:Hp):Prop:=∃W:Nat->Nat->St->Hp->Prop,(∃m,W 0 m σ H1)/\∀i m σ H,W i m σ H ->
 ((Ite a j).stop i H/\D.nx σ H)\/((Ite a j).go i H/\∃N:St->Hp->Prop,(∀σ' H',N σ' H'->∃m',m' < m/\W (i+1) m' σ' H')/\∀x H',(Ite a j).yld i H x H'->g x σ H' fun σ2 H2=>tb { D with nx:=N,ct:=N,bk:=D.nx } σ2 H2)
theorem q7l {ta:TA}{tk:TE}{g:TG}{tb:TS}{D:Ends}{σ:St}{H:Hp}:tFor (Nq ta tk) g tb D σ H=ta σ H fun vs H1=>tk σ H1 fun y H2=>∃a j,vs=[.ref a]/\y=.int j/\Builtin.SmallTypes.fitsIndex j=true/\∃xs,H2 a=some (.lst xs)/\Oq a j g tb D σ H2:=rfl
theorem loopE {a:Addr}{j:Int}{xs:List V}{g:TG}{tb:TS}{D:Ends}{σ:St}{H:Hp}(Pv:Nat->St->Hp->Prop)(h0:Pv 0 σ H)(hl:∀i σ H,Pv i σ H->H a=some (.lst xs))
  (hs:∀(i:Nat) x σ H t,xs[i]? = some x->Pv i σ H->H t=none->g (.ref t) σ (upd H t (.tup [.int (j+i),x])) fun σ2 H2=>tb { D with nx:=Pv (i+1),ct:=Pv (i+1),bk:=D.nx } σ2 H2)(hd:∀σ H,Pv xs.length σ H->D.nx σ H):Oq a j g tb D σ H:=by
 refine⟨fun i m σ H=>Pv i σ H/\i+m=xs.length,⟨xs.length,h0,by omega⟩,fun i m σ H ⟨p,e⟩=>?_⟩;cases m with
 |zero =>
  obtain rfl:i=xs.length:=by omega
  exact .inl ⟨⟨xs,hl _ σ H p,getElem?_eq_none (le_refl _)⟩,hd σ H p⟩
 |succ m =>
  obtain⟨x,hx⟩:∃x,xs[i]? = some x:=⟨_,getElem?_eq_getElem (by omega)⟩;refine .inr ⟨⟨xs,x,hl i σ H p,hx⟩,Pv (i+1),fun σ' H' q=>⟨m,by omega,q,by omega⟩,fun v H' y=>?_⟩;obtain⟨t,rfl,ht,y⟩:=y;obtain⟨x',hx',rfl⟩:=y xs (hl i σ H p);rw[hx]at hx';cases hx';exact hs i x σ H t hx p ht
end
end L2
namespace L2
open PySem PySem.Spec PyProof.Rows PySem.W
section
variable {X:Cx}{a b:Expr}{rest:List Expr}{pos:Pos}{ta tb:TE}
theorem j1d:OpR X (compareOp .In) (fun x y H Q=>∃i j,x=.str i/\y=.str j/\Q (.bl (!(Builtin.Str.occurrences j i 0 j.length 1).isEmpty)) H):=by
 intro pins s σ H x y v u Q I rx ry h;obtain⟨i,j,rfl,rfl,q⟩:=h;obtain⟨t,rfl⟩:=rx;obtain⟨t',rfl⟩:=ry;exact PySem.P.in_str (Za I q rfl)
end
end L2
namespace VL
open PySem L2
section
variable {X:Cx}{a b:Expr}{rest:List Expr}{pos:Pos}{ta tb:TEd}
def fInSS:D->D->(Bool->D->Prop)->Prop:=fun x y Q=>∃i j,x=.str i/\y=.str j/\Q false (.bl (!(Builtin.Str.occurrences j i 0 j.length 1).isEmpty))
theorem j1s:OpS (fun x y H Q=>∃i j,x=.str i/\y=.str j/\Q (.bl (!(Builtin.Str.occurrences j i 0 j.length 1).isEmpty)) H) fInSS:=by
 intro io H0 F0 F δ σ H x y v u Q Qd I px py q k;obtain⟨i,j,rfl,rfl,q⟩:=q;cases px.str;cases py.str;exact⟨i,j,rfl,rfl,k false _ _ F H (Same.refl _) (I.pushF (d:=.bl _) rfl) q⟩
def im (ta tb:TEd):TEd:=fun δ Q=>ta δ fun _ x δ1=>∃i,x=.str i/\tb δ1 fun _ y δ2=>∃j,y=.str j/\j.length≠0/\i.length<=sizeLine/\Q false (.tup [.str (partition i j).1,.str (partition i j).2.1,.str (partition i j).2.2]) δ2
theorem j5g {apos cpos:Pos}(ha:DE X a ta)(hb:DE X b tb)
  (hbase:attributeBase a "partition" X.env (eval a X.env)=eval a X.env:=by rfl)
  (hfew:((backTo cpos (starEach [b] X.env)).all (fun x=>!x.1)&&(backToKw cpos (keywordEach [] X.env)).all (fun x=>x.1.isSome)
  &&decide ([b].length+([]:List Keyword).length+(if ([]:List Keyword).isEmpty then 0 else 1)<30))=true:=by rfl)
  (hline:(apos.endLine == cpos.line)=true:=by rfl)(hst:starEach [b] X.env=(false,eval b X.env)::starEach [] X.env:=by rfl)(hplain:(backTo cpos (starEach [] X.env)).any (·.1)=false:=by rfl) :
  DE X (.Call (.Attribute a "partition" apos) [b] [] cpos) (im ta tb):=by
 obtain⟨t1,p1,s1⟩:=ha;obtain⟨t2,p2,s2⟩:=hb;refine⟨_,yf plainAttrs_str PySem.F.slot_str_partition PySem.F.type_str_partition uq p1 (xa p2 Ca hst) hbase hfew hline hst hplain,fun io H0 F0 F δ σ H Q Qd I q k=>s1.fz I q fun d v δ1 F1 H1 f1 I1 r1 q1=>?_⟩;obtain⟨i,rfl,q1⟩:=q1;cases(show v=.str i from r1);refine⟨rfl,s2.fz I1 q1 fun d v δ2 F2 H2 f2 I2 r2 q2=>?_⟩;obtain⟨j,rfl,hj,hi,q2⟩:=q2;cases(show v=.str j from r2);refine⟨i,j,rfl,rfl,hj,hi,fun p hp=>?_⟩;obtain⟨F3,s3,I3,r3⟩:=I2.newT (ds:=[.str (partition i j).1,.str (partition i j).2.1,.str (partition i j).2.2]) hp ⟨_,_,rfl,rfl,_,_,rfl,rfl,_,_,rfl,rfl,rfl⟩;exact k false _ _ δ2 F3 _ ((f1.trans f2).trans s3) (I3.pushF r3) q2
variable {δ:List Slot}{Q:Bool->D->List Slot->Prop}
theorem q9c:im ta tb δ Q=ta δ fun _ x δ1=>strK x fun i=>tb δ1 fun _ y δ2=>strK y fun j=>j.length≠0/\i.length<=sizeLine/\Q false (.tup [.str (partition i j).1,.str (partition i j).2.1,.str (partition i j).2.2]) δ2:=by unfold im;simp only[Td]
theorem q8i {a:D}{l:List D}{Q:D->Prop}:(∃d,atI (a::l) 0=some d/\Q d)=Q a:=by rw[atI0];simp
theorem q6w {a b:D}{l:List D}{Q:D->Prop}:(∃d,atI (a::b::l) 1=some d/\Q d)=Q b:=by rw[atI1];simp
theorem q6v {a b c:D}{l:List D}{Q:D->Prop}:(∃d,atI (a::b::c::l) 2=some d/\Q d)=Q c:=by rw[atI2];simp
end
end VL
namespace L2
open PySem PyProof.Rows
section
variable {X:Cx}{pos:Pos}
def Pq (k1 v1 k2 v2:Str):TE:=fun σ H Q=>∀p,H p=none->Q (.ref p) (upd H p (.dK (putK (putK [] (Sum.inr k1) (.str v1)) (Sum.inr k2) (.str v2))))
theorem q4t {a b c d:Expr}{k1 v1 k2 v2:Str}(ha:PE X a (tC (.str k1)))(hb:PE X b (tC (.str v1)))(hc:PE X c (tC (.str k2)))(hd':PE X d (tC (.str v2)))
  (hz:(evalEachOpt [some a,some c] X.env).zip (List.map (fun v=>do let x <-v;standAt pos;pure x) (evalEach [b,d] X.env))=List.map (fun p=>(some p.1,p.2)) [(eval a X.env,do let x <-eval b X.env;standAt pos;pure x),(eval c X.env,do let x <-eval d X.env;standAt pos;pure x)]:=by rfl) :
  PE X (.Dict [some a,some c] [b,d] pos) (Pq k1 v1 k2 v2):=by
 intro pins s σ H Q I h;have fr:H s.heap.objs.size=none:=I.hok.fresh (le_refl _);have I0:=I.laid (a:=s.heap.objs.size) (o:=.dK []) (t':=s.toks) (h':=s.heap.push { cls:=.type "dict",data:=.dict #[] }) (fun _ _ q=>get?_push_of_some _ q) (le_refl _) (Zo s.heap I.big);refine wpAny_Dict_pairs (knd:=nc X.prog X.w) hz (by simp) (by simp) ?_;have h0:=h _ fr;generalize hH:upd H s.heap.objs.size (.dK [])=HH at I0;show wpAny _ _ (evalPairs [(eval a X.env,_),(eval c X.env,_)]) _ _ _;unfold evalPairs;refine wpAny_bind (thn (ha pins _ σ _ (fun x H'=>x=.str k1/\H' = HH) I0 ⟨rfl,rfl⟩) fun kv s1 ⟨x,H1,I1,rx,q1⟩=>?_);obtain⟨ex1,eH1⟩:=q1;rw[eH1]at I1;rw[ex1]at rx;refine wpAny_bind (wpAny_holding (wpAny_bind (thn (hb pins _ σ _ (fun x H'=>x=.str v1/\H' = HH) I1 ⟨rfl,rfl⟩) fun vv s2 ⟨y,H2,I2,ry,q2⟩=>?_)));obtain⟨ex2,eH2⟩:=q2;rw[eH2]at I2;rw[ex2]at ry;refine wpAny_bind (wpAny_standAt (wpAny_pure ?_));refine wpAny_bind (wpAny_holding ?_);unfold evalPairs;refine wpAny_bind (thn (hc pins _ σ _ (fun x H'=>x=.str k2/\H' = HH) I2 ⟨rfl,rfl⟩) fun kv2 s3 ⟨x3,H3,I3,rx3,q3⟩=>?_);obtain⟨ex3,eH3⟩:=q3;rw[eH3]at I3;rw[ex3]at rx3;refine wpAny_bind (wpAny_holding (wpAny_bind (thn (hd' pins _ σ _ (fun x H'=>x=.str v2/\H' = HH) I3 ⟨rfl,rfl⟩) fun vv2 s4 ⟨y4,H4,I4,ry4,q4⟩=>?_)));obtain⟨ex4,eH4⟩:=q4;rw[eH4]at I4;rw[ex4]at ry4;refine wpAny_bind (wpAny_standAt (wpAny_pure ?_));refine wpAny_bind (wpAny_holding ?_);unfold evalPairs;refine wpAny_pure (wpAny_pure (wpAny_pure ?_));have e2:HH s.heap.objs.size=some (.dK []):=by rw[<-hH];exact z0h
 obtain⟨z,hd,vs,rel,dd⟩:=Vo I4.hok e2;cases rel;refine⟨[(Sum.inr k1,vv),(Sum.inr k2,vv2)],?_,dd,fun h' dd' hs=>?_⟩
 ·exact⟨bg (k:=Sum.inr k1) rx,rfl,bg (k:=Sum.inr k2) rx3,rfl,trivial⟩
 ·have he:∃q,h'.get? s.heap.objs.size=some q:=let ⟨q,_,_,hq,_⟩:=dd';⟨q,hq⟩;have hu2:∀o,upd HH s.heap.objs.size o=upd H s.heap.objs.size o:=fun o=>by
   funext b;by_cases hb:b=s.heap.objs.size
   ·rw[hb,z0h,z0h]
   ·rw[wa hb,wa hb,<-hH,wa hb]
  rw[<-hu2]at h0;refine(fun _=>⟨.ref _,_,xk I4 (by rw[e2];exact True.intro) hs he (Wo ?_ hd (KV.put (KV.put .nil (Sum.inr k1) ry) (Sum.inr k2) ry4) dd'),rfl,h0⟩);have:(putK (putK ([]:List (Key×V)) (Sum.inr k1) (.str v1)) (Sum.inr k2) (.str v2)).length<=2:=by
   unfold putK;simp;split<;>simp
  have s24:(2:Nat)<sizeLine:=by decide
  first|exact lt_of_le_of_lt this s24|exact le_trans this (le_of_lt s24)|omega
end
end L2
namespace VL
open PySem L2
section
variable {X:Cx}{pos:Pos}
def jm (k1 v1 k2 v2 w:Str)(te:TEd):TEd:=fun δ Q=>te δ fun _ x δ1=>∃z,x=.str z/\Q false (.str (if z=k1 then v1 else if z=k2 then v2 else w)) δ1
theorem q5s {k1 v1 k2 v2 z w:Str}(h:k1≠k2):(valV (putK (putK ([]:List (Key×V)) (Sum.inr k1) (.str v1)) (Sum.inr k2) (.str v2)) (Sum.inr z)).getD (.str w)=.str (if z=k1 then v1 else if z=k2 then v2 else w):=by
 have e:putK (putK ([]:List (Key×V)) (Sum.inr k1) (.str v1)) (Sum.inr k2) (.str v2)=[(Sum.inr k1,.str v1),(Sum.inr k2,.str v2)]:=by
  unfold putK;simp[h]
 rw[e];unfold valV;by_cases h1:z=k1
 ·subst h1;simp
 ·by_cases h2:z=k2
  ·subst h2;simp[h1,Ne.symm h1]
  ·simp[h1,h2,Ne.symm h1,Ne.symm h2]
theorem j0s {a b c d e f:Expr}{apos cpos:Pos}{k1 v1 k2 v2 w:Str}{te:TEd}(hu:X.A.units+100<cLine)(ho:PE X (.Dict [some a,some c] [b,d] pos) (Pq k1 v1 k2 v2))(hk:k1≠k2)(he:DE X e te)(hf:PE X f (tC (.str w)))(m:M2 X (.Dict [some a,some c] [b,d] pos) "get" apos e f cpos) :
  DE X (.Call (.Attribute (.Dict [some a,some c] [b,d] pos) "get" apos) [e,f] [] cpos) (jm k1 v1 k2 v2 w te):=by
 obtain⟨t,pi,si⟩:=he;refine⟨_,q4j (by omega) ho pi hf m,fun io H0 F0 F δ σ H Q Qd I q k p hp=>?_⟩;have e:putK (putK ([]:List (Key×V)) (Sum.inr k1) (.str v1)) (Sum.inr k2) (.str v2)=[(Sum.inr k1,.str v1),(Sum.inr k2,.str v2)]:=by
  unfold putK;simp[hk]
 have gv:=fun z=>q5s (k1:=k1) (v1:=v1) (k2:=k2) (v2:=v2) (z:=z) (w:=w) hk;rw[e]at gv ⊢;have I1:=I.newD (ds:=[(Sum.inr k1,.str v1),(Sum.inr k2,.str v2)]) (vs:=[(Sum.inr k1,.str v1),(Sum.inr k2,.str v2)]) hp ⟨_,_,rfl,⟨rfl,rfl⟩,_,_,rfl,⟨rfl,rfl⟩,rfl⟩;obtain⟨F1,s1,J,r1⟩:=I1.fr;obtain⟨a',kvs,ep,h1,rk⟩:=r1;cases ep;have h2:=J.sub _ _ h1;rw[z0h]at h2;cases h2;refine⟨p,rfl,.inl ⟨_,.inl (J.sub _ _ h1)⟩,si.fz J q fun d v δ2 F2 H2 f2 I2 r2 q2=>?_⟩;obtain⟨z,rfl,q2⟩:=q2;cases(show v=.str z from r2);refine⟨_,DGet.o (I2.sub _ _ (f2 _ _ h1)),?_⟩;rw[gv];exact k false (.str (if z=k1 then v1 else if z=k2 then v2 else w)) _ δ2 F2 H2 (s1.trans f2) (I2.pushF rfl) q2
variable {δ:List Slot}{Q:Bool->D->List Slot->Prop}{te:TEd}
theorem q6z {k1 v1 k2 v2 w:Str}:jm k1 v1 k2 v2 w te δ Q=te δ fun _ x δ1=>strK x fun z=>Q false (.str (if z=k1 then v1 else if z=k2 then v2 else w)) δ1:=by unfold jm;simp only[Td]
end
end VL
namespace L2
open PySem PyProof.Rows
section
variable {X:Cx}
theorem y9l:OpR X (compareOp .NotIn) (fun x y H Q=>∃p,y=.ref p/\∃xs,H p=some (.tup xs)/\Mb x=true/\xs.all Mb=true/\Q (.bl (!inV x xs)) H):=fun pins s σ H x y v u Q I rx ry h =>
 Mo pins s σ H x y v u Q I rx ry (by obtain⟨p,e,xs,e2,h1,h2,q⟩:=h;exact⟨p,xs,e,.inr (SqT.of e2),h1,h2,q⟩)
end
end L2
namespace VL
open PySem L2
def Qq:D->D->(Bool->D->Prop)->Prop:=fun x y Q=>∃s,∃ks:List Str,x=.str s/\y=.tup (ks.map .str)/\Q false (.bl (!decide (s∈ks)))
theorem q1c:OpS (fun x y H Q=>∃p,y=.ref p/\∃xs,H p=some (.tup xs)/\Mb x=true/\xs.all Mb=true/\Q (.bl (!inV x xs)) H) Qq:=by
 intro io H0 F0 F δ σ H x y v u Q Qd I px py q k;obtain⟨s,ks,rfl,rfl,q⟩:=q;obtain⟨b,us,rfl,h2,r2⟩:=py.tup I;cases px.str;cases r2.strs;refine⟨b,rfl,_,h2,rfl,Fk ks,k false _ _ F H (Same.refl _) (I.pushF ?_) q⟩;rw[Ek];rfl
theorem y7o {z a b:Str}{Q2:Bool->D->Prop}:Qq (.str z) (.tup [.str a,.str b]) Q2=Q2 false (.bl (!decide (z=a\/z=b))):=by
 apply propext;constructor
 ·rintro⟨s,ks,e1,e2,h⟩;cases e1
  match ks,e2 with
  | [_,_],e2=>cases e2;simpa using h
 ·exact fun h=>⟨z,[a,b],rfl,rfl,by simpa using h⟩
end VL
namespace L2
open PySem PySem.Spec PySem.Calls PyProof.Rows PySem.W
theorem Rq:∀ns:List Int,ofPys (ns.map PyData.int)=ns.map WData.int
 | []=>by simp[ofPys]
 |n::ns=>by simp[ofPys,ofPy,Rq ns]
theorem q3n {l:W.OpenLaw}{n k N T:Nat}{q:Program}{loose:List Str}{XP:(Str->Option Value)->Heap->Prop}{d:DefRec}{K:Params->W.Frag}{ads:List Addr}{CX:CXT}{sp:W.Frag->Sp}{x:Str}
  (hn:l.most=some n)(hn2:n<=sizeLine)(hdf:d.params.defaults=[])(hr:Room k callerA)(hlam:lamP=none)(ht:tk0<=T)
  (hks:∀P,ads=(K P).map (·.1))
  (F:∀(w:World)(mg:Str->Option Value)(fa:Addr)(h:Heap),(K w.params).In h->h.Ns mainGlobals mg->mg d.name=some (.ref fa) ->
   ∃fd:FuncData,(∀(s:Shared)(u:Value),BindsTo s fd ⟨[u],[]⟩ [(x,u)]) /\
    ∀base:Heap,(K w.params).In base->base.Ns mainGlobals mg->FnOk l.prog w (K w.params) mg base CX k fa fd [x] (sp (K w.params)))
  (hsp:∀(K:W.Frag)(H:Hp)(a:Addr)(ns:List Int),ns.length<=n->Only H->SqL K H a (ns.map V.int)->sp K [.ref a] H (fun v _=>v=.bl true) fun _ _ _=>False)
  (hCX:∀(H:Hp)(s:Shared)(e:Value)(s':Shared),CX [] H s (fun _ _ _=>False) e s'->False) :
  W.WalkX q loose XP (W.X.obsZ ads) (W.X.valZ K N T) l.row.toRowW d [] (fun f vs=>PySem.call f vs):=by
 intro w s₀ s₁ mg mb G Y fa o pm cd doc dV kV ho hd hcd hD hmg hg args vals as L hpre hlay hrd hwl hlo;obtain rfl:dV=.none:=Dflts.none hD hdf;obtain rfl:kV=.none:=Dflts.noKw hD;obtain⟨a,vs,ns,rfl,rfl,hobj,hints,hlen⟩:=Att.script_of hn hpre hwl;obtain⟨_,ZI,_,ZT⟩:=W.X.z_facts hks Y;have L':=L;rw[show WData.list (ns.map WData.int)=ofPy (PyData.list (ns.map PyData.int)) by rw[ofPy,Rq]]at L';have htk:=W.X.script_toks L' ZT;have KX:(K w.params).In s₁.heap:=InK.keeps w s₀.heap s₁.heap ZI L.keeps;obtain⟨fd,hb,hF⟩:=F w mg fa _ KX G.T.g hmg;refine enter_call (codeAny_mono (q4m (le_trans ht htk) KX G.T.g G.T.b G.T.builtins G.T.nolimit hg G.T.bmain (fun p e=>by rw[hlam]at e;cases e) hobj hints (le_trans hlen hn2) hr hF hb (fun H hO hS=>hsp _ H a ns hlen hO hS) fun H e s'=>hCX H s₁ e s') fun r s' hq=>?_);obtain⟨rfl,h2,h3,h4⟩:=hq;exact⟨.inl ⟨.bool true,.bool true,[],rfl,fun _=>rfl,.bool true,Att.post_true l _,fun _=>⟨List.Pairwise.nil,fun _ hm=>(nomatch hm)⟩⟩,h2,h3,h4⟩
end L2
namespace Pap
open PySem L2
inductive Part where
 |txt (s:Str)
 |tup (n:Str)(ps:List Part)
mutual
noncomputable def Qa:Part->Nat
 |.txt _=>1
 |.tup _ ps=>1+Da ps
noncomputable def Da:List Part->Nat
 | []=>0
 |p::ps=>Qa p+Da ps
end
noncomputable def Pe:Part->Str
 |.txt _=>"#"
 |.tup n _=>n
def aj (ps:List Part):List Str:=ps.map Pe
theorem Kf (ps qs:List Part):Da (ps++qs)=Da ps+Da qs:=by
 induction ps with
 |nil=>simp[Da]
 |cons p ps ih=>simp[Da,ih];omega
inductive RepL (H:Hp):List V->List Part->List V->List Addr->Prop
 |nil:RepL H [] [] [] []
 |txt {s:Str}{vs:List V}{ps:List Part}{out:List V}{F:List Addr}:RepL H vs ps out F->RepL H (.str s::vs) (.txt s::ps) (.str s::out) F
 |tup {t l:Addr}{n:Str}{cs:List V}{qs:List Part}{o1:List V}{F1:List Addr}{vs:List V}{ps:List Part}{o2:List V}{F2:List Addr}(ht:H t=some (.tup [.str n,.ref l])) (hl:H l=some (.lst cs)) (h1:RepL H cs qs o1 F1) (h2:RepL H vs ps o2 F2) :
   RepL H (.ref t::vs) (.tup n qs::ps) (.ref t::(o1++o2)) (l::(F1++F2))
theorem RepL.frame {H H':Hp}{vs:List V}{ps:List Part}{o:List V}{F:List Addr}(h:RepL H vs ps o F):(∀b∈F,H' b=H b)->(∀b xs,H b=some (.tup xs)->H' b=some (.tup xs))->RepL H' vs ps o F:=by
 induction h with
 |nil=>intro _ _;exact .nil
 |txt _ ih=>intro k t;exact .txt (ih k t)
 | @tup t l n cs qs o1 F1 vs ps o2 F2 ht hl h1 h2 ih1 ih2 =>
  intro k q;exact .tup (q _ _ ht) ((k l (by simp)).trans hl) (ih1 (fun b hb=>k b (by simp[hb])) q) (ih2 (fun b hb=>k b (by simp[hb])) q)
theorem RepL.same {H H':Hp}{vs:List V}{ps:List Part}{o:List V}{F:List Addr}(h:RepL H vs ps o F)(s:Same H H'):RepL H' vs ps o F:=by
 induction h with
 |nil=>exact .nil
 |txt _ ih=>exact .txt ih
 |tup ht hl h1 h2 ih1 ih2=>exact .tup (s _ _ ht) (s _ _ hl) ih1 ih2
theorem RepL.lsts {H:Hp}{vs:List V}{ps:List Part}{o:List V}{F:List Addr}(h:RepL H vs ps o F):∀b∈F,∃xs,H b=some (.lst xs):=by
 induction h with
 |nil=>intro b hb;cases hb
 |txt _ ih=>exact ih
 | @tup t l n cs qs o1 F1 vs ps o2 F2 ht hl h1 h2 ih1 ih2 =>
  intro b hb;rcases mem_cons.mp hb with rfl|hb
  ·exact⟨_,hl⟩
  ·rcases mem_append.mp hb with hb|hb
   ·exact ih1 b hb
   ·exact ih2 b hb
theorem RepL.append {H:Hp}{vs:List V}{ps:List Part}{o:List V}{F:List Addr}{vs':List V}{ps':List Part}{o':List V}{F':List Addr}(h:RepL H vs ps o F)(h':RepL H vs' ps' o' F'):RepL H (vs++vs') (ps++ps') (o++o') (F++F'):=by
 induction h with
 |nil=>exact h'
 |txt _ ih=>exact .txt ih
 | @tup t l n cs qs o1 F1 vs ps o2 F2 ht hl h1 h2 ih1 ih2 =>
  have q:=RepL.tup ht hl h1 ih2;simpa[append_assoc] using q
theorem RepL.heads {H:Hp}{vs:List V}{ps:List Part}{o:List V}{F:List Addr}(h:RepL H vs ps o F):vs.length=ps.length/\∀(i:Nat) v,vs[i]? = some v->(∃s,v=.str s/\(aj ps)[i]? = some "#") \/ ∃t n l,v=.ref t/\H t=some (.tup [.str n,.ref l])/\(aj ps)[i]? = some n:=by
 induction h with
 |nil=>exact⟨rfl,fun i v h=>by simp at h⟩
 |txt _ ih =>
  refine⟨by simp[ih.1],fun i v h=>?_⟩;cases i with
  |zero=>exact .inl ⟨_,by simpa using h.symm,rfl⟩
  |succ i=>simpa[aj] using ih.2 i v (by simpa using h)
 | @tup t l n cs qs o1 F1 vs ps o2 F2 ht hl h1 h2 ih1 ih2 =>
  refine⟨by simp[ih2.1],fun i v h=>?_⟩;cases i with
  |zero=>exact .inr ⟨t,n,l,by simpa using h.symm,ht,rfl⟩
  |succ i=>simpa[aj] using ih2.2 i v (by simpa using h)
inductive Bel (H:Hp):Addr->List Addr->List (List Part×Str)->List Addr->Prop
 |nil {c:Addr}:Bel H c [] [] []
 |cons {c a t:Addr}{as:List Addr}{vs:List V}{n:Str}{ps:List Part}{o:List V}{F G:List Addr}{fs:List (List Part×Str)}(ha:H a=some (.lst (vs++[.ref t]))) (ht:H t=some (.tup [.str n,.ref c])) (h:RepL H vs ps o F) (b:Bel H a as fs G) :
   Bel H c (a::as) ((ps,n)::fs) (F++G)
theorem Bel.frame {H H':Hp}{c:Addr}{as:List Addr}{fs:List (List Part×Str)}{G:List Addr}(h:Bel H c as fs G):(∀b∈as,H' b=H b)->(∀b∈G,H' b=H b)->(∀b xs,H b=some (.tup xs)->H' b=some (.tup xs))->Bel H' c as fs G:=by
 induction h with
 |nil=>intro _ _ _;exact .nil
 | @cons c a t as vs n ps o F G fs ha ht h b ih =>
  intro k1 k2 q;exact .cons ((k1 a (by simp)).trans ha) (q _ _ ht) (h.frame (fun b hb=>k2 b (by simp[hb])) q) (ih (fun b hb=>k1 b (by simp[hb])) (fun b hb=>k2 b (by simp[hb])) q)
theorem Bel.len {H:Hp}{c:Addr}{as:List Addr}{fs:List (List Part×Str)}{G:List Addr}(h:Bel H c as fs G):as.length=fs.length:=by
 induction h with
 |nil=>rfl
 |cons _ _ _ _ ih=>simp[ih]
theorem Bel.lsts {H:Hp}{c:Addr}{as:List Addr}{fs:List (List Part×Str)}{G:List Addr}(h:Bel H c as fs G):(∀b∈G,∃xs,H b=some (.lst xs))/\∀b∈as,∃xs,H b=some (.lst xs):=by
 induction h with
 |nil=>exact⟨fun b hb=>absurd hb (by simp),fun b hb=>absurd hb (by simp)⟩
 | @cons c a t as vs n ps o F G fs ha ht h b ih =>
  refine⟨fun b hb=>?_,fun b hb=>?_⟩
  ·rcases mem_append.mp hb with hb|hb
   ·exact h.lsts b hb
   ·exact ih.1 b hb
  ·rcases mem_cons.mp hb with rfl|hb
   ·exact⟨_,ha⟩
   ·exact ih.2 b hb
structure BInv (H:Hp)(a:Addr)(as:List Addr)(cur:List Part)(fs:List (List Part×Str))(S:List Addr):Prop where
 ex:∃vs o F G,H a=some (.lst vs)/\RepL H vs cur o F/\Bel H a as fs G/\S=F++G
 nd:(a::as).Nodup
 off:∀b∈a::as,b∉S
theorem BInv.list {H:Hp}{a:Addr}{as:List Addr}{cur:List Part}{fs:List (List Part×Str)}{S:List Addr}(B:BInv H a as cur fs S):∀b,b∈a::as\/b∈S->∃xs,H b=some (.lst xs):=by
 obtain⟨vs,o,F,G,h1,h2,h3,rfl⟩:=B.ex;rintro b (hb|hb)
 ·rcases mem_cons.mp hb with rfl|hb
  ·exact⟨_,h1⟩
  ·exact h3.lsts.2 b hb
 ·rcases mem_append.mp hb with hb|hb
  ·exact h2.lsts b hb
  ·exact h3.lsts.1 b hb
theorem BInv.frame {H H':Hp}{a:Addr}{as:List Addr}{cur:List Part}{fs:List (List Part×Str)}{S:List Addr}(B:BInv H a as cur fs S)(k:∀b,b∈a::as\/b∈S->H' b=H b)(q:∀b xs,H b=some (.tup xs)->H' b=some (.tup xs)):BInv H' a as cur fs S:=by
 obtain⟨vs,o,F,G,h1,h2,h3,rfl⟩:=B.ex;refine⟨⟨vs,o,F,G,(k a (.inl (by simp))).trans h1,h2.frame (fun b hb=>k b (.inr (by simp[hb]))) q,h3.frame (fun b hb=>k b (.inl (by simp[hb]))) (fun b hb=>k b (.inr (by simp[hb]))) q,rfl⟩,B.nd,B.off⟩
theorem BInv.upd {H:Hp}{a p:Addr}{as:List Addr}{cur:List Part}{fs:List (List Part×Str)}{S:List Addr}{xs:List V}{o:HO}(B:BInv H a as cur fs S)(hp:H p=Option.some (.lst xs)\/H p=none)(h1:p∉a::as)(h2:p∉S):BInv (upd H p o) a as cur fs S:=by
 refine B.frame (fun b hb=>wa ?_) (fun b ys e=>?_)
 ·rintro rfl;rcases hb with hb|hb
  ·exact h1 hb
  ·exact h2 hb
 ·rw[wa]
  ·exact e
  ·rintro rfl;rcases hp with z|z<;>rw[e]at z<;>cases z
theorem BInv.text {H:Hp}{a:Addr}{as:List Addr}{cur:List Part}{fs:List (List Part×Str)}{S:List Addr}{vs:List V}(s:Str)(B:BInv H a as cur fs S)(h:H a=some (.lst vs)):BInv (L2.upd H a (.lst (vs++[.str s]))) a as (cur++[.txt s]) fs S:=by
 obtain⟨vs',o,F,G,h1,h2,h3,rfl⟩:=B.ex;rw[h]at h1;cases h1;have hn:a∉F++G:=B.off a (by simp);have hn2:a∉as:=(nodup_cons.mp B.nd).1;have q:∀b xs,H b=some (.tup xs)->L2.upd H a (.lst (vs++[.str s])) b=some (.tup xs):=fun b xs e=>by
  rw[wa (oi e h (by intro z;cases z))];exact e
 refine⟨⟨vs++[.str s],o++[.str s],F,G,z0h,?_,h3.frame (fun b hb=>wa fun z=>hn2 (z ▸ hb)) (fun b hb=>wa fun z=>hn (z ▸ by simp[hb])) q,rfl⟩,B.nd,B.off⟩;have r:=(h2.frame (H':=L2.upd H a (.lst (vs++[.str s]))) (fun b hb=>wa fun z=>hn (z ▸ by simp[hb])) q).append (.txt (s:=s) .nil);simpa using r
theorem BInv.open' {H:Hp}{a t l:Addr}{as:List Addr}{cur:List Part}{fs:List (List Part×Str)}{S:List Addr}{vs:List V}(n:Str)(B:BInv H a as cur fs S)(h:H a=some (.lst vs))(hl:H l=some (.lst []))(ht:H t=some (.tup [.str n,.ref l]))(l1:l∉a::as)(l2:l∉S) :
  BInv (L2.upd H a (.lst (vs++[.ref t]))) l (a::as) [] ((cur,n)::fs) S:=by
 obtain⟨vs',o,F,G,h1,h2,h3,rfl⟩:=B.ex;rw[h]at h1;cases h1;have hn:a∉F++G:=B.off a (by simp);have hn2:a∉as:=(nodup_cons.mp B.nd).1;have q:∀b xs,H b=some (.tup xs)->L2.upd H a (.lst (vs++[.ref t])) b=some (.tup xs):=fun b xs e=>by
  rw[wa (oi e h (by intro z;cases z))];exact e
 have hla:l≠a:=fun z=>l1 (by simp[z]);refine⟨⟨[],[],[],F++G,by rw[wa hla];exact hl,.nil,.cons z0h (q _ _ ht) (h2.frame (fun b hb=>wa fun z=>hn (z ▸ by simp[hb])) q) (h3.frame (fun b hb=>wa fun z=>hn2 (z ▸ hb)) (fun b hb=>wa fun z=>hn (z ▸ by simp[hb])) q),rfl⟩,?_,?_⟩
 ·exact nodup_cons.mpr ⟨l1,B.nd⟩
 ·intro b hb;rcases mem_cons.mp hb with rfl|hb
  ·exact l2
  ·exact B.off b hb
theorem ze:∀ps:List Part,ps.length<=Da ps
 | []=>le_refl _
 |p::ps=>by
  have h1:1<=Qa p:=by cases p<;>simp[Qa]
  have h2:=ze ps;simp only[Da,length_cons];omega
end Pap
namespace L2
open PySem PySem.Spec PyProof.Rows
structure Ent (K:W.Frag)(mg:Str->Option Value)(x:Str)(st:Stmt)(ps:List Str)(f:Addr)(fd:FuncData):Prop where
 F:Fun K x x st f fd
 g:mg x=some (.ref f)
 b:Binds K fd ps []
theorem j6i {K:W.Frag}{mg:Str->Option Value}{h:Heap}{x:Str}{st:Stmt}{ps:List Str}{f:Addr}{oc:Value}{od an:Option Addr}{osl:Array (Option Value)}{kV doc pm cdv ct:Value}(X:K.In h)(G:h.Ns mainGlobals mg)
  (hb:∀(kV doc pm:Value)(an:Option Addr)(cdv ct:Value)(us:List Value),us.length=ps.length->bindArgs (fnOf x x (jd st) (Yb st) (ya st) .none kV doc pm an cdv ct) ⟨us,[]⟩=pure (ps.zip us))
  (a:nsIn K mainGlobals x=some (some (.ref f)))(l:K.lookup f=some ⟨oc,od,.func (fnOf x x (jd st) (Yb st) (ya st) .none kV doc pm an cdv ct),osl⟩)
  (c:codeIn K cdv x=true)(k:keepIn K (.ref f)=true):∃f fd,Ent K mg x st ps f fd :=
 ⟨f,_,ah l c k,mg_of X G a,(ah (st:=st) l c k).binds hb⟩
end L2
set_option backward.defeqAttrib.useBackward true
namespace K20
open PySem L2 VL
noncomputable def top (i:Nat):Stmt:=PySem.Challenge.pw_formferry_k24_lines_and_ferry_rows_looke.main.body.getD i (.Pass ⟨0,0,0,0⟩)
abbrev Qe:Stmt:=top 10
abbrev Re:Stmt:=top 11
abbrev Se:Stmt:=top 14
abbrev ug:Stmt:=top 15
abbrev Vd:Stmt:=top 21
abbrev Te:Stmt:=top 22
abbrev vg:Stmt:=top 23
abbrev Lf:Stmt:=top 24
abbrev Mf:Stmt:=top 25
abbrev Ue:Stmt:=top 26
abbrev wg:Stmt:=top 27
abbrev yh:Stmt:=top 28
abbrev Ve:Stmt:=top 31
abbrev Nf:Stmt:=top 32
abbrev Pf:Stmt:=top 33
abbrev xg:Stmt:=top 34
abbrev zh:Stmt:=top 35
abbrev Qf:Stmt:=top 36
abbrev Ah:Stmt:=top 37
abbrev Bh:Stmt:=top 38
abbrev Ch:Stmt:=top 39
abbrev Dh:Stmt:=top 40
abbrev bj:Stmt:=top 42
abbrev Eh:Stmt:=top 43
abbrev yg:Stmt:=top 44
abbrev cj:Stmt:=top 45
abbrev zg:Stmt:=top 46
abbrev Fh:Stmt:=top 47
abbrev Ag:Stmt:=top 48
abbrev Gh:Stmt:=top 49
abbrev Bg:Stmt:=top 50
abbrev Hh:Stmt:=top 51
abbrev Cg:Stmt:=top 52
abbrev Jh:Stmt:=top 53
abbrev Dg:Stmt:=top 54
abbrev Kh:Stmt:=top 55
abbrev We:Stmt:=top 56
abbrev Xe:Stmt:=top 57
abbrev Ye:Stmt:=top 58
abbrev Ze:Stmt:=top 59
abbrev Lh:Stmt:=top 60
abbrev Mh:Stmt:=top 61
abbrev dj:Stmt:=top 62
abbrev Nh:Stmt:=top 63
abbrev fj:Stmt:=top 64
abbrev Oh:Stmt:=top 65
abbrev Ph:Stmt:=top 66
abbrev gj:Stmt:=top 67
abbrev Eg:Stmt:=top 68
local macro_rules|`(tactic| walk_at "s")=>`(tactic| exact ⟨rfl,rfl,rfl,by decide +kernel,rfl,by decide +kernel,by decide +kernel⟩)
theorem ij:FnScope ["row","found","waiting","part"] ["row"] (ya Qe):=by walk_at "s"
theorem x3r:FnScope ["part"] ["part"] (ya Re):=by walk_at "s"
theorem q6a:FnScope ["row"] ["row"] (ya Se):=by walk_at "s"
theorem af:FnScope ["ferry","ahead","name","row"] ["ferry"] (ya ug):=by walk_at "s"
theorem y8:FnScope ["sign"] ["sign"] (ya Vd):=by walk_at "s"
theorem x2y:FnScope ["text"] ["text"] (ya Te):=by walk_at "s"
theorem x4f:FnScope ["line"] ["line"] (ya vg):=by walk_at "s"
theorem jj:FnScope ["line","begin","end","close"] ["line","begin"] (ya Lf):=by walk_at "s"
theorem Qh:FnScope ["line","found","begin","end"] ["line"] (ya Mf):=by walk_at "s"
theorem y8z:FnScope ["token"] ["token"] (ya Ue):=by walk_at "s"
theorem y8y:FnScope ["holders","token"] ["holders","token"] (ya wg):=by walk_at "s"
theorem bf:FnScope ["line","told","holders","name","token","inner"] ["line"] (ya yh):=by walk_at "s"
theorem x5k:FnScope ["text"] ["text"] (ya Ve):=by walk_at "s"
theorem kj:FnScope ["row","found","waiting","part"] ["row"] (ya Nf):=by walk_at "s"
theorem j0z:FnScope ["left","right"] ["left","right"] (ya Pf):=by walk_at "s"
theorem Rh:FnScope ["row","found","told","left","right"] ["row"] (ya xg):=by walk_at "s"
theorem x0q:FnScope ["row"] ["row"] (ya zh):=by walk_at "s"
theorem Sq:FnScope ["line","row"] ["line"] (ya Qf):=by walk_at "s"
theorem Tq:FnScope ["line","row"] ["line"] (ya Ah):=by walk_at "s"
theorem km:FnScope ["line","middle","reader","cut","told"] ["line","middle","reader"] (ya Bh):=by walk_at "s"
theorem Sh:FnScope ["lines","middle","reader","first","rules","place","line","rule"] ["lines","middle","reader","first"] (ya Ch):=by walk_at "s"
theorem lm:FnScope ["rows","ferry"] ["rows"] (ya Dh):=by walk_at "s"
theorem y0s:FnScope ["_law_script","_law_k"] ["_law_script","_law_k"] (ya bj):=by walk_at "s"
theorem Wd:FnScope ["_law_script","_law_turn","_law_many","_law_cells","_law_found","_law_left","_law_k","_law_at","_law_place","_law_number"] ["_law_script","_law_turn","_law_many"] (ya Eh):=by walk_at "s"
theorem y9k:FnScope ["_law_draws_here"] ["_law_draws_here"] (ya yg):=by walk_at "s"
theorem Uq:FnScope ["_law_found","_law_due","_law_k"] ["_law_found","_law_due"] (ya cj):=by walk_at "s"
theorem lj:FnScope ["_law_k","_law_draw","_law_letters","_law_base","_law_at"] ["_law_k","_law_draw"] (ya zg):=by walk_at "s"
theorem y5o:FnScope ["_law_draw"] ["_law_draw"] (ya Fh):=by walk_at "s"
theorem Vq:FnScope ["_law_number","_law_some"] ["_law_number"] (ya Ag):=by walk_at "s"
theorem mj:FnScope ["_law_names_here","_law_draws_here","_law_deep","_law_row","_law_k","_law_number"] ["_law_names_here","_law_draws_here","_law_deep"] (ya Gh):=by walk_at "s"
theorem nj:FnScope ["_law_row","_law_number","_law_inner","_law_at"] ["_law_row","_law_number"] (ya Bg):=by walk_at "s"
theorem Xd:FnScope ["_law_names_here","_law_draws_here","_law_many","_law_rules","_law_k","_law_number","_law_row","_law_found","_law_name_here"] ["_law_names_here","_law_draws_here","_law_many"] (ya Hh):=by walk_at "s"
theorem oj:FnScope ["_law_row","_law_many","_law_part"] ["_law_row"] (ya Cg):=by walk_at "s"
theorem pj:FnScope ["_law_ferry_here","_law_met","_law_name_here","_law_row"] ["_law_ferry_here"] (ya Jh):=by walk_at "s"
theorem Fg:FnScope ["_law_part","_law_signs_out","_law_sign"] ["_law_part"] (ya Dg):=by walk_at "s"
theorem y0b:FnScope ["_law_row"] ["_law_row"] (ya Kh):=by walk_at "s"
theorem df:FnScope ["_law_line","_law_at","_law_found","_law_sign"] ["_law_line","_law_at"] (ya We):=by walk_at "s"
theorem Wq:FnScope ["_law_line","_law_at"] ["_law_line","_law_at"] (ya Xe):=by walk_at "s"
theorem qj:FnScope ["_law_line","_law_at","_law_starred_here","_law_end","_law_row"] ["_law_line","_law_at","_law_starred_here"] (ya Ye):=by walk_at "s"
theorem rj:FnScope ["_law_line","_law_at","_law_starred_here","_law_found","_law_part"] ["_law_line","_law_at","_law_starred_here"] (ya Ze):=by walk_at "s"
theorem ef:FnScope ["_law_error","_law_found"] ["_law_error"] (ya Lh):=by walk_at "s"
theorem Th:FnScope ["_law_row","_law_name_here","_law_sign","_law_text_here","_law_found"] ["_law_row"] (ya Mh):=by walk_at "s"
theorem Uh:FnScope ["_law_rows","_law_papers","_law_found","_law_k","_law_rule"] ["_law_rows","_law_papers"] (ya dj):=by walk_at "s"
theorem y4r:FnScope ["_law_rows","_law_papers"] ["_law_rows","_law_papers"] (ya Nh):=by walk_at "s"
theorem Gg:FnScope ["_law_number","_law_some"] ["_law_number"] (ya Oh):=by walk_at "s"
theorem Vh:FnScope ["_law_row","_law_number","_law_some","_law_sign","_law_at","_law_turned"] ["_law_row","_law_number"] (ya Ph):=by walk_at "s"
theorem mm:FnScope ["_law_rows","_law_draws_here","_law_turn","_law_at"] ["_law_rows","_law_draws_here"] (ya gj):=by walk_at "s"
theorem Bd:FnScope ["_law_script","_law_draws_here","_law_names_here","_law_bent","_law_papers","_law_rows","_law_due","_law_thing","_law_handed"] ["_law_script"] (ya Eg):=by walk_at "s"
abbrev i_Twice:Stmt:=yk (top 2) 0
abbrev i_Stars:Stmt:=yk (top 4) 0
abbrev i_NoText:Stmt:=yk (top 5) 0
theorem q5h:FnScope ["self","name"] ["self","name"] (ya i_Twice):=by walk_at "s"
theorem q3w:FnScope ["self","name"] ["self","name"] (ya i_Stars):=by walk_at "s"
theorem x5w:FnScope ["self","row"] ["self","row"] (ya i_NoText):=by walk_at "s"
theorem om:FnScope ["_law_rows","_law_papers","_law_caught","e"] ["_law_rows","_law_papers"] (ya fj):=by walk_at "s"
open Pap
abbrev Cs:=List Nat
def csS (x:Str):Cs:=x.cps.toList
noncomputable def isL (c:Nat):Bool:=decide (97<=c)&&decide (c<=122)
noncomputable def isNm (s:Cs):Bool:=decide (s≠[])&&s.all isL
def strC (l:Cs):Str:=⟨l.toArray⟩
theorem Kc (a b:Cs):strC a++strC b=strC (a++b):=by
 show(⟨a.toArray++b.toArray⟩:Str)=_;rw[List.append_toArray];rfl
theorem Na (a:Cs):(strC a).length=a.length:=by simp[strC,Str.length]
theorem bc (s:Str):strC (csS s)=s:=by simp[strC,csS]
theorem fb (a:Cs):csS (strC a)=a:=by simp[strC,csS]
theorem wb (s:Str):(csS s).length=s.length:=by simp[csS,Str.length]
theorem Yd {a b:Cs}(h:strC a=strC b):a=b:=by have:=congrArg csS h;rwa [fb,fb]at this
noncomputable def va (sep:Cs):List Cs->Cs
 | []=>[]
 | [x]=>x
 |x::y::r=>x++sep++va sep (y::r)
theorem Wh (sep:Cs)(l:List Cs):join (strC sep) (l.map strC)=strC (va sep l):=by
 show Builtin.Str.glued _ _=_;rw[glued_eq_join];induction l with
 |nil=>rfl
 |cons x l ih =>
  cases l with
  |nil=>rfl
  |cons y l =>
   rw[map_cons,map_cons,va];rw[map_cons]at ih;show strC x++strC sep++Str.join (strC sep) (strC y::l.map strC)=_;rw[ih,Kc,Kc]
noncomputable def txs:List Str:=["","x","\"","\\","a b","\\q"," ","~<*#","word(\"","q\\\\\"","- | ?"]
noncomputable def escC:Cs->Cs
 | []=>[]
 |c::r=>(if c=34 then[92,113] else if c=92 then[92,92] else[c])++escC r
noncomputable def quoC (s:Str):Cs:=34::(escC (csS s)++[34])
noncomputable def sgB (c:Nat):Bool:=decide (32<=c)&&decide (c<=126)&&decide (c≠37)
noncomputable def txB (s:Str):Bool:=decide (s.length<=2000)&&(csS s).all sgB
noncomputable def nmB (s:Str):Bool:=isNm (csS s)&&decide (s.length<=2000)
mutual
noncomputable def ok1:Part->Bool
 |.txt s=>txB s
 |.tup n ps=>if n = "*" then ps.isEmpty else nmB n&&okL ps
noncomputable def okL:List Part->Bool
 | []=>true
 |p::ps=>ok1 p&&okL ps
end
mutual
noncomputable def wr1:Part->Cs
 |.txt s=>quoC s
 |.tup n ps=>if n = "*" then[42] else csS n++40::(va [32] (wrL ps)++[41])
noncomputable def wrL:List Part->List Cs
 | []=>[]
 |p::ps=>wr1 p::wrL ps
end
mutual
noncomputable def pc1:Part->List Cs
 |.txt s=>[quoC s]
 |.tup n ps=>if n = "*" then[[42]] else(csS n++[40])::(pcL ps++[[41]])
noncomputable def pcL:List Part->List Cs
 | []=>[]
 |p::ps=>pc1 p++pcL ps
end
noncomputable def Zd (c:Nat)(x:Cs):Bool:=decide (x.getLast? = some c)
noncomputable def glu (x y:Cs):Cs:=if (Zd 40 x||decide (y=[41]))=true then[] else[32]
noncomputable def glA:List Cs->Cs
 | []=>[]
 | [x]=>x
 |x::y::r=>x++glu x y++glA (y::r)
theorem sj:∀{a b:List Cs}{x y:Cs},a.getLast? = some x->b.head? = some y->glA (a++b)=glA a++glu x y++glA b
 | [],b,x,y,h,_=>by simp at h
 | [z],[],x,y,h,h2=>by simp at h2
 | [z],w::b,x,y,h,h2=>by
  simp at h h2;subst h h2;rfl
 |z::w::a,b,x,y,h,h2=>by
  have h':(w::a).getLast? = some x:=by simpa using h
  have ih:=sj h' h2;show z++glu z w++glA ((w::a)++b)=_;rw[ih];simp[glA,append_assoc]
theorem getLast?_app1 {α:Type}(a:List α)(x:α):(a++[x]).getLast? = some x:=by simp
mutual
theorem qm:∀p:Part,ok1 p=true->∃x y,(pc1 p).getLast? = some x/\(pc1 p).head? = some y/\Zd 40 x=false/\y≠[41]
 |.txt s,_=>⟨quoC s,quoC s,rfl,rfl,by
   unfold Zd quoC;rw[show(34::(escC (csS s)++[34])).getLast? = some 34 by rw[<-cons_append,getLast?_app1]];decide,by
   unfold quoC;intro z;cases z⟩
 |.tup n ps,h=>by
  by_cases hn:n = "*"
  ·exact⟨[42],[42],by simp[pc1,hn],by simp[pc1,hn],by decide,by decide⟩
  ·refine⟨[41],csS n++[40],?_,by simp[pc1,hn],by decide,fun z=>?_⟩
   ·simp only[pc1,hn,if_false];rw[<-cons_append,getLast?_app1]
   ·have:=congrArg List.getLast? z;rw[getLast?_app1]at this;simp at this
theorem rm:∀ps:List Part,okL ps=true->ps≠[]->∃x y,(pcL ps).getLast? = some x/\(pcL ps).head? = some y/\Zd 40 x=false/\y≠[41]
 | [],_,h=>absurd rfl h
 | [p],h,_=>by
  simp only[okL,and_eq_true]at h;simpa[pcL] using qm p h.1
 |p::q::ps,h,_=>by
  rw[okL,and_eq_true]at h;obtain⟨x,y,e1,e2,e3,e4⟩:=qm p h.1;obtain⟨x',y',f1,f2,f3,f4⟩:=rm (q::ps) h.2 (by simp);refine⟨x',y,?_,?_,f3,e4⟩
  ·show(pc1 p++pcL (q::ps)).getLast? = _;rw[List.getLast?_append,f1];rfl
  ·show(pc1 p++pcL (q::ps)).head? = _;rw[List.head?_append,e2];rfl
end
mutual
theorem Xq:∀p:Part,ok1 p=true->glA (pc1 p)=wr1 p
 |.txt s,_=>rfl
 |.tup n ps,h=>by
  by_cases hn:n = "*"
  ·simp[pc1,wr1,hn,glA]
  ·simp only[ok1,hn,if_false,and_eq_true]at h;simp only[pc1,wr1,hn,if_false];have g1:glu (csS n++[40]) [41]=[]:=by unfold glu;rw[show(Zd 40 (csS n++[40])||decide (([41]:Cs)=[41]))=true by simp];rfl
   by_cases hp:ps=[]
   ·subst hp;simp[pcL,wrL,va,glA,g1]
   ·obtain⟨x,y,f1,f2,f3,f4⟩:=rm ps h.2 hp;have g2:glu (csS n++[40]) y=[]:=by unfold glu Zd;rw[getLast?_app1];simp
    have g3:glu x [41]=[]:=by unfold glu;simp
    have e:glA ((csS n++[40])::(pcL ps++[[41]]))=(csS n++[40])++(glA (pcL ps)++[41]):=by
     rw[<-List.singleton_append,sj (x:=csS n++[40]) (y:=y) rfl (by rw[List.head?_append,f2];rfl),g2,sj f1 rfl,g3];simp[glA]
    rw[e,tm ps h.2];simp
theorem tm:∀ps:List Part,okL ps=true->glA (pcL ps)=va [32] (wrL ps)
 | [],_=>rfl
 | [p],h=>by
  simp only[okL,and_eq_true]at h;simpa[pcL,wrL,va] using Xq p h.1
 |p::q::ps,h=>by
  rw[okL,and_eq_true]at h;obtain⟨x,y,e1,e2,e3,e4⟩:=qm p h.1;obtain⟨x',y',f1,f2,f3,f4⟩:=rm (q::ps) h.2 (by simp);have g:glu x y' = [32]:=by unfold glu;rw[e3,decide_eq_false f4];rfl
  show glA (pc1 p++pcL (q::ps))=wr1 p++[32]++va [32] (wrL (q::ps));rw[sj e1 f2,g,Xq p h.1,tm (q::ps) h.2]
end
noncomputable def tokR:Nat->Cs->List Cs
 |0,_=>[]
 |_+1,[]=>[]
 |n+1,c::r=>if c=34 then(if 34∈r then(34::(r.takeWhile (· ≠ 34)++[34]))::tokR n ((r.dropWhile (· ≠ 34)).tail) else[c::r]) else if isL c=true then(c::r.takeWhile isL)::tokR n (r.dropWhile isL) else[c]::tokR n r
theorem Rf {n:Nat}{c:Nat}{r:Cs}:tokR (n+1) (c::r)=if c=34 then(if 34∈r then(34::(r.takeWhile (· ≠ 34)++[34]))::tokR n ((r.dropWhile (· ≠ 34)).tail) else[c::r]) else if isL c=true then(c::r.takeWhile isL)::tokR n (r.dropWhile isL) else[c]::tokR n r:=rfl
theorem ff (p:Nat->Bool)(r:Cs):(r.dropWhile p).length<=r.length:=(List.dropWhile_sublist _).length_le
theorem Xh:∀(n m:Nat)(s:Cs),s.length<=n->s.length<=m->tokR n s=tokR m s
 |0,0,_,_,_=>rfl
 |0,m+1,[],_,_=>rfl
 |n+1,0,[],_,_=>rfl
 |0,m+1,c::r,h,_=>by simp at h
 |n+1,0,c::r,_,h=>by simp at h
 |n+1,m+1,[],_,_=>rfl
 |n+1,m+1,c::r,h1,h2=>by
  simp only[length_cons]at h1 h2;have d1:=ff (· ≠ 34) r;have d2:=ff isL r;rw[Rf,Rf,Xh n m ((r.dropWhile (· ≠ 34)).tail) (by rw[length_tail];omega) (by rw[length_tail];omega),Xh n m (r.dropWhile isL) (by omega) (by omega),Xh n m r (by omega) (by omega)]
noncomputable def rawT (s:Cs):List Cs:=tokR s.length s
theorem Hg (c:Nat)(r:Cs):rawT (c::r)=if c=34 then(if 34∈r then(34::(r.takeWhile (· ≠ 34)++[34]))::rawT ((r.dropWhile (· ≠ 34)).tail) else[c::r]) else if isL c=true then(c::r.takeWhile isL)::rawT (r.dropWhile isL) else[c]::rawT r:=by
 unfold rawT;have d1:=ff (· ≠ 34) r;have d2:=ff isL r;rw[length_cons,Rf,Xh r.length _ ((r.dropWhile (· ≠ 34)).tail) (by rw[length_tail];omega) (le_refl _),Xh r.length _ (r.dropWhile isL) (by omega) (le_refl _)]
noncomputable def tok (s:Cs):List Cs:=(rawT s).filter fun t=>decide (t≠[32])
mutual
noncomputable def tk1:Part->List Cs
 |.txt s=>[quoC s]
 |.tup n ps=>if n = "*" then[[42]] else csS n::[40]::(tkL ps++[[41]])
noncomputable def tkL:List Part->List Cs
 | []=>[]
 |p::ps=>tk1 p++tkL ps
end
theorem tw_app {p:Nat->Bool}{c:Nat}{r:Cs}(hc:p c=false):∀a:Cs,(∀x∈a,p x=true)->(a++c::r).takeWhile p=a/\(a++c::r).dropWhile p=c::r
 | [],_=>by simp[takeWhile_cons,dropWhile_cons,hc]
 |x::a,h=>by
  have ih:=tw_app (r:=r) hc a fun y hy=>h y (mem_cons_of_mem _ hy);simp[takeWhile_cons,dropWhile_cons,h x mem_cons_self,ih.1,ih.2]
theorem Yq:∀l:Cs,∀c∈escC l,c≠34
 | [],c,h=>by simp[escC]at h
 |a::r,c,h=>by
  rw[escC]at h;rcases mem_append.mp h with h|h
  ·by_cases h1:a=34
   ·rw[if_pos h1]at h;simp at h;omega
   ·rw[if_neg h1]at h;by_cases h2:a=92
    ·rw[if_pos h2]at h;simp at h;omega
    ·rw[if_neg h2]at h;simp at h;omega
  ·exact Yq r c h
theorem j2w (s:Str)(r:Cs):tok (quoC s++r)=quoC s::tok r:=by
 unfold tok quoC;obtain⟨h1,h2⟩:=tw_app (p:=fun x=>decide (x≠34)) (c:=34) (r:=r) (by simp) (escC (csS s)) fun x hx=>by simpa using Yq _ x hx
 have e:34::(escC (csS s)++[34])++r=34::(escC (csS s)++34::r):=by simp
 rw[e,Hg,if_pos rfl,if_pos (by simp),h1,h2,List.tail_cons,filter_cons,if_pos (by simp)]
theorem um {c:Nat}(r:Cs)(h1:c≠34)(h2:isL c=false)(h3:c≠32):tok (c::r)=[c]::tok r:=by
 unfold tok;rw[Hg,if_neg h1,if_neg (by rw[h2];simp),filter_cons,if_pos (by simp;exact h3)]
theorem j7w (r:Cs):tok (32::r)=tok r:=by
 unfold tok;rw[Hg,if_neg (by decide),if_neg (by decide),filter_cons,if_neg (by simp)]
theorem j6o {n:Cs}{r:Cs}(h:isNm n=true):tok (n++40::r)=n::tok (40::r):=by
 unfold isNm at h;rw[and_eq_true]at h;obtain⟨h0,ha⟩:=h;have ha':∀x∈n,isL x=true:=all_eq_true.mp ha;cases n with
 |nil=>simp at h0
 |cons c n =>
  have hc:=ha' c mem_cons_self;obtain⟨h1,h2⟩:=tw_app (p:=isL) (c:=40) (r:=r) (by decide) n fun x hx=>ha' x (mem_cons_of_mem _ hx);have c34:c≠34:=fun z=>by rw[z]at hc;exact absurd hc (by decide)
  have c32:c≠32:=fun z=>by rw[z]at hc;exact absurd hc (by decide)
  unfold tok;rw[cons_append,Hg,if_neg c34,if_pos hc,h1,h2,filter_cons,if_pos (by simp;exact .inl c32)]
theorem Ig {n:Str}(h:nmB n=true):isNm (csS n)=true/\n.length<=2000:=by
 unfold nmB at h;rw[and_eq_true]at h;exact⟨h.1,of_decide_eq_true h.2⟩
mutual
theorem Zq:∀(p:Part)(r:Cs),ok1 p=true->tok (wr1 p++r)=tk1 p++tok r
 |.txt s,r,_=>j2w s r
 |.tup n ps,r,h=>by
  by_cases hn:n = "*"
  ·simp only[wr1,tk1,hn,if_true];exact um r (by decide) (by decide) (by decide)
  ·simp only[ok1,hn,if_false,and_eq_true]at h;simp only[wr1,tk1,hn,if_false];rw[show csS n++40::(va [32] (wrL ps)++[41])++r=csS n++40::(va [32] (wrL ps)++(41::r)) by simp,j6o (Ig h.1).1,um _ (by decide) (by decide) (by decide),vm ps _ h.2,um _ (by decide) (by decide) (by decide)];simp
theorem vm:∀(ps:List Part)(r:Cs),okL ps=true->tok (va [32] (wrL ps)++r)=tkL ps++tok r
 | [],r,_=>by simp[wrL,va,tkL]
 | [p],r,h=>by
  simp only[okL,and_eq_true]at h;simpa[wrL,va,tkL] using Zq p r h.1
 |p::q::ps,r,h=>by
  rw[okL,and_eq_true]at h;have ih:=vm (q::ps) r h.2;show tok ((wr1 p++[32]++va [32] (wrL (q::ps)))++r)=(tk1 p++tkL (q::ps))++tok r;rw[append_assoc,append_assoc,Zq p _ h.1,List.singleton_append,j7w,ih,append_assoc]
end
theorem j0a:tok []=[]:=rfl
noncomputable def subC (c:Nat)(z:Cs):Cs->Cs
 | []=>[]
 |k::r=>(if k=c then z else[k])++subC c z r
theorem tj (c:Nat)(z:Cs):∀a b:Cs,subC c z (a++b)=subC c z a++subC c z b
 | [],_=>rfl
 |k::r,b=>by rw[cons_append,subC,subC,tj c z r b,append_assoc]
theorem wm (c:Nat)(z:Cs):∀l:Cs,c∉l->subC c z l=l
 | [],_=>rfl
 |k::r,h=>by
  rw[subC,if_neg (fun e:k=c=>h (by rw[e];exact mem_cons_self)),wm c z r (fun m=>h (mem_cons_of_mem _ m))];rfl
theorem ae (a b:Str):csS (a++b)=csS a++csS b:=by
 show(a.cps++b.cps).toList=_;simp[csS]
theorem uj {a b:Str}(h:csS a=csS b):a=b:=by rw[<-bc a,h,bc]
theorem ar (c:Nat)(z:Cs):∀parts:List Str,(∀p∈parts,c∉p.cps.toList)->subC c z (csS (Str.join ⟨#[c]⟩ parts))=csS (Str.join (strC z) parts)
 | [],_=>rfl
 | [p],h=>wm c z _ (h p (mem_singleton.mpr rfl))
 |p::q::r,h=>by
  have ih:=ar c z (q::r) fun a ha=>h a (mem_cons_of_mem _ ha);show subC c z (csS (p++⟨#[c]⟩++Str.join ⟨#[c]⟩ (q::r)))=csS (p++strC z++Str.join (strC z) (q::r));rw[ae,ae,ae,ae,tj,tj,ih,wm c z (csS p) (h p mem_cons_self),fb];show csS p++subC c z [c]++_=_;simp[subC]
theorem xm (x:Str)(c:Nat)(z:Cs):Txt.replace x ⟨#[c]⟩ (strC z)=strC (subC c z (csS x)):=by
 apply uj;rw[fb,StrLaws.replace_one,<-ar c z _ (StrLaws.split_free x c),StrLaws.join_split]
theorem br:∀l:Cs,subC 34 [92,113] (subC 92 [92,92] l)=escC l
 | []=>rfl
 |c::r=>by
  rw[subC,tj,br r,escC];congr 1;by_cases h:c=34
  ·subst h;rfl
  ·by_cases h2:c=92
   ·subst h2;rfl
   ·simp[subC,h,h2]
theorem gr:Str.ofString "\\" = ⟨#[92]⟩:=by decide +kernel
theorem Yh:Str.ofString "\\\\" = strC [92,92]:=by decide +kernel
theorem ir:Str.ofString "\"" = ⟨#[34]⟩:=by decide +kernel
theorem ym:Str.ofString "\\q" = strC [92,113]:=by decide +kernel
theorem j0w (s:Str):Txt.replace (Txt.replace s "\\" "\\\\") "\"" "\\q" = strC (escC (csS s)):=by
 rw[gr,Yh,ir,ym,xm,xm,fb,br]
theorem jr (c:Nat)(z:Cs):∀l:Cs,(subC c z l).length<=(z.length+1) * l.length
 | []=>by simp[subC]
 |k::r=>by
  have ih:=jr c z r;rw[subC,length_append,length_cons,Nat.mul_succ];split<;>simp<;>omega
theorem zm:∀l:Cs,(escC l).length<=2 * l.length
 | []=>by simp[escC]
 |c::r=>by
  have ih:=zm r;rw[escC,length_append,length_cons];split
  ·simp;omega
  ·split<;>simp<;>omega
theorem kr {s:Str}(h:txB s=true):s.length<=2000/\(Txt.replace s "\\" "\\\\").length<=6000/\(quoC s).length<=4002:=by
 unfold txB at h;rw[and_eq_true,decide_eq_true_eq]at h;have hl:=wb s;refine⟨h.1,?_,?_⟩
 ·rw[gr,Yh,xm,Na];have:=jr 92 [92,92] (csS s);simp at this;omega
 ·have:=zm (csS s);simp[quoC];omega
theorem mr:∀l:Cs,l.all sgB=true->∀c∈escC l,sgB c=true
 | [],_,c,hc=>by simp[escC]at hc
 |k::r,h,c,hc=>by
  rw[all_cons,and_eq_true]at h;rw[escC]at hc;rcases mem_append.mp hc with hc|hc
  ·split at hc
   ·simp at hc;rcases hc with rfl|rfl<;>decide
   ·split at hc
    ·simp at hc;subst hc;decide
    ·cases mem_singleton.mp hc;exact h.1
  ·exact mr r h.2 c hc
noncomputable def spl (a b:Nat):Cs->List Cs
 | []=>[[]]
 | [c]=>[[c]]
 |c::d::r=>if c=a/\d=b then[]::spl a b r else match spl a b (d::r) with
  | []=>[[c]]
  |h::t=>(c::h)::t
theorem Sf (a b:Nat)(l:Cs):∃h t,spl a b l=h::t:=by
 match l with
 | []=>exact⟨_,_,rfl⟩
 | [c]=>exact⟨_,_,rfl⟩
 |c::d::r =>
  rw[spl];split
  ·exact⟨_,_,rfl⟩
  ·split<;>exact⟨_,_,rfl⟩
theorem Jg {a b c d:Nat}{r:Cs}(h:¬(c=a/\d=b)){x:Cs}{t:List Cs}(e:spl a b (d::r)=x::t):spl a b (c::d::r)=(c::x)::t:=by
 rw[spl,if_neg h,e]
theorem Am {a b:Nat}:∀l:Cs,(∀k,(l.drop k).take 2≠[a,b])->spl a b l=[l]
 | [],_=>rfl
 | [c],_=>rfl
 |c::d::r,h=>Jg (fun z=>h 0 (by simp[z.1,z.2])) (Am (d::r) fun k=>h (k+1))
theorem nr {a b:Nat}:∀(k:Nat)(l:Cs),(l.drop k).take 2=[a,b]->(∀j,j<k->(l.drop j).take 2≠[a,b])->spl a b l=l.take k::spl a b (l.drop (k+2))
 |0,l,h,_=>by
  match l,h with
  |c::d::r,h =>
   simp at h;rw[spl,if_pos h];rfl
  | [],h=>simp at h
  | [c],h=>simp at h
 |k+1,l,h,hn=>by
  match l,h with
  | [],h=>simp at h
  | [c],h=>simp at h
  |c::d::r,h =>
   have ih:=nr k (d::r) h fun j hj=>hn (j+1) (by omega);exact Jg (fun z=>hn 0 (by omega) (by simp[z.1,z.2])) ih
theorem j4m (x y:Str)(i:Nat):Builtin.Str.subAt x y i=(((csS x).drop i).take y.length == csS y):=subAt_eq x y i
theorem qr (x:Str)(i j:Nat):Builtin.Str.strSub x i j=strC (((csS x).drop i).take (j - i)):=uj (by rw[fb];exact StrLaws.strSub_toList x i j)
theorem Bm (x:Str)(a b k:Nat):StrLaws.At x (strC [a,b]) x.length k↔((csS x).drop k).take 2=[a,b]:=by
 have l2:(strC [a,b]).length=2:=rfl;unfold StrLaws.At;rw[j4m,l2,fb,beq_iff_eq];refine⟨fun h=>h.2,fun h=>⟨?_,h⟩⟩;have:=congrArg List.length h;rw[length_take,length_drop,wb]at this;simp at this;omega
theorem ur (x:Str)(a b:Nat):∀(cuts:List Nat)(p f:Nat),StrLaws.ChainG x (strC [a,b]) x.length p cuts f->(∀k,f<=k->¬StrLaws.At x (strC [a,b]) x.length k)->partsFrom x 2 p cuts=(spl a b ((csS x).drop p)).map strC
 | [],p,f,h,hn=>by
  have e:f=p:=h;subst e;rw[Am _ fun k=>?_]
  ·show[Builtin.Str.strSub x f x.length]=[strC _];rw[qr,take_of_length_le (by rw[length_drop,wb];omega)]
  ·rw[drop_drop];exact fun z=>hn (f+k) (by omega) ((Bm x a b _).mpr z)
 |c::r,p,f,⟨h1,h2,h3,h4⟩,hn=>by
  have ih:=ur x a b r (c+2) f h4 hn;have hk:p+(c - p)=c:=by omega
  rw[nr (c - p) ((csS x).drop p) (by rw[drop_drop,hk];exact(Bm x a b c).mp h2) fun j hj=>?_]
  ·show Builtin.Str.strSub x p c::partsFrom x 2 (c+2) r=_;rw[ih,qr,map_cons,drop_drop,show p+(c - p+2)=c+2 by omega]
  ·rw[drop_drop];exact fun z=>h3 (p+j) (by omega) (by omega) ((Bm x a b _).mpr z)
theorem kind1 (x:Str){a b:Nat}(ha:a<256)(hb:b<256):¬Builtin.Str.strKind x<Builtin.Str.strKind (strC [a,b]):=by
 have e:Builtin.Str.strKind (strC [a,b])=1:=by
  unfold Builtin.Str.strKind strC;rw[if_pos (by simp[ha,hb])]
 rw[e];unfold Builtin.Str.strKind;split
 ·omega
 ·split<;>omega
theorem Cm (x:Str)(a b:Nat):Builtin.Str.partsBetween x (Builtin.Str.occurrences x (strC [a,b]) 0 x.length (x.length+1)) 2=(spl a b (csS x)).map strC:=by
 obtain⟨f,h1,h2⟩:=StrLaws.occ_tight x (strC [a,b]) (show 1<=2 by decide);rw[partsBetween_eq];exact ur x a b _ 0 f h1 h2
theorem vj (x:Str){a b:Nat}(ha:a<256)(hb:b<256):Txt.split x (strC [a,b])=(spl a b (csS x)).map strC:=by
 have l2:(strC [a,b]).length=2:=rfl;have key:=Cm x a b;unfold Txt.split;rw[l2];split
 ·rename_i h;rw[Bool.or_eq_true,decide_eq_true_eq,decide_eq_true_eq]at h;have hl:x.length<2:=h.resolve_right (kind1 x ha hb);rw[Am _ fun k z=>?_]
  ·rw[map_singleton,bc]
  ·have:=congrArg List.length z;rw[length_take,length_drop,wb]at this;simp at this;omega
 ·split
  ·rename_i h;rw[isEmpty_iff.mp h]at key;rw[<-key,partsBetween_eq];show[x]=[Builtin.Str.strSub x 0 x.length];rw[sub_whole]
  ·exact key
theorem q9m (z:Str)(l:List Str):join z l=Str.join z l:=glued_eq_join z l
theorem repl2 (x z:Str){a b:Nat}(ha:a<256)(hb:b<256):Txt.replace x (strC [a,b]) z=Str.join z ((spl a b (csS x)).map strC):=by
 have l2:(strC [a,b]).length=2:=rfl;rw[<-vj x ha hb];unfold Txt.replace;rw[show((strC [a,b]).length == 0)=false from rfl,Bool.false_and,Bool.or_false];have key:=Cm x a b;cases he:(Builtin.Str.occurrences x (strC [a,b]) 0 x.length (x.length+1)).isEmpty
 ·rw[if_neg Bool.false_ne_true,glued_eq_join,l2,key,vj x ha hb]
 ·rw[if_pos rfl];rw[isEmpty_iff.mp he,partsBetween_eq]at key;rw[vj x ha hb,<-key];show x=Str.join z [Builtin.Str.strSub x 0 x.length];rw[sub_whole];rfl
theorem j1h (z:Cs):∀l:List Cs,Str.join (strC z) (l.map strC)=strC (va z l):=fun l=>by
 rw[<-Wh,q9m]
noncomputable def unE (l:Cs):Cs:=va [92] ((spl 92 92 l).map fun p=>va [34] (spl 92 113 p))
theorem Dm (sep:Cs)(c:Nat)(h:Cs)(t:List Cs):va sep ((c::h)::t)=c::va sep (h::t):=by
 cases t<;>simp[va]
theorem j7i {p:Cs}:va [34] (spl 92 113 (92::113::p))=34::va [34] (spl 92 113 p):=by
 rw[spl,if_pos ⟨rfl,rfl⟩];obtain⟨h,t,e⟩:=Sf 92 113 p;rw[e];rfl
theorem j9x {c:Nat}{p:Cs}(hc:c≠92):va [34] (spl 92 113 (c::p))=c::va [34] (spl 92 113 p):=by
 cases p with
 |nil=>rfl
 |cons d r =>
  obtain⟨h,t,e⟩:=Sf 92 113 (d::r);rw[Jg (fun z=>hc z.1) e,e,Dm]
theorem wr:∀l:Cs,unE (escC l)=l
 | []=>rfl
 |c::r=>by
  have ih:=wr r;unfold unE at ih ⊢;obtain⟨h,t,e⟩:=Sf 92 92 (escC r);rw[e,map_cons]at ih;rw[escC];by_cases h1:c=34
  ·subst h1;rw[if_pos rfl];have e2:spl 92 92 ([92,113]++escC r)=(92::113::h)::t:=by
    show spl 92 92 (92::113::escC r)=_;refine Jg (by decide) ?_;cases hr:escC r with
    |nil=>rw[hr]at e;cases e;rfl
    |cons d q=>rw[hr]at e;exact Jg (by simp) e
   rw[e2,map_cons,j7i,Dm,ih]
  ·rw[if_neg h1];by_cases h2:c=92
   ·subst h2;rw[if_pos rfl];have e2:spl 92 92 ([92,92]++escC r)=[]::h::t:=by
     show spl 92 92 (92::92::escC r)=_;rw[spl,if_pos ⟨rfl,rfl⟩,e]
    rw[e2,map_cons,map_cons];show va [92] ([]::_::_)=_;rw[va,ih];rfl
   ·rw[if_neg h2];have e2:spl 92 92 ([c]++escC r)=(c::h)::t:=by
     show spl 92 92 (c::escC r)=_;cases hr:escC r with
     |nil=>rw[hr]at e;cases e;rfl
     |cons d q=>rw[hr]at e;exact Jg (fun z=>h2 z.1) e
    rw[e2,map_cons,j9x h2,Dm,ih]
theorem Em {a b:Nat}:∀l:Cs,(spl a b l).length<=l.length+1/\((spl a b l).map List.length).sum<=l.length
 | []=>by simp[spl]
 | [c]=>by simp[spl]
 |c::d::r=>by
  rw[spl];split
  ·have:=Em (a:=a) (b:=b) r;simp;omega
  ·have:=Em (a:=a) (b:=b) (d::r);obtain⟨h,t,e⟩:=Sf a b (d::r);rw[e]at this ⊢;simp at this ⊢;omega
theorem Zh {a b:Nat}:∀l:Cs,∀p∈spl a b l,p.length<=l.length/\∀c∈p,c∈l
 | [],p,hp=>by simp[spl]at hp;subst hp;simp
 | [c],p,hp=>by simp[spl]at hp;subst hp;simp
 |c::d::r,p,hp=>by
  rw[spl]at hp;split at hp
  ·rcases mem_cons.mp hp with rfl|hp
   ·simp
   ·obtain⟨h1,h2⟩:=Zh (a:=a) (b:=b) r p hp;exact⟨by simp;omega,fun x hx=>by simp[h2 x hx]⟩
  ·obtain⟨h,t,e⟩:=Sf a b (d::r);have ih:=Zh (a:=a) (b:=b) (d::r);rw[e]at hp ih;rcases mem_cons.mp hp with rfl|hp
   ·obtain⟨h1,h2⟩:=ih h mem_cons_self;refine⟨by simp at h1 ⊢;omega,fun x hx=>?_⟩;rcases mem_cons.mp hx with rfl|hx
    ·simp
    ·exact mem_cons_of_mem _ (h2 x hx)
   ·obtain⟨h1,h2⟩:=ih p (mem_cons_of_mem _ hp);exact⟨by simp at h1 ⊢;omega,fun x hx=>mem_cons_of_mem _ (h2 x hx)⟩
theorem Fm (sep:Cs):∀l:List Cs,(va sep l).length<=(l.map List.length).sum+sep.length * (l.length - 1)
 | []=>by simp[va]
 | [x]=>by simp[va]
 |x::y::r=>by
  have ih:=Fm sep (y::r);rw[va];simp only[length_append,map_cons,sum_cons,length_cons,Nat.add_sub_cancel,Nat.mul_succ]at ih ⊢;omega
theorem Gm (sep:Cs):∀(l:List Cs),∀c∈va sep l,c∈sep \/ ∃x∈l,c∈x
 | [],c,hc=>by simp[va]at hc
 | [x],c,hc=>.inr ⟨x,by simp,hc⟩
 |x::y::r,c,hc=>by
  rw[va]at hc;rcases mem_append.mp hc with hc|hc
  ·rcases mem_append.mp hc with hc|hc
   ·exact .inr ⟨x,by simp,hc⟩
   ·exact .inl hc
  ·rcases Gm sep (y::r) c hc with h|⟨z,hz,h⟩
   ·exact .inl h
   ·exact .inr ⟨z,mem_cons_of_mem _ hz,h⟩
theorem wj {a b:Nat}:∀l:Cs,((spl a b l).map List.length).sum+2 * ((spl a b l).length - 1)=l.length
 | []=>by simp[spl]
 | [c]=>by simp[spl]
 |c::d::r=>by
  rw[spl];split
  ·have:=wj (a:=a) (b:=b) r;obtain⟨h,t,e⟩:=Sf a b r;rw[e]at this ⊢;simp at this ⊢;omega
  ·have:=wj (a:=a) (b:=b) (d::r);obtain⟨h,t,e⟩:=Sf a b (d::r);rw[e]at this ⊢;simp at this ⊢;omega
theorem xr (p:Cs):(va [34] (spl 92 113 p)).length<=p.length:=by
 have h1:=Fm [34] (spl 92 113 p);have h2:=wj (a:=92) (b:=113) p;simp at h1;omega
theorem Hm (f:Cs->Cs)(h:∀p,(f p).length<=p.length):∀l:List Cs,((l.map f).map List.length).sum<=(l.map List.length).sum
 | []=>by simp
 |x::r=>by have:=Hm f h r;have:=h x;simp at *;omega
theorem yr (l:Cs):(unE l).length<=l.length:=by
 have h1:=Fm [92] ((spl 92 92 l).map fun p=>va [34] (spl 92 113 p));have h2:=Hm _ xr (spl 92 92 l);have h3:=wj (a:=92) (b:=92) l;unfold unE;simp only[length_map,length_singleton,Nat.one_mul]at h1;omega
theorem j9s {l:Cs}(h:l.all sgB=true):(unE l).all sgB=true:=by
 rw[all_eq_true]at h ⊢;intro c hc;rcases Gm _ _ c hc with hc|⟨x,hx,hc⟩
 ·cases mem_singleton.mp hc;decide
 ·obtain⟨p,hp,rfl⟩:=mem_map.mp hx;rcases Gm _ _ c hc with hc|⟨y,hy,hc⟩
  ·cases mem_singleton.mp hc;decide
  ·exact h c ((Zh l p hp).2 c ((Zh p y hy).2 c hc))
noncomputable def unqF (t:Cs):Str:=strC (unE ((t.drop 1).take (t.length - 2)))
theorem j2l (s:Str):unqF (quoC s)=s:=by
 unfold unqF quoC;rw[List.drop_succ_cons,drop_zero,length_cons,length_append,length_singleton,show(escC (csS s)).length+1+1 - 2=(escC (csS s)).length by omega,List.take_left,wr,bc]
theorem j8a {t:Cs}(hl:t.length<=2000)(h:t.all sgB=true):txB (unqF t)=true:=by
 unfold txB unqF;rw[fb,Na,and_eq_true,decide_eq_true_eq];have h1:=yr ((t.drop 1).take (t.length - 2));rw[length_take,length_drop]at h1;refine⟨by omega,j9s ?_⟩;rw[all_eq_true]at h ⊢;exact fun c hc=>h c (mem_of_mem_drop (mem_of_mem_take hc))
theorem zr {c:Nat}(h:sgB c=true):32<=c/\c<=126/\c≠37:=by
 simp only[sgB,and_eq_true,decide_eq_true_eq]at h;exact⟨h.1.1,h.1.2,h.2⟩
theorem sg_to {c:Nat}(h:32<=c/\c<=126/\c≠37):sgB c=true:=by
 simp only[sgB,and_eq_true,decide_eq_true_eq];exact⟨⟨h.1,h.2.1⟩,h.2.2⟩
theorem j4j {s:Str}(h:txB s=true):∀c∈quoC s,32<=c/\c<=126/\c≠37:=by
 unfold txB at h;rw[and_eq_true]at h;intro c hc;rcases mem_cons.mp hc with rfl|hc
 ·decide
 ·rcases mem_append.mp hc with hc|hc
  ·exact zr (mr _ h.2 c hc)
  ·cases mem_singleton.mp hc;decide
noncomputable def nm20 (s:Str):Bool:=isNm (csS s)&&decide (s.length<=20)
mutual
noncomputable def sm1:Part->Bool
 |.txt s=>txs.contains s
 |.tup n ps=>if n = "*" then ps.isEmpty else nm20 n&&smL ps
noncomputable def smL:List Part->Bool
 | []=>true
 |p::ps=>sm1 p&&smL ps
end
theorem Im:∀s∈txs,txB s=true/\(quoC s).length<=16:=by decide +kernel
theorem tx11 {s:Str}(h:txs.contains s=true):s∈txs:=by simpa using h
theorem j0y {n:Str}(h:nm20 n=true):nmB n=true:=by
 simp only[nm20,nmB,and_eq_true,decide_eq_true_eq]at h ⊢;exact⟨h.1,by omega⟩
mutual
theorem Ar:∀p:Part,sm1 p=true->ok1 p=true
 |.txt s,h=>(Im s (tx11 h)).1
 |.tup n ps,h=>by
  by_cases hn:n = "*"
  ·simp only[sm1,ok1,hn,if_true]at h ⊢;exact h
  ·simp only[sm1,hn,if_false,and_eq_true]at h;simp only[ok1,hn,if_false,and_eq_true];exact⟨j0y h.1,Jm ps h.2⟩
theorem Jm:∀ps:List Part,smL ps=true->okL ps=true
 | [],_=>rfl
 |p::ps,h=>by
  simp only[smL,and_eq_true]at h;simp only[okL,and_eq_true];exact⟨Ar p h.1,Jm ps h.2⟩
end
structure Sc where
 fs:List (List Part×Str)
 cur:List Part
 nm:Cs
noncomputable def Oa (st:Sc)(t:Cs):Option Sc :=
 if st.nm≠[] then(if t=[40] then some ⟨(st.cur,strC st.nm)::st.fs,[],[]⟩ else none)
 else if isNm t=true then some ⟨st.fs,st.cur,t⟩
 else if t.head? = some 34 then some ⟨st.fs,st.cur++[.txt (unqF t)],[]⟩
 else if t=[42] then some ⟨st.fs,st.cur++[.tup "*" []],[]⟩ else if t=[41] then(match st.fs with|(ps,n)::fs=>some ⟨fs,ps++[.tup n st.cur],[]⟩ | []=>none) else none
noncomputable def runS:List Cs->Sc->Option Sc
 | [],st=>some st
 |t::ts,st=>(Oa st t).bind (runS ts)
theorem j5v (s:Str):isNm (quoC s)=false:=by
 unfold isNm quoC;simp[isL]
mutual
theorem run1:∀(p:Part)(ts:List Cs)(fs:List (List Part×Str))(cur:List Part),ok1 p=true->runS (tk1 p++ts) ⟨fs,cur,[]⟩=runS ts ⟨fs,cur++[p],[]⟩
 |.txt s,ts,fs,cur,h=>by
  show(Oa ⟨fs,cur,[]⟩ (quoC s)).bind (runS ts)=_;unfold Oa;rw[if_neg (by simp),if_neg (by rw[j5v];simp),if_pos (show(quoC s).head? = some 34 from rfl),j2l];rfl
 |.tup n ps,ts,fs,cur,h=>by
  by_cases hn:n = "*"
  ·simp only[ok1,hn,if_true,isEmpty_iff]at h;subst hn h;show(Oa ⟨fs,cur,[]⟩ [42]).bind (runS ts)=_;unfold Oa;rw[if_neg (by simp),if_neg (by decide),if_neg (by decide)];rfl
  ·simp only[ok1,hn,if_false,and_eq_true]at h;have hnm:=(Ig h.1).1;have hne:csS n≠[]:=by
    unfold isNm at hnm;rw[and_eq_true]at hnm;simpa using hnm.1
   simp only[tk1,hn,if_false];show(Oa ⟨fs,cur,[]⟩ (csS n)).bind (runS ([40]::(tkL ps++[[41]])++ts))=_;have e1:Oa ⟨fs,cur,[]⟩ (csS n)=some ⟨fs,cur,csS n⟩:=by unfold Oa;rw[if_neg (by simp),if_pos hnm]
   rw[e1];show(Oa ⟨fs,cur,csS n⟩ [40]).bind (runS ((tkL ps++[[41]])++ts))=_;have e2:Oa ⟨fs,cur,csS n⟩ [40]=some ⟨(cur,n)::fs,[],[]⟩:=by unfold Oa;rw[if_pos hne,if_pos rfl];simp only[bc]
   rw[e2];show runS ((tkL ps++[[41]])++ts) ⟨(cur,n)::fs,[],[]⟩=_;rw[append_assoc,runL ps _ _ _ h.2];show(Oa ⟨(cur,n)::fs,[]++ps,[]⟩ [41]).bind (runS ts)=_;have e3:Oa ⟨(cur,n)::fs,[]++ps,[]⟩ [41]=some ⟨fs,cur++[.tup n ps],[]⟩:=by
    unfold Oa;rw[if_neg (by simp),if_neg (by decide),if_neg (by decide)];rfl
   rw[e3];rfl
theorem runL:∀(ps:List Part)(ts:List Cs)(fs:List (List Part×Str))(cur:List Part),okL ps=true->runS (tkL ps++ts) ⟨fs,cur,[]⟩=runS ts ⟨fs,cur++ps,[]⟩
 | [],ts,fs,cur,_=>by simp[tkL]
 |p::ps,ts,fs,cur,h=>by
  simp only[okL,and_eq_true]at h;rw[tkL,append_assoc,run1 p _ _ _ h.1,runL ps _ _ _ h.2];simp
end
theorem j9z {ps:List Part}(h:okL ps=true):runS (tok (va [32] (wrL ps))) ⟨[],[],[]⟩=some ⟨[],ps,[]⟩:=by
 have e:=vm ps [] h;rw[append_nil,j0a,append_nil]at e;have r:=runL ps [] [] [] h;rw[append_nil]at r;rw[e,r];rfl
theorem xj:∀(a b:List Cs)(st:Sc),runS (a++b) st=(runS a st).bind (runS b)
 | [],b,st=>rfl
 |t::a,b,st=>by
  show(Oa st t).bind (runS (a++b))=((Oa st t).bind (runS a)).bind (runS b);cases e:Oa st t with
  |none=>rfl
  |some st'=>exact xj a b st'
theorem j7b {ts:List Cs}{i:Nat}{t:Cs}{s0 st s1:Sc}(h:runS (ts.take i) s0=some st)(e:ts[i]? = some t)(hall:runS ts s0=some s1):∃st',Oa st t=some st'/\runS (ts.take (i+1)) s0=some st':=by
 have e1:ts.take (i+1)=ts.take i++[t]:=by rw[List.take_add_one,e];rfl
 have e2:runS (ts.take (i+1)) s0=Oa st t:=by
  rw[e1,xj,h,bind_some];show(Oa st t).bind _=_;cases Oa st t<;>rfl
 cases q:Oa st t with
 |none =>
  rw[<-take_append_drop (i+1) ts,xj,e2,q]at hall;cases hall
 |some st'=>exact⟨st',rfl,e2.trans q⟩
theorem Km:∀l:List Cs,(va [32] l).length<=(l.map fun x=>x.length+1).sum
 | []=>by simp[va]
 | [x]=>by simp[va]
 |x::y::r=>by
  have:=Km (y::r);simp only[va,length_append,map_cons,sum_cons,length_cons,length_nil]at this ⊢;omega
theorem yj {n:Str}(h:nm20 n=true):isNm (csS n)=true/\n.length<=20:=by
 simp only[nm20,and_eq_true,decide_eq_true_eq]at h;exact h
mutual
theorem Br:∀p:Part,sm1 p=true->(wr1 p).length+1<=24 * Qa p
 |.txt s,h=>by
  have:=(Im s (tx11 h)).2;simp only[wr1,Qa];omega
 |.tup n ps,h=>by
  by_cases hn:n = "*"
  ·simp[wr1,hn,Qa];omega
  ·simp only[sm1,hn,if_false,and_eq_true]at h;have h1:=(yj h.1).2;have h2:=ai ps h.2;have h3:=Km (wrL ps);have h4:=wb n;simp only[wr1,hn,if_false,Qa,length_append,length_cons,length_nil];omega
theorem ai:∀ps:List Part,smL ps=true->((wrL ps).map fun x=>x.length+1).sum<=24 * Da ps
 | [],_=>by simp[wrL]
 |p::ps,h=>by
  simp only[smL,and_eq_true]at h;have h1:=Br p h.1;have h2:=ai ps h.2;simp only[wrL,map_cons,sum_cons,Da];omega
end
def sgOk (c:Nat):Prop:=32<=c/\c<=126/\c≠37
theorem Lm:∀l:List Cs,(∀x∈l,∀c∈x,sgOk c)->∀c∈va [32] l,sgOk c
 | [],_,c,h=>by simp[va]at h
 | [x],H,c,h=>H x (by simp) c h
 |x::y::r,H,c,h=>by
  have ih:=Lm (y::r) fun z hz=>H z (mem_cons_of_mem _ hz);simp only[va]at h;rcases mem_append.mp h with h|h
  ·rcases mem_append.mp h with h|h
   ·exact H x (by simp) c h
   ·simp at h;subst h;exact⟨by decide,by decide,by decide⟩
  ·exact ih c h
mutual
theorem Cr:∀p:Part,ok1 p=true->∀c∈wr1 p,sgOk c
 |.txt s,h=>j4j h
 |.tup n ps,h=>by
  by_cases hn:n = "*"
  ·simp only[wr1,hn,if_true];intro c hc;simp at hc;subst hc;exact⟨by decide,by decide,by decide⟩
  ·simp only[ok1,hn,if_false,and_eq_true]at h;simp only[wr1,hn,if_false];have hnm:=(Ig h.1).1;unfold isNm at hnm;rw[and_eq_true]at hnm;have ha:=all_eq_true.mp hnm.2;have ih:=Lm (wrL ps) (Mm ps h.2);intro c hc;rcases mem_append.mp hc with hc|hc
   ·have:=ha c hc;unfold isL at this;simp at this;unfold sgOk;omega
   ·rcases mem_cons.mp hc with rfl|hc
    ·exact⟨by decide,by decide,by decide⟩
    ·rcases mem_append.mp hc with hc|hc
     ·exact ih c hc
     ·simp at hc;subst hc;exact⟨by decide,by decide,by decide⟩
theorem Mm:∀ps:List Part,okL ps=true->∀x∈wrL ps,∀c∈x,sgOk c
 | [],_=>by simp[wrL]
 |p::ps,h=>by
  simp only[okL,and_eq_true]at h;intro x hx;simp only[wrL]at hx;rcases mem_cons.mp hx with rfl|hx
  ·exact Cr p h.1
  ·exact Mm ps h.2 x hx
end
theorem zj:∀(n:Nat)(l:Cs),(tokR n l).length<=l.length
 |0,l=>by simp[tokR]
 |n+1,[]=>by simp[tokR]
 |n+1,c::r=>by
  rw[Rf];have d1:=ff (· ≠ 34) r;have d2:=ff isL r;split
  ·split
   ·have:=zj n ((r.dropWhile (· ≠ 34)).tail);rw[length_tail]at this;simp only[length_cons];omega
   ·simp
  ·split
   ·have:=zj n (r.dropWhile isL);simp only[length_cons];omega
   ·have:=zj n r;simp only[length_cons];omega
theorem Nm (l:Cs):(tok l).length<=l.length:=le_trans (List.length_filter_le _ _) (zj _ _)
mutual
theorem j4x:∀p:Part,(pc1 p).length<=2 * Qa p
 |.txt s=>by simp[pc1,Qa]
 |.tup n ps=>by
  have:=Aj ps;by_cases hn:n = "*"
  ·simp[pc1,hn,Qa];omega
  ·simp only[pc1,hn,if_false,Qa,length_cons,length_append,length_nil];omega
theorem Aj:∀ps:List Part,(pcL ps).length<=2 * Da ps
 | []=>by simp[pcL]
 |p::ps=>by
  have h1:=j4x p;have h2:=Aj ps;simp only[pcL,length_append,Da];omega
end
theorem Dr {ps:List Part}(h:smL ps=true):(va [32] (wrL ps)).length<=24 * Da ps:=le_trans (Km _) (ai ps h)
mutual
noncomputable def wt1:Part->Nat
 |.txt s=>2 * s.length+3
 |.tup n ps=>n.length+4+wtL ps
noncomputable def wtL:List Part->Nat
 | []=>0
 |p::ps=>wt1 p+wtL ps
end
theorem Om (ps qs:List Part):wtL (ps++qs)=wtL ps+wtL qs:=by
 induction ps with
 |nil=>simp[wtL]
 |cons p ps ih=>simp[wtL,ih];omega
mutual
theorem sz_wt1:∀p:Part,Qa p<=wt1 p
 |.txt s=>by simp only[Qa,wt1];omega
 |.tup n ps=>by have:=sz_wt ps;simp only[Qa,wt1];omega
theorem sz_wt:∀ps:List Part,Da ps<=wtL ps
 | []=>le_refl _
 |p::ps=>by have:=sz_wt1 p;have:=sz_wt ps;simp only[Da,wtL];omega
end
mutual
theorem j4k:∀p:Part,((pc1 p).map fun x=>x.length+1).sum<=wt1 p
 |.txt s=>by
  have:=zm (csS s);have:=wb s;simp[pc1,wt1,quoC];omega
 |.tup n ps=>by
  have:=Pm ps;have:=wb n;by_cases hn:n = "*"
  ·subst hn;have:("*":Str).length=1:=by decide
   simp[pc1,wt1];omega
  ·simp[pc1,wt1,hn];omega
theorem Pm:∀ps:List Part,((pcL ps).map fun x=>x.length+1).sum<=wtL ps
 | []=>by simp[pcL,wtL]
 |p::ps=>by
  have:=j4k p;have:=Pm ps;simp[pcL,wtL];omega
end
noncomputable def txtP:Cs->Option (Cs×Cs)
 | []=>none
 | [c]=>if c=34 then some ([],[]) else none
 |c::d::r=>if c=34 then some ([],d::r) else if c=92 then(if d=113 then(txtP r).map fun x=>(34::x.1,x.2) else if d=92 then(txtP r).map fun x=>(92::x.1,x.2) else none) else(txtP (d::r)).map fun x=>(c::x.1,x.2)
theorem Bj:∀(l s r:Cs),txtP l=some (s,r)->l=escC s++34::r
 | [],s,r,h=>by cases h
 | [c],s,r,h=>by
  rw[txtP]at h;split at h
  ·rename_i hc;cases h;rw[hc];rfl
  ·cases h
 |c::d::q,s,r,h=>by
  rw[txtP]at h;split at h
  ·rename_i hc;cases h;rw[hc];rfl
  ·rename_i h34;split at h
   ·rename_i h92;subst h92;split at h
    ·rename_i hd;obtain⟨⟨s',r'⟩,hx,e⟩:=map_eq_some_iff.mp h;cases e;have:=Bj q s' r' hx;rw[hd,this];rfl
    ·split at h
     ·rename_i hd;obtain⟨⟨s',r'⟩,hx,e⟩:=map_eq_some_iff.mp h;cases e;have:=Bj q s' r' hx;rw[hd,this];rfl
     ·cases h
   ·rename_i h92;obtain⟨⟨s',r'⟩,hx,e⟩:=map_eq_some_iff.mp h;cases e;have:=Bj (d::q) s' r' hx;rw[this,escC,if_neg h34,if_neg h92];rfl
theorem Er:∀(s r:Cs),txtP (escC s++34::r)=some (s,r)
 | [],r=>by
  show txtP (34::r)=_;cases r<;>simp[txtP]
 |c::s,r=>by
  have ih:=Er s r;rw[escC];by_cases h34:c=34
  ·subst h34;rw[if_pos rfl];show txtP (92::113::(escC s++34::r))=_;rw[txtP,if_neg (by decide),if_pos rfl,if_pos rfl,ih];rfl
  ·rw[if_neg h34];by_cases h92:c=92
   ·subst h92;rw[if_pos rfl];show txtP (92::92::(escC s++34::r))=_;rw[txtP,if_neg (by decide),if_pos rfl,if_neg (by decide),if_pos rfl,ih];rfl
   ·rw[if_neg h92];show txtP (c::(escC s++34::r))=_;obtain⟨d,q,e⟩:∃d q,escC s++34::r=d::q:=by
     cases escC s with
     |nil=>exact⟨_,_,rfl⟩
     |cons x y=>exact⟨_,_,rfl⟩
    rw[e]at ih ⊢;rw[txtP,if_neg h34,if_neg h92,ih];rfl
mutual
noncomputable def sd (b:Bool):Nat->Cs->Option (Part×Cs)
 |0,_=>none
 |n+1,l =>
  if l.head? = some 34 then(txtP l.tail).map fun x=>(.txt (strC x.1),x.2)
  else if b=true/\l.head? = some 42 then some (.tup "*" [],l.tail)
  else if l.takeWhile isL=[]\/(l.dropWhile isL).head? ≠ some 40 then none
  else match (if (l.dropWhile isL).tail.head? = some 41 then some ([],(l.dropWhile isL).tail) else rowP b n (l.dropWhile isL).tail) with
   |none=>none
   |some x=>if x.2.head? = some 41 then some (.tup (strC (l.takeWhile isL)) x.1,x.2.tail) else none
noncomputable def rowP (b:Bool):Nat->Cs->Option (List Part×Cs)
 |0,_=>none
 |n+1,l=>match sd b n l with
  |none=>none
  |some x=>if x.2.head? = some 32 then(match rowP b n x.2.tail with|none=>none|some y=>some (x.1::y.1,y.2)) else some ([x.1],x.2)
end
mutual
noncomputable def gr1 (b:Bool):Part->Bool
 |.txt _=>true
 |.tup n ps=>if n = "*" then b&&ps.isEmpty else isNm (csS n)&&grL b ps
noncomputable def grL (b:Bool):List Part->Bool
 | []=>true
 |p::ps=>gr1 b p&&grL b ps
end
theorem lc {l:Cs}{c:Nat}(h:l.head? = some c):l=c::l.tail:=by
 cases l with
 |nil=>cases h
 |cons a r=>cases h;rfl
theorem tw_all (l:Cs):(l.takeWhile isL).all isL=true:=by
 induction l with
 |nil=>rfl
 |cons a r ih =>
  rw[takeWhile_cons];split
  ·rename_i h;rw[all_cons,h,ih];rfl
  ·rfl
theorem tw_nm {l:Cs}(h:l.takeWhile isL≠[]):isNm (l.takeWhile isL)=true:=by
 unfold isNm;rw[decide_eq_true h,tw_all];rfl
theorem j2k {n:Cs}(h:isNm n=true):strC n ≠ "*":=by
 intro e;have e2:=congrArg csS e;rw[fb]at e2;rw[e2]at h;exact absurd h (by decide +kernel)
theorem gf (x:Cs)(p:Part)(ps:List Part)(h:ps≠[]):va [32] (wrL (p::ps))=wr1 p++[32]++va [32] (wrL ps):=by
 cases ps with
 |nil=>exact absurd rfl h
 |cons q qs=>rw[wrL,wrL,va,<-wrL]
theorem prsS (b:Bool):∀n,(∀l p r,sd b n l=some (p,r)->l=wr1 p++r/\gr1 b p=true)/\(∀l ps r,rowP b n l=some (ps,r)->ps≠[]/\l=va [32] (wrL ps)++r/\r.head? ≠ some 32/\grL b ps=true)
 |0=>⟨fun l p r h=>by simp[sd]at h,fun l ps r h=>by simp[rowP]at h⟩
 |n+1=>by
  obtain⟨ih1,ih2⟩:=prsS b n;refine⟨fun l p r h=>?_,fun l ps r h=>?_⟩
  ·rw[sd]at h;split at h
   ·rename_i h34;obtain⟨⟨s,r'⟩,hx,e⟩:=map_eq_some_iff.mp h;cases e;refine⟨?_,rfl⟩;have:=Bj _ _ _ hx;rw[lc h34,this,wr1,quoC,fb];simp
   ·split at h
    ·rename_i hb;cases h;refine⟨?_,by simp[gr1,hb.1]⟩;rw[lc hb.2];simp[wr1]
    ·split at h
     ·cases h
     ·rename_i hn;have hn1:l.takeWhile isL≠[]:=fun z=>hn (.inl z);have hn2:(l.dropWhile isL).head? = some 40:=Classical.byContradiction fun z=>hn (.inr z);have hl:l=l.takeWhile isL++40::(l.dropWhile isL).tail:=by rw[<-lc hn2,takeWhile_append_dropWhile]
      have hns:=j2k (tw_nm hn1);have gt:∀ps r',grL b ps=true->(l.dropWhile isL).tail=va [32] (wrL ps)++41::r'->l=wr1 (.tup (strC (l.takeWhile isL)) ps)++r'/\gr1 b (.tup (strC (l.takeWhile isL)) ps)=true:=fun ps r' g e=>by
       refine⟨?_,by simp only[gr1,hns,if_false,fb,tw_nm hn1,g,Bool.and_self]⟩;simp only[wr1,hns,if_false,fb]
       conv=>lhs;rw[hl,e]
       simp
      cases hm:(if (l.dropWhile isL).tail.head? = some 41 then some (([]:List Part),(l.dropWhile isL).tail) else rowP b n (l.dropWhile isL).tail) with
      |none=>rw[hm]at h;cases h
      |some x =>
       rw[hm]at h;obtain⟨ps,r'⟩:=x;dsimp only at h;split at h
       ·rename_i h41;cases h;split at hm
        ·cases hm;exact gt [] _ rfl (by rw[wrL,va,List.nil_append,<-lc h41])
        ·obtain⟨k1,k2,k3,k4⟩:=ih2 _ _ _ hm;exact gt ps _ k4 (by rw[<-lc h41];exact k2)
       ·cases h
  ·rw[rowP]at h;cases hp:sd b n l with
   |none=>rw[hp]at h;cases h
   |some x =>
    obtain⟨p,r1⟩:=x;rw[hp]at h;obtain⟨k1,k2⟩:=ih1 _ _ _ hp;dsimp only at h;split at h
    ·rename_i h32;cases hr:rowP b n r1.tail with
     |none=>rw[hr]at h;cases h
     |some y =>
      obtain⟨qs,r2⟩:=y;rw[hr]at h;cases h;obtain⟨j1,j2,j3,j4⟩:=ih2 _ _ _ hr;refine⟨by simp,?_,j3,by simp[grL,k2,j4]⟩;rw[gf [] p qs j1,k1]
      conv=>lhs;rw[lc h32,j2]
      simp
    ·rename_i h32;cases h;exact⟨by simp,by rw[wrL,wrL,va];exact k1,h32,by simp[grL,k2]⟩
mutual
noncomputable def mz1:Part->Nat
 |.txt _=>1
 |.tup _ ps=>1+mzL ps
noncomputable def mzL:List Part->Nat
 | []=>0
 |p::ps=>1+max (mz1 p) (mzL ps)
end
theorem nm_tw {n r:Cs}(h:isNm n=true):(n++40::r).takeWhile isL=n/\(n++40::r).dropWhile isL=40::r:=by
 unfold isNm at h;rw[and_eq_true,all_eq_true]at h;exact tw_app (by decide) n h.2
theorem Cj {n r:Cs}(h:isNm n=true):∃c t,n++r=c::t/\isL c=true:=by
 unfold isNm at h;rw[and_eq_true,all_eq_true]at h;cases n with
 |nil=>simp at h
 |cons c t=>exact⟨c,t++r,rfl,h.2 c mem_cons_self⟩
theorem Gr:∀(b:Bool)(p:Part),gr1 b p=true->∃c r,wr1 p=c::r/\c≠41/\c≠32/\c≠45
 |b,.txt s,_=>⟨34,_,rfl,by decide,by decide,by decide⟩
 |b,.tup n ps,h=>by
  by_cases hn:n = "*"
  ·subst hn;exact⟨42,[],by simp[wr1],by decide,by decide,by decide⟩
  ·simp only[gr1,hn,if_false,and_eq_true]at h;obtain⟨c,t,e,hc⟩:=Cj (r:=[]) h.1;rw[append_nil]at e;simp only[wr1,hn,if_false,e,cons_append];refine⟨c,_,rfl,?_,?_,?_⟩<;>(rintro rfl;exact absurd hc (by decide))
theorem q3d (b:Bool)(p:Part)(ps:List Part)(h:gr1 b p=true):∃c r,va [32] (wrL (p::ps))=c::r/\c≠41/\c≠32/\c≠45:=by
 obtain⟨c,r,e,h1,h2,h3⟩:=Gr b p h;cases ps with
 |nil=>exact⟨c,r,by rw[wrL,wrL,va,e],h1,h2,h3⟩
 |cons q qs=>exact⟨c,r++[32]++va [32] (wrL (q::qs)),by rw[gf [] p _ (by simp),e];simp,h1,h2,h3⟩
mutual
theorem cpl1 (b:Bool):∀(p:Part)(n:Nat)(r:Cs),gr1 b p=true->mz1 p<=n->sd b n (wr1 p++r)=some (p,r)
 |.txt s,0,r,_,h=>by simp[mz1]at h
 |.tup _ _,0,r,_,h=>by simp[mz1]at h
 |.txt s,n+1,r,_,_=>by
  rw[sd,if_pos (show(wr1 (.txt s)++r).head? = some 34 from rfl)];have e:(wr1 (.txt s)++r).tail=escC (csS s)++34::r:=by simp[wr1,quoC]
  rw[e,Er];show some (Part.txt (strC (csS s)),r)=_;rw[bc]
 |.tup nm ps,n+1,r,g,h=>by
  by_cases hn:nm = "*"
  ·subst hn;simp only[gr1,if_true,and_eq_true,isEmpty_iff]at g;obtain⟨g1,rfl⟩:=g;have e:wr1 (.tup "*" [])++r=42::r:=by simp[wr1]
   rw[e,sd,if_neg (by simp),if_pos ⟨g1,rfl⟩];rfl
  ·simp only[gr1,hn,if_false,and_eq_true]at g;have e:wr1 (.tup nm ps)++r=csS nm++40::(va [32] (wrL ps)++41::r):=by simp[wr1,hn]
   obtain⟨c,t,e2,hc⟩:=Cj (r:=40::(va [32] (wrL ps)++41::r)) g.1;obtain⟨t1,t2⟩:=nm_tw (r:=va [32] (wrL ps)++41::r) g.1;rw[e,sd];have hh:(csS nm++40::(va [32] (wrL ps)++41::r)).head? = some c:=by rw[e2];rfl
   rw[hh,if_neg (by intro z;cases z;exact absurd hc (by decide)),if_neg (by intro z;cases z.2;exact absurd hc (by decide)),t1,t2];have hne:csS nm≠[]:=fun z=>by rw[z]at g;exact absurd g.1 (by decide)
   rw[if_neg (by simp[hne])];simp only[mz1]at h;have key:(if (40::(va [32] (wrL ps)++41::r)).tail.head? = some 41 then some (([]:List Part),(40::(va [32] (wrL ps)++41::r)).tail) else rowP b n (40::(va [32] (wrL ps)++41::r)).tail)=some (ps,41::r):=by
    show(if (va [32] (wrL ps)++41::r).head? = some 41 then some (([]:List Part),va [32] (wrL ps)++41::r) else rowP b n (va [32] (wrL ps)++41::r))=_;cases ps with
    |nil=>rfl
    |cons q qs =>
     have gq:=g.2;simp only[grL,and_eq_true]at gq;obtain⟨c,t,e3,h3,_⟩:=q3d b q qs gq.1;rw[if_neg (by rw[e3];intro z;cases z;exact h3 rfl)];exact cplL b (q::qs) n (41::r) g.2 (by simp) (by omega) (by simp)
   rw[key];show(if (41::r).head? = some 41 then some (Part.tup (strC (csS nm)) ps,(41::r).tail) else none)=_;rw[if_pos (show(41::r).head? = some 41 from rfl),bc];rfl
theorem cplL (b:Bool):∀(ps:List Part)(n:Nat)(r:Cs),grL b ps=true->ps≠[]->mzL ps<=n->r.head? ≠ some 32->rowP b n (va [32] (wrL ps)++r)=some (ps,r)
 | [],_,_,_,h,_,_=>absurd rfl h
 |p::ps,0,r,_,_,h,_=>by simp[mzL]at h
 |p::ps,n+1,r,g,_,h,hr=>by
  simp only[grL,and_eq_true]at g;simp only[mzL]at h;rw[rowP];cases ps with
  |nil =>
   have e:va [32] (wrL [p])++r=wr1 p++r:=by rw[wrL,wrL,va]
   rw[e,cpl1 b p n r g.1 (by omega)];dsimp only;rw[if_neg hr]
  |cons q qs =>
   have e:va [32] (wrL (p::q::qs))++r=wr1 p++(32::(va [32] (wrL (q::qs))++r)):=by rw[gf [] p _ (by simp)];simp
   rw[e,cpl1 b p n _ g.1 (by omega)];dsimp only;rw[if_pos (show(32::(va [32] (wrL (q::qs))++r)).head? = some 32 from rfl)];show(match rowP b n (va [32] (wrL (q::qs))++r) with|none=>none|some y=>some (p::y.1,y.2))=_;rw[cplL b (q::qs) n r g.2 (by simp) (by omega) hr]
end
mutual
theorem Hr (b:Bool):∀p:Part,gr1 b p=true->mz1 p<=(wr1 p).length
 |.txt s,_=>by simp[mz1,wr1,quoC]
 |.tup n ps,g=>by
  by_cases hn:n = "*"
  ·subst hn;simp only[gr1,if_true,and_eq_true,isEmpty_iff]at g;obtain⟨_,rfl⟩:=g;simp[mz1,mzL,wr1]
  ·simp only[gr1,hn,if_false,and_eq_true]at g;have h1:=Qm b ps g.2;obtain⟨c,t,e,_⟩:=Cj (r:=[]) g.1;rw[append_nil]at e;simp only[mz1,wr1,hn,if_false,e,length_append,length_cons,length_nil];omega
theorem Qm (b:Bool):∀ps:List Part,grL b ps=true->mzL ps<=(va [32] (wrL ps)).length+1
 | [],_=>by simp[mzL]
 |p::ps,g=>by
  simp only[grL,and_eq_true]at g;have h1:=Hr b p g.1;have h2:=Qm b ps g.2;cases ps with
  |nil=>rw[wrL,wrL,va];simp only[mzL];omega
  |cons q qs =>
   rw[gf [] p _ (by simp)];simp only[mzL]at h2 ⊢;simp only[length_append,length_singleton];omega
end
theorem Dj {b:Bool}{n:Nat}{l:Cs}(hn:l.length<n)(p:Part)(r:Cs):sd b n l=some (p,r)↔l=wr1 p++r/\gr1 b p=true:=by
 refine⟨(prsS b n).1 l p r,fun⟨e,g⟩=>?_⟩;rw[e];refine cpl1 b p n r g ?_;have:=Hr b p g;rw[e,length_append]at hn;omega
theorem Kg {b:Bool}{n:Nat}{l:Cs}(hn:l.length+1<n)(ps:List Part)(r:Cs):rowP b n l=some (ps,r)↔ps≠[]/\l=va [32] (wrL ps)++r/\r.head? ≠ some 32/\grL b ps=true:=by
 refine⟨(prsS b n).2 l ps r,fun⟨h1,e,h2,g⟩=>?_⟩;rw[e];refine cplL b ps n r g h1 ?_ h2;have:=Qm b ps g;rw[e,length_append]at hn;omega
theorem Ir {b:Bool}{n m:Nat}{l:Cs}(hn:l.length+1<n)(hm:l.length+1<m):rowP b n l=rowP b m l:=by
 apply Option.ext;rintro⟨p,r⟩;show rowP b n l=some (p,r)↔rowP b m l=some (p,r);rw[Kg hn,Kg hm]
noncomputable def gc (b:Bool)(l:Cs):Option (Part×Cs):=sd b (l.length+1) l
noncomputable def rowF (b:Bool)(l:Cs):Option (List Part×Cs):=rowP b (l.length+2) l
theorem tl_lt {l:Cs}{c:Nat}(h:(l.dropWhile isL).head? = some c)(hn:l.takeWhile isL≠[]):(l.dropWhile isL).tail.length+2<=l.length:=by
 have e:l.takeWhile isL++l.dropWhile isL=l:=takeWhile_append_dropWhile;have h1:=congrArg List.length e;rw[length_append]at h1;have h2:=congrArg List.length (lc h);rw[length_cons]at h2;have h3:0<(l.takeWhile isL).length:=List.length_pos_iff.mpr hn;omega
theorem q3z (b:Bool)(l:Cs):gc b l =
  if l.head? = some 34 then(txtP l.tail).map fun x=>(.txt (strC x.1),x.2)
  else if b=true/\l.head? = some 42 then some (.tup "*" [],l.tail)
  else if l.takeWhile isL=[]\/(l.dropWhile isL).head? ≠ some 40 then none
  else match (if (l.dropWhile isL).tail.head? = some 41 then some ([],(l.dropWhile isL).tail) else rowF b (l.dropWhile isL).tail) with
   |none=>none
   |some x=>if x.2.head? = some 41 then some (.tup (strC (l.takeWhile isL)) x.1,x.2.tail) else none:=by
 unfold gc;rw[sd];split
 ·rfl
 ·split
  ·rfl
  ·split
   ·rfl
   ·rename_i hn;have hn1:l.takeWhile isL≠[]:=fun z=>hn (.inl z);have hn2:(l.dropWhile isL).head? = some 40:=Classical.byContradiction fun z=>hn (.inr z);have:=tl_lt hn2 hn1;unfold rowF;rw[Ir (n:=l.length) (m:=(l.dropWhile isL).tail.length+2) (by omega) (by omega)]
theorem Rm {b:Bool}{l r:Cs}{p:Part}(h:gc b l=some (p,r)):r.length<l.length:=by
 obtain⟨e,g⟩:=(Dj (lt_succ_self _) p r).mp h;obtain⟨c,t,e2,_⟩:=Gr b p g;rw[e,e2];simp;omega
theorem j5h (b:Bool)(l:Cs):rowF b l=match gc b l with
  |none=>none
  |some x=>if x.2.head? = some 32 then(match rowF b x.2.tail with|none=>none|some y=>some (x.1::y.1,y.2)) else some ([x.1],x.2):=by
 unfold rowF;rw[rowP];show(match gc b l with|none=>none|some x=>_)=_;cases hp:gc b l with
 |none=>rfl
 |some x =>
  obtain⟨p,r⟩:=x;have h1:=Rm hp;dsimp only;split
  ·rename_i h32;have h2:=congrArg List.length (lc h32);rw[length_cons]at h2;rw[Ir (n:=l.length+1) (m:=r.tail.length+2) (by omega) (by omega)]
  ·rfl
def Jr:RD:=fun δ Q=>∃ns:List Int,δ=[.ob true (.lst (ns.map .int))]/\∀(x:Int)(ms:List Int),Q false (.int x) [.ob true (.lst (ms.map .int))]
theorem j4g {ns:List Int}{Q:Bool->D->List VL.Slot->Prop}{w:Beh Q}:hold Jr Q w [.ob true (.lst (ns.map .int))] = ∀(x:Int)(ms:List Int),Q false (.int x) [.ob true (.lst (ms.map .int))] :=
 propext ⟨fun⟨_,_,h⟩=>h,fun h=>⟨ns,rfl,h⟩⟩
def Kr:RD:=fun δ Q=>∃n:Int,δ=[.fz (.int n)]/\∀z:Str,txs.contains z=true->Q false (.str z) [.no]
theorem x9l {n:Int}{Q:Bool->D->List VL.Slot->Prop}{w:Beh Q}:hold Kr Q w [.fz (.int n)] = ∀z:Str,txs.contains z=true->Q false (.str z) [.no] :=
 propext ⟨fun⟨_,e,h⟩=>h,fun h=>⟨n,rfl,h⟩⟩
local macro_rules|`(tactic| walk_at "vd")=>do
 let u<-("reduceIte x8g x4s x5i y2k z8j z9g z8m x8t z8q z8f x9z x8f q1u x5j j1r x9d x6a x5l j0l x5q x6l z6j x9b z8y z8u z6s j1k q0e j5n z9c y2n v_if j4n v_c j5f v_mv v_op j3w j3n x7h q9z j1j v_or x7a x5f x9e j4c j4e q9q x7k j4d j2q v_CB j2u q9k v_mt v_gN z8d z9b z8c x7y j4q y2o z9k z8e x5u z8k x6p v_aV v_aO z6t v_oN v_oS x7r j1z q9x x6h z8t q9w x4p v_I v_Ic z8z z8n z9a z8b j2n q2e j0h j3j q1j x5a j4a x6m y2m x6t x5h j3o z6k q2a q0n z8g z9f z6n z8p z6o z6q j5i z3s z3u z3h z3j z2r z3z z3x z3l z3k z2s z3t z3y z3g z3f z2q z8v x4n j3e x8u j5a z8i".splitOn " ").mapM fun n=>`(Lean.Parser.Tactic.simpLemma| ↓ $(Lean.mkIdent n.toName):term);let v<-("j4g x9l z5p z5l z5q j3m j1n outS z6p z5n z5j List.map_cons List.map_nil List.length_cons List.length_nil Nat.reduceAdd List.replicate_succ List.replicate_zero List.cons_append List.nil_append List.append_nil List.drop_succ_cons List.drop_zero List.filter_cons List.filter_nil Option.isNone_none Option.isNone_some and_true true_and decide_eq_true_eq Bool.true_eq_false Bool.false_eq_true Bool.not_true Bool.not_false Bool.not_eq_eq_eq_not decide_true decide_false if_true if_false eq_self Int.zero_add List.isEmpty_nil List.isEmpty_cons not_true_eq_false not_false_eq_true false_and and_false Option.isSome_none Option.isSome_some z5x fgt List.set_cons_zero List.set_cons_succ".splitOn " ").mapM fun n=>`(Lean.Parser.Tactic.simpLemma| $(Lean.mkIdent n.toName):term)
 `(tactic|((try dsimp only[$((u.drop 1++v).toArray),*]);(try simp only[$((u++v).toArray),*])))
structure Zs (K:W.Frag)(mg:Str->Option Value):Prop where
 z_list:mg "list" = none
 z_reversed:mg "reversed" = none
 z_isinstance:mg "isinstance" = none
 z_str:mg "str" = none
 z_len:mg "len" = none
 z_int:mg "int" = none
 z_bool:mg "bool" = none
 z_range:mg "range" = none
 z_tuple:mg "tuple" = none
 z_dict:mg "dict" = none
 z_all:mg "all" = none
 z_enumerate:mg "enumerate" = none
 z_ord:mg "ord" = none
 z_zip:mg "zip" = none
 g_TEXT_SIGN:∃t,mg "TEXT_SIGN" = some (.str "#" t)
 g_STAR:∃t,mg "STAR" = some (.str "*" t)
 g_QUOTE:∃t,mg "QUOTE" = some (.str "\"" t)
 t_QUOTE:∃t,mg "QUOTE" = some (.str "\"" t)/\1<=t/\t<tk0
 g_NOTHING:∃t,mg "NOTHING" = some (.str "-" t)
 g_FIRST_SIGN:∃t,mg "FIRST_SIGN" = some (.int 32 t)
 g_LAST_SIGN:∃t,mg "LAST_SIGN" = some (.int 126 t)
 g_PERCENT:∃t,mg "PERCENT" = some (.int 37 t)
 kit:Wk K
mutual
noncomputable def pD:Part->D
 |.txt s=>.str s
 |.tup n ps=>.tup [.str n,.lst (pDs ps)]
noncomputable def pDs:List Part->List D
 | []=>[]
 |p::ps=>pD p::pDs ps
end
theorem Yc:∀ps:List Part,pDs ps=ps.map pD
 | []=>rfl
 |p::ps=>by rw[pDs,Yc ps];rfl
theorem Lg (ps:List Part):(pDs ps).length=ps.length:=by rw[Yc];simp
def abc:List Nat:=("abcdefghijklmnopqrstuvwxyz":Str).cps.toList
theorem abcOk:∀c∈abc,97<=c/\c<=122:=by decide +kernel
theorem Sm:abc.length=26:=by decide +kernel
noncomputable def letF (i:Int):Nat:=abc.getD (i % 26).toNat 0
theorem Lr (i:Int):atI abc (i % 26)=some (letF i):=by
 have h1:=jc (a:=i) (b:=26) (by decide);have h2:=kc (a:=i) (b:=26) (by decide);have e:(i % 26)=(((i % 26).toNat:Nat):Int):=by omega
 have hl:(i % 26).toNat<abc.length:=by rw[Sm];omega
 rw[e,wc (getElem?_eq_getElem hl)];unfold letF;rw[getD_eq_getElem?_getD,getElem?_eq_getElem hl];rfl
theorem Mr (i:Int):97<=letF i/\letF i<=122:=by
 have h1:=jc (a:=i) (b:=26) (by decide);have h2:=kc (a:=i) (b:=26) (by decide);have hl:(i % 26).toNat<abc.length:=by rw[Sm];omega
 unfold letF;rw[getD_eq_getElem?_getD,getElem?_eq_getElem hl];exact abcOk _ (getElem_mem hl)
noncomputable def Jb (n:Int):Str:=join "" ((range (n % 5).toNat).map fun(k:Nat)=>(⟨#[letF (n / 150+(k:Int) * k)]⟩:Str))
noncomputable def atF (n:Int):Int:=n / 5 % ((Jb n).length+1)
noncomputable def Ej (k n:Int):Str:=Txt.slice (Jb n) none (some (atF n))++⟨#[letF (k+n)]⟩++Txt.slice (Jb n) (some (atF n)) none
theorem Nr (k n:Int):(Ej k n).cps.toList=(Txt.slice (Jb n) none (some (atF n))).cps.toList++letF (k+n)::(Txt.slice (Jb n) (some (atF n)) none).cps.toList:=by
 show(((Txt.slice (Jb n) none (some (atF n))).cps++#[letF (k+n)])++(Txt.slice (Jb n) (some (atF n)) none).cps).toList=_;simp
theorem q3j (n:Nat):rngD 0 n=(range n).map fun(k:Nat)=>D.int (k:Int):=by simp[rngD]
theorem q4h (g:Nat->Nat)(l:List Nat):((l.map fun(k:Nat)=>(⟨#[g k]⟩:Str)).map (·.length)).sum=l.length:=by
 induction l with
 |nil=>rfl
 |cons a r ih=>simp only[map_cons,sum_cons,ih,length_cons];show 1+_=_;omega
theorem Str.len_app (a b:Str):(a++b).length=a.length+b.length:=by
 show(a.cps++b.cps).size=_;rw[Array.size_append];rfl
theorem Pr {x:Str}{l u:Option Int}{c:Nat}(h:c∈(Txt.slice x l u).cps.toList):c∈x.cps.toList:=by
 unfold Txt.slice at h;split at h
 ·exact h
 ·simp only[mem_filterMap]at h;obtain⟨i,_,hi⟩:=h;exact Array.mem_toList_iff.mpr (Array.mem_of_getElem? hi)
def AbcS (s:Str):Prop:=s.length<=20/\s.cps.toList≠[]/\∀c∈s.cps.toList,97<=c/\c<=122
theorem q0d (k n:Int):AbcS (Ej k n):=by
 have m1:=jc (a:=n) (b:=5) (by decide);have m2:=kc (a:=n) (b:=5) (by decide);have hb:(Jb n).length<=5:=by
  have:=W.KT.join_ones ((range (n % 5).toNat).map fun(k:Nat)=>(⟨#[letF (n / 150+(k:Int) * k)]⟩:Str)) (fun t ht=>by obtain⟨k,_,rfl⟩:=mem_map.mp ht;rfl);have e:(Jb n).length=_:=this;simp at e;omega
 have hm:∀c∈(Jb n).cps.toList,97<=c/\c<=122:=fun c hc=>by
  have eb:Jb n=⟨((range (n % 5).toNat).map fun(k:Nat)=>letF (n / 150+(k:Int) * k)).toArray⟩:=by
   rw[<-join_ones,<-glued_eq_join,List.map_map];rfl
  rw[eb]at hc;obtain⟨k,_,rfl⟩:=mem_map.mp (show c∈(range (n % 5).toNat).map fun(k:Nat)=>letF (n / 150+(k:Int) * k) by simpa using hc);exact Mr _
 have g1:=slice_le (Jb n) none (some (atF n));have g2:=slice_le (Jb n) (some (atF n)) none;have l1:(⟨#[letF (k+n)]⟩:Str).length=1:=rfl;refine⟨?_,?_,fun c hc=>?_⟩
 ·unfold Ej;rw[Str.len_app,Str.len_app];omega
 ·rw[Nr];simp
 ·rw[Nr]at hc;rcases mem_append.mp hc with hc|hc
  ·exact hm c (Pr hc)
  ·rcases mem_cons.mp hc with rfl|hc
   ·exact Mr _
   ·exact hm c (Pr hc)
def NameOk (z:Str):Prop:=nm20 z=true
theorem NameOk.ne {z:Str}(h:NameOk z):z ≠ "*":=by
 rintro rfl;exact absurd (show nm20 "*" = true from h) (by decide +kernel)
theorem q5m (k n:Int):NameOk (Ej k n):=by
 obtain⟨h1,h2,h3⟩:=q0d k n;unfold NameOk nm20 isNm;rw[and_eq_true,and_eq_true];refine⟨⟨decide_eq_true h2,all_eq_true.mpr fun c hc=>?_⟩,decide_eq_true h1⟩;obtain⟨a,b⟩:=h3 c hc;unfold isL;rw[decide_eq_true a,decide_eq_true b];rfl
def x8:RD:=fun δ Q=>∃k n:Int,δ=[.fz (.int k),.fz (.int n)]/\∀z:Str,NameOk z->Q false (.str z) [.no,.no]
theorem j0b {lo:Int}{n:Nat}{d:D}(h:d∈rngD lo n):∃k:Nat,k<n/\d=.int (lo+k):=by
 obtain⟨k,hk,rfl⟩:=mem_map.mp h;exact⟨k,mem_range.mp hk,rfl⟩
theorem Fj {n:Nat}{d:D}(h:d∈rngD 0 n):∃k:Nat,k<n/\d=.int k:=by
 obtain⟨k,hk,rfl⟩:=j0b h;exact⟨k,hk,by rw[Int.zero_add]⟩
theorem Um (lo:Int)(n:Nat):(rngD lo n).length=n:=by simp[rngD]
theorem Mg {α:Type}(f g:α->D)(xs:List α){te:TEd}{Q:Bool->D->List VL.Slot->Prop}{δ:List VL.Slot}(hl:xs.length<=sizeLine)
  (h:∀x∈xs,∀P:D->List VL.Slot->Prop,P (g x) (.fz (f x)::δ)->te (.fz (f x)::δ) fun _ y δ'=>P y δ')(q:Q true (.lst (xs.map g)) δ):qh 1 (xs.map f) (dgN 0) dYes te Q δ:=by
 refine⟨fun r acc δ1=>δ1=δ/\∃pre suf,xs=pre++suf/\r=suf.map f/\acc=pre.map g,⟨rfl,[],xs,rfl,rfl,rfl⟩,?_,?_⟩
 ·rintro d r acc δ1 ⟨rfl,pre,suf,e,er,rfl⟩;cases suf with
  |nil=>cases er
  |cons x suf =>
   cases er;refine⟨trivial,?_⟩;unfold dYes;dsimp only;rw[if_pos rfl];have hlen:pre.length<sizeLine:=by rw[e]at hl;simp at hl;omega
   exact h x (by rw[e];simp) (fun y δ4=>(pre.map g).length<sizeLine/\drop 1 δ4=δ1/\∃pre' suf',xs=pre'++suf'/\suf.map f=suf'.map f/\pre.map g++[y]=pre'.map g) ⟨by simpa using hlen,rfl,pre++[x],suf,by rw[e];simp,rfl,by simp⟩
 ·rintro acc δ1 ⟨rfl,pre,suf,e,er,rfl⟩;have es:suf=[]:=by simpa using er.symm
  subst es;simp at e;subst e;exact q
section
variable {P:Program}{w:World}{K:W.Frag}{mg:Str->Option Value}{base:Heap}{f:Addr}{fd:FuncData}
theorem Vm (E:Ent K mg "_law_pop" yg ["_law_draws_here"] f fd)(T:Zs K mg):FnOk P w K mg base CX0 1 f fd ["_law_draws_here"] (spD Jr):=by
 refine VL.Fun.dok E.F y9k (fun δ Qd h=>?_) (by decide) (fun cdv A outer s H E δ Qd hr h=>?_)
 ·obtain⟨ns,rfl,_⟩:=h;rfl
 ·obtain⟨ns,rfl,q⟩:=h;have hu:=Qb hr;refine⟨_,(ka (Ia (gh (fh hu) cg (pv 0) (Pa ba) (za _)) (ma (Ba ia)) Ma)
   (ma (Ba (Yk gl slot_list_pop type_list_pop Di (pv 0))))),?_⟩
  walk_at "vd";refine⟨by decide,?_⟩;cases ns with
  |nil=>exact iteT (q 0 [])
  |cons a r =>
   have hlt:(a::r).length - 1<(a::r).length:=by simp
   refine iteF ⟨.int (a::r)[(a::r).length - 1],?_,?_⟩
   ·rw[getElem?_map,length_map,getElem?_eq_getElem hlt];rfl
   ·have:=q (a::r)[(a::r).length - 1] (a::r).dropLast;rwa [List.map_dropLast]at this
theorem j1o (E:Ent K mg "_law_text" Ag ["_law_number"] f fd)(T:Zs K mg):FnOk P w K mg base CX0 1 f fd ["_law_number"] (spD Kr):=by
 refine VL.Fun.dok E.F Vq (fun δ Qd h=>?_) (by decide) (fun cdv A outer s H E δ Qd hr h=>?_)
 ·obtain⟨ns,rfl,_⟩:=h;rfl
 ·obtain⟨n,rfl,q⟩:=h;refine⟨_,(ka (Aa (i:=1) Vq.nd rfl (Or.inl rfl) (Pa (aa qa (aa qa (aa qa (aa qa (aa qa (aa qa (aa qa (aa qa (aa qa (aa qa (aa qa ba)))))))))))))
   (ma (Ba (Ha ub gb (pv 1) (ja Xa Wa (dv 0) (Ib md Gc rfl T.z_len PySem.boot_len (pv 1))) (fun _ _=>rfl))))),?_⟩
  walk_at "vd";obtain⟨d,hd,e⟩:=Me (xs:=[D.str "",D.str "x",D.str "\"",D.str "\\",D.str "a b",D.str "\\q",D.str " ",D.str "~<*#",D.str "word(\"",D.str "q\\\\\"",D.str "- | ?"]) (jc (a:=n) (b:=11) (by decide)) (kc (by decide));refine⟨by decide,by decide,d,e,?_⟩;simp only[mem_cons,not_mem_nil,or_false]at hd;rcases hd with rfl|rfl|rfl|rfl|rfl|rfl|rfl|rfl|rfl|rfl|rfl<;>exact q _ (by decide +kernel)
theorem q9r (E:Ent K mg "_law_name" zg ["_law_k","_law_draw"] f fd)(T:Zs K mg):FnOk P w K mg base CX0 1 f fd ["_law_k","_law_draw"] (spD x8):=by
 refine VL.Fun.dok E.F lj (fun δ Qd h=>?_) (by decide) (fun cdv A outer s H E δ Qd hr h=>?_)
 ·obtain⟨_,_,rfl,_⟩:=h;rfl
 ·obtain⟨kk,n,rfl,q⟩:=h;refine⟨_,(ka (Aa (i:=2) lj.nd rfl (Or.inr rfl) qa)
   (ka (Aa (i:=3) lj.nd rfl (Or.inl rfl) (oh qa (re ["_law_j"] ["_law_k","_law_draw","_law_letters","_law_base","_law_at"] rfl (show CScopeG (ya zg) ["_law_k","_law_draw","_law_letters","_law_base","_law_at"] ["_law_j"] _ _ from⟨rfl,by decide +kernel,by decide +kernel,by decide +kernel,by decide +kernel⟩) (qe rfl T.z_range (aa (ja Xa Wa (dv 1) ia) ba)) (fun _ _ _ _ _=>(Jc (i:=0) (by decide) (show List.Nodup (["_law_j","_law_k","_law_draw","_law_letters","_law_base","_law_at"]:List Str) from by decide +kernel) rfl (Or.inl rfl))) (fun _ _ _ _ _=>Sd) (fun _ _ _ _ _=>(Ha Af He (pv 3) (ja Xa Wa (ja La Ka (ja Pc Oc (dv 2) ia) (ja Ke De (dv 0) (dv 0))) ia) (fun _ _=>rfl))))))
   (ka (Aa (i:=4) lj.nd rfl (Or.inl rfl) (ja Xa Wa (ja Pc Oc (dv 1) ia) (ja La Ka (Ib ke de rfl T.z_len PySem.boot_len (pv 3)) ia)))
   (ma (Ba (ja Db Bb (ja Db Bb (vb (dv 3) jb (Fa (dv 4))) (Ha Af He (pv 2) (ja Xa Wa (ja La Ka (dv 0) (dv 1)) ia) (fun _ _=>rfl))) (vb (dv 3) (Fa (dv 4)) jb))))))),?_⟩
  have hLL:("abcdefghijklmnopqrstuvwxyz":Str).cps.toList=abc:=rfl;have hll:("abcdefghijklmnopqrstuvwxyz":Str).length=26:=Sm;generalize ("abcdefghijklmnopqrstuvwxyz":Str)=letters at hLL hll ⊢;have sz:=Sa;have m1:=jc (a:=n) (b:=5) (by decide);have m2:=kc (a:=n) (b:=5) (by decide);walk_at "vd";rw[q3j];refine⟨by decide,by omega,by omega,Mg (fun k:Nat=>D.int (k:Int)) (fun k:Nat=>.str (⟨#[letF (n / 150+(k:Int) * k)]⟩:Str)) (range (n % 5).toNat) (by simp;omega) (fun k hk P hP=>?_) ?_⟩
  ·have hk':=mem_range.mp hk;walk_at "vd";refine⟨⟨by decide,by decide⟩,.inl ⟨by omega,by omega⟩,by decide,by omega,_,by rw[hLL];exact Lr _,hP⟩
  ·refine⟨(range (n % 5).toNat).map fun(k:Nat)=>(⟨#[letF (n / 150+(k:Int) * k)]⟩:Str),by simp,joinOk_of_weight ?_ (by decide),?_⟩
   ·have:=q4h (fun k=>letF (n / 150+(k:Int) * k)) (range (n % 5).toNat);rw[this];simp;omega
   ·have hb:(Jb n).length<=10:=by
     have:=W.KT.join_ones ((range (n % 5).toNat).map fun(k:Nat)=>(⟨#[letF (n / 150+(k:Int) * k)]⟩:Str)) (fun t ht=>by obtain⟨k,_,rfl⟩:=mem_map.mp ht;rfl);have e:(Jb n).length=_:=this;simp at e;omega
    show _;rw[show join (Str.ofString "") ((range (n % 5).toNat).map fun(k:Nat)=>(⟨#[letF (n / 150+(k:Int) * k)]⟩:Str))=Jb n from rfl];walk_at "vd";have g1:=slice_le (Jb n) none (some (atF n));have g2:=slice_le (Jb n) (some (atF n)) none;have l1:(⟨#[letF (kk+n)]⟩:Str).length=1:=rfl;have l2:=Str.len_app (Txt.slice (Jb n) none (some (atF n))) ⟨#[letF (kk+n)]⟩;have l3:=Str.len_app (Txt.slice (Jb n) none (some (atF n))++⟨#[letF (kk+n)]⟩) (Txt.slice (Jb n) (some (atF n)) none);rw[show n / 5 % (((Jb n).length:Int)+1)=atF n from rfl];exact⟨⟨by decide,by decide⟩,by omega,by omega,by omega,by decide,by omega,_,by rw[hLL];exact Lr _,by omega,by omega,by omega,q _ (q5m _ _)⟩
def x6i:RD:=fun δ Q=>∃n:Int,δ=[.fz (.int n)]/\∀zs:List Str,zs.length=8->(∀z∈zs,NameOk z)->Q true (.lst (zs.map .str)) [.no]
theorem j5y {k n:Int}{Q:Bool->D->List VL.Slot->Prop}{w:Beh Q}:hold x8 Q w [.fz (.int k),.fz (.int n)] = ∀z:Str,NameOk z->Q false (.str z) [.no,.no] :=
 propext ⟨fun⟨_,_,e,h⟩=>h,fun h=>⟨k,n,rfl,h⟩⟩
theorem q4c {ds ys:List D}(h:All2 (fun _ y=>∃z:Str,y=.str z/\NameOk z) ds ys):∃ts:List Str,ys=ts.map .str/\(∀t∈ts,NameOk t)/\ts.length=ds.length:=by
 induction h with
 |nil=>exact⟨[],rfl,fun t h=>(by cases h),rfl⟩
 |cons g _ ih =>
  obtain⟨z,rfl,hz⟩:=g;obtain⟨ts,rfl,h1,h2⟩:=ih;refine⟨z::ts,rfl,fun t ht=>?_,by simp[h2]⟩;rcases mem_cons.mp ht with rfl|ht
  ·exact hz
  ·exact h1 t ht
theorem q3y {f1:Addr}{fd1:FuncData}(E:Ent K mg "_law_names" Fh ["_law_draw"] f fd)(T:Zs K mg)(u2q:Ent K mg "_law_name" zg ["_law_k","_law_draw"] f1 fd1):FnOk P w K mg base CX0 2 f fd ["_law_draw"] (spD x6i):=by
 have u6g:=q9r (P:=P) (w:=w) (base:=base) u2q T;refine VL.Fun.dok E.F y5o (fun δ Qd h=>?_) (by decide) (fun cdv A outer s H E δ Qd hr h=>?_)
 ·obtain⟨_,rfl,_⟩:=h;rfl
 ·obtain⟨n,rfl,q⟩:=h;refine⟨_,(ma (Ba (re ["_law_k"] ["_law_draw"] rfl (show CScopeG (ya Fh) ["_law_draw"] ["_law_k"] _ _ from⟨rfl,by decide +kernel,by decide +kernel,by decide +kernel,by decide +kernel⟩) (qe rfl T.z_range (aa ia ba)) (fun _ _ _ _ _=>(Jc (i:=0) (by decide) (show List.Nodup (["_law_k","_law_draw"]:List Str) from by decide +kernel) rfl (Or.inl rfl))) (fun _ _ _ _ _=>Sd) (fun _ _ _ _ _=>(Va u6g (hr.mono (by decide)) rfl u2q.g u2q.F.kp u2q.b Ea (aa (dv 0) (aa (dv 1) ba))))))),?_⟩;have sz:=Sa;walk_at "vd";refine⟨by decide,by decide,iq (fun _ y=>∃z:Str,y=.str z/\NameOk z) (by rw[Um];show(8:Nat)<=_;omega) (fun d hd P hP=>?_) fun ys hys=>?_⟩
  ·obtain⟨k,hk,rfl⟩:=Fj hd;walk_at "vd";rw[j5y];intro z hz;exact hP _ ⟨z,rfl,hz⟩
  ·obtain⟨ts,rfl,h1,h2⟩:=q4c hys;rw[Um]at h2;exact q ts h2 h1
def q6j:RD:=fun δ Q=>∃p:Part,δ=[.fz (pD p)]/\Q false (.str (Pe p)) [.no]
theorem j2a (E:Ent K mg "sign_of" Re ["part"] f fd)(T:Zs K mg):FnOk P w K mg base CX0 1 f fd ["part"] (spD q6j):=by
 refine VL.Fun.dok E.F x3r (fun δ Qd h=>?_) (by decide) (fun cdv A outer s H E δ Qd hr h=>?_)
 ·obtain⟨ns,rfl,_⟩:=h;rfl
 ·obtain⟨p,rfl,q⟩:=h;refine⟨_,(ma (Ba (Li (Vb (Ob (Ic T.kit) (yc (K:=K) rfl) rfl T.z_isinstance boot_isinstance (aa (dv 0) (aa (Hc rfl T.z_str boot_str) ba)))) (ue rfl T.g_TEXT_SIGN) (Ha Eb ib (pv 0) ia (fun _ _=>rfl))))),?_⟩;cases p with
  |txt z =>
   simp only[pD];walk_at "vd";exact q
  |tup n ps =>
   simp only[pD];walk_at "vd";exact q
mutual
noncomputable def dp1:Part->Nat
 |.txt _=>0
 |.tup _ ps=>dpL ps+1
noncomputable def dpL:List Part->Nat
 | []=>0
 |p::ps=>max (dp1 p) (dpL ps)
end
mutual
noncomputable def st1:Part->Nat
 |.txt _=>0
 |.tup n ps=>(if n = "*" then 1 else 0)+stL ps
noncomputable def stL:List Part->Nat
 | []=>0
 |p::ps=>st1 p+stL ps
end
mutual
noncomputable def jf:Part->List Part
 |.txt s=>[.txt s]
 |.tup n ps=>.tup n ps::Lc ps
noncomputable def Lc:List Part->List Part
 | []=>[]
 |p::ps=>jf p++Lc ps
end
theorem y8d (ps qs:List Part):Lc (ps++qs)=Lc ps++Lc qs:=by
 induction ps with
 |nil=>rfl
 |cons p ps ih=>simp[Lc,ih]
mutual
theorem x8h:∀p:Part,(jf p).length=Qa p
 |.txt _=>rfl
 |.tup _ ps=>by simp[jf,Qa,bi ps];omega
theorem bi:∀ps:List Part,(Lc ps).length=Da ps
 | []=>rfl
 |p::ps=>by simp[Lc,Da,x8h p,bi ps]
end
mutual
theorem x3f:∀p:Part,((jf p).filter fun q=>decide (Pe q = "*")).length=st1 p
 |.txt z=>by
  have:decide (Pe (.txt z) = "*")=false:=(show decide (("#":Str) = "*")=false by decide +kernel);simp[jf,st1,filter_cons,this]
 |.tup n ps=>by
  have:=Wm ps;have e:Pe (.tup n ps)=n:=rfl;simp only[jf,st1,filter_cons,e];by_cases h:n = "*"
  ·simp only[h,decide_true,if_true,length_cons,this];omega
  ·simp only[h,decide_false,if_false,Bool.false_eq_true,this];omega
theorem Wm:∀ps:List Part,((Lc ps).filter fun q=>decide (Pe q = "*")).length=stL ps
 | []=>rfl
 |p::ps=>by simp[Lc,stL,filter_append,x3f p,Wm ps]
end
theorem ci (ps qs:List Part):dpL (ps++qs)=max (dpL ps) (dpL qs):=by
 induction ps with
 |nil=>simp[dpL]
 |cons p ps ih=>simp only[dpL,ih,cons_append];omega
theorem Ng (ps qs:List Part):stL (ps++qs)=stL ps+stL qs:=by
 induction ps with
 |nil=>simp[stL]
 |cons p ps ih=>simp[stL,ih];omega
theorem Gj (ps qs:List Part):smL (ps++qs)=(smL ps&&smL qs):=by
 induction ps with
 |nil=>simp[smL]
 |cons p ps ih=>simp[smL,ih,Bool.and_assoc]
theorem Xm:∀ps:List Part,(∀p∈ps,sm1 p=true)->smL ps=true
 | [],_=>rfl
 |p::ps,h=>by simp[smL,h p mem_cons_self,Xm ps fun q hq=>h q (mem_cons_of_mem _ hq)]
def PlOk:Nat->List Part->Prop
 |0,ps=>ps.length<=3/\∀p∈ps,∃z:Str,txs.contains z=true/\p=.txt z
 |d+1,ps=>ps.length<=3/\∀p∈ps,(∃z:Str,txs.contains z=true/\p=.txt z) \/ ∃n qs,p=.tup n qs/\NameOk n/\PlOk d qs
noncomputable def szP:Nat->Nat
 |0=>3
 |d+1=>3 * (1+szP d)
theorem Ym {f:Part->Nat}{B:Nat}:∀ps:List Part,(∀p∈ps,f p<=B)->(ps.map f).sum<=ps.length * B
 | [],_=>by simp
 |p::ps,h=>by
  have h1:=h p mem_cons_self;have h2:=Ym ps fun q hq=>h q (mem_cons_of_mem _ hq);simp only[map_cons,sum_cons,length_cons,Nat.add_mul,Nat.one_mul];omega
theorem Zm:∀ps:List Part,Da ps=(ps.map Qa).sum
 | []=>rfl
 |p::ps=>by simp[Da,Zm ps]
theorem bn:∀ps:List Part,(∀p∈ps,st1 p=0)->stL ps=0
 | [],_=>rfl
 |p::ps,h=>by simp[stL,h p mem_cons_self,bn ps fun q hq=>h q (mem_cons_of_mem _ hq)]
theorem Hj {B:Nat}:∀ps:List Part,(∀p∈ps,dp1 p<=B)->dpL ps<=B
 | [],_=>zero_le _
 |p::ps,h=>by
  have h1:=h p mem_cons_self;have h2:=Hj ps fun q hq=>h q (mem_cons_of_mem _ hq);simp only[dpL];omega
theorem PlOk.all:∀(d:Nat)(ps:List Part),PlOk d ps->Da ps<=szP d/\stL ps=0/\dpL ps<=d
 |0,ps,⟨h1,h2⟩=>by
  have key:∀p∈ps,Qa p<=1/\st1 p=0/\dp1 p<=0:=fun p hp=>by obtain⟨z,hz,rfl⟩:=h2 p hp;exact⟨le_refl _,rfl,le_refl _⟩
  refine⟨?_,bn ps fun p hp=>(key p hp).2.1,Hj ps fun p hp=>(key p hp).2.2⟩;have:=Ym (f:=Qa) (B:=1) ps fun p hp=>(key p hp).1;rw[Zm];simp only[szP];omega
 |d+1,ps,⟨h1,h2⟩=>by
  have key:∀p∈ps,Qa p<=1+szP d/\st1 p=0/\dp1 p<=d+1:=fun p hp=>by
   rcases h2 p hp with ⟨z,hz,rfl⟩|⟨n,qs,rfl,hn,hq⟩
   ·exact⟨by simp only[Qa];omega,rfl,zero_le _⟩
   ·obtain⟨a,b,c⟩:=PlOk.all d qs hq;simp[Qa,st1,dp1,hn.ne,b];omega
  refine⟨?_,bn ps fun p hp=>(key p hp).2.1,Hj ps fun p hp=>(key p hp).2.2⟩;have h3:=Ym (f:=Qa) (B:=1+szP d) ps fun p hp=>(key p hp).1;have h4:ps.length * (1+szP d)<=3 * (1+szP d):=Nat.mul_le_mul_right _ h1;rw[Zm];simp only[szP];omega
theorem PlOk.ok:∀(d:Nat)(ps:List Part),PlOk d ps->smL ps=true
 |0,ps,⟨_,h2⟩=>Xm ps fun p hp=>by obtain⟨z,hz,rfl⟩:=h2 p hp;exact hz
 |d+1,ps,⟨_,h2⟩=>Xm ps fun p hp=>by
  rcases h2 p hp with ⟨z,hz,rfl⟩|⟨n,qs,rfl,hn,hq⟩
  ·exact hz
  ·simp only[sm1,hn.ne,if_false,show nm20 n=true from hn,PlOk.ok d qs hq,Bool.and_self]
theorem dn (ps qs:List Part):pDs (ps++qs)=pDs ps++pDs qs:=by simp[Yc]
theorem Og {k:Nat}{ps:List Str}{R:RD}(h:∀δ Q,¬R δ Q):FnOk P w K mg base CX0 k f fd ps (spD R) :=
 ⟨fun vs H Q E q=>by obtain⟨_,_,_,_,_,_,_,z,_⟩:=q;exact(h _ _ z).elim,fun A outer s H args us vs Q E _ _ _ _ q=>by obtain⟨_,_,_,_,_,_,_,z,_⟩:=q;exact(h _ _ z).elim⟩
def Qr (n:Nat):RD:=fun δ Q=>∃(zs:List Str)(ns:List Int)(dp:Nat),δ=[.fz (.lst (zs.map .str)),.ob true (.lst (ns.map .int)),.fz (.int dp)]/\dp<n/\zs.length=8/\(∀z∈zs,NameOk z) /\
 ∀(ps:List Part)(ms:List Int),PlOk dp ps->Q true (.lst (pDs ps)) [.no,.ob true (.lst (ms.map .int)),.no]
theorem en {n:Nat}{zs:List Str}{ns:List Int}{dp:Int}{Q:Bool->D->List VL.Slot->Prop}(j:Nat)(hj:dp=j)(hn:j<n)(hz:zs.length=8)(ok:∀z∈zs,NameOk z)(h:∀(ps:List Part)(ms:List Int),PlOk j ps->Q true (.lst (pDs ps)) [.no,.ob true (.lst (ms.map .int)),.no]) :
  Qr n [.fz (.lst (zs.map .str)),.ob true (.lst (ns.map .int)),.fz (.int dp)] Q:=⟨zs,ns,j,by rw[hj],hn,hz,ok,h⟩
theorem Rr {f1 f2:Addr}{fd1 fd2:FuncData}(u0h:Ent K mg "_law_plain" Gh ["_law_names_here","_law_draws_here","_law_deep"] f fd)(T:Zs K mg)(u0g:Ent K mg "_law_pop" yg ["_law_draws_here"] f1 fd1)(u1q:Ent K mg "_law_text" Ag ["_law_number"] f2 fd2):∀n,FnOk P w K mg base CX0 (n+2) f fd ["_law_names_here","_law_draws_here","_law_deep"] (spD (Qr n)):=by
 have u2v:=Vm (P:=P) (w:=w) (base:=base) u0g T;have u6h:=j1o (P:=P) (w:=w) (base:=base) u1q T;intro n;induction n with
 |zero=>exact Og fun δ Q h=>by obtain⟨_,_,_,_,h,_⟩:=h;exact not_lt_zero _ h
 |succ n u3w =>
 refine VL.Fun.dok u0h.F mj (fun δ Qd h=>?_) (by decide) (fun cdv A outer s H E δ Qd hr h=>?_)
 ·obtain⟨_,_,_,rfl,_⟩:=h;rfl
 ·obtain⟨zs,ns,dp,rfl,hdp,hz,ok,q⟩:=h;refine⟨_,(ka (Aa (i:=3) mj.nd rfl (Or.inl rfl) (Pa ba))
   (ka (pd PassesOwn.never rfl (qe rfl T.z_range (aa (ja Xa Wa (Pd (i:=1) u2v (hr.mono (by omega)) rfl u0g.g u0g.F.kp u0g.b Ea (da_o (pv 1) Md)) ia) ba)) (Pb (i:=4) mj.nd rfl (Or.inl rfl)) (ka (Aa (i:=5) mj.nd rfl (Or.inl rfl) (Pd (i:=1) u2v (hr.mono (by omega)) rfl u0g.g u0g.F.kp u0g.b Ea (da_o (pv 1) Md)))
   (ma (Ia (dt_w (yd (Ga cb Ra (ja Xa Wa (dv 5) ia) ia (za _)) (je (Ga cb Ra (dv 2) ia (za _))))) (ma (Tb (Sb ac PySem.F.slot_list_append PySem.F.type_list_append zb (pv 3) (aa (Va u6h (hr.mono (by omega)) rfl u1q.g u1q.F.kp u1q.b Ea (aa (ja Pc Oc (dv 5) ia) ba)) ba)))) (ma (Tb (Sb ac PySem.F.slot_list_append PySem.F.type_list_append zb (pv 3) (aa (Rb (aa (Ha ub gb (pv 0) (ja Xa Wa (ja Pc Oc (dv 5) ia) (Ib md Gc rfl T.z_len PySem.boot_len (pv 0))) (fun _ _=>rfl)) (aa (Pd (i:=1) u3w (hr.mono (by omega)) rfl u0h.g u0h.F.kp u0h.b Ea (da_v (dv 0) (da_o (pv 1) (da_v (ja j7n j8k (dv 2) ia) Md)))) ba))) ba))))))))
   (ma (Ba (dm 3))))),?_⟩
  have sz:=Sa;walk_at "vd";refine⟨by decide,fun x ms=>?_⟩;have m1:=jc (a:=x) (b:=4) (by decide);have m2:=kc (a:=x) (b:=4) (by decide);refine⟨by decide,by omega,by omega,Df [4,5] (fun i δ=>∃ms ps,ps.length=i/\(∀p∈ps,(∃z:Str,txs.contains z=true/\p=.txt z) \/ ∃n qs,p=.tup n qs/\NameOk n/\∃d,dp=d+1/\PlOk d qs)/\δ=[.fz (.lst (zs.map .str)),.ob true (.lst (ms.map .int)),.fz (.int dp),.ob false (.lst (pDs ps)),.no,.no]) ⟨ms,[],rfl,fun p h=>(by cases h),rfl⟩ ?_ ?_⟩
  ·rintro i δ hi ⟨ms,ps,hl,hp,rfl⟩;walk_at "vd";intro x ms;have hpl:=Lg ps;have txt:∀z:Str,txs.contains z=true->(pDs ps).length<sizeLine/\∃(ms_1:List Int)(ps_1:List Part),ps_1.length=i+1/\(∀p∈ps_1,(∃z:Str,txs.contains z=true/\p=Part.txt z) \/ ∃n qs,p=Part.tup n qs/\NameOk n/\∃d,dp=d+1/\PlOk d qs) /\
     ([.fz (.lst (zs.map .str)),.ob true (.lst (ms.map .int)),.fz (.int dp),.ob false (.lst (pDs ps++[.str z])),.no,.no]:List VL.Slot)=[.fz (.lst (zs.map .str)),.ob true (.lst (ms_1.map .int)),.fz (.int dp),.ob false (.lst (pDs ps_1)),.no,.no]:=fun z hz=>by
    refine⟨by omega,ms,ps++[.txt z],by simp[hl],fun p hq=>?_,by rw[dn];rfl⟩;rcases mem_append.mp hq with hq|hq
    ·exact hp p hq
    ·exact .inl ⟨z,hz,by simpa using hq⟩
   refine⟨by decide,ite2 (fun _=>⟨⟨by decide,by decide⟩,txt⟩) fun _=>ite2 (fun _=>⟨⟨by decide,by decide⟩,txt⟩) fun hd=>?_⟩;have hl8:((List.map D.str zs).length:Int)=8:=by simp[hz]
   rw[hl8];obtain⟨d,hd1,e⟩:=Me (xs:=List.map D.str zs) (i:=x / 3 % 8) (jc (by decide)) (by rw[hl8];exact kc (by decide));obtain⟨nm,hnm,rfl⟩:=mem_map.mp hd1;obtain⟨d',rfl⟩:∃d',dp=d' + 1:=⟨dp - 1,by omega⟩;refine⟨⟨by decide,by decide⟩,by decide,_,e,en d' (by omega) (by omega) hz ok fun qs ms2 hq=>?_⟩;walk_at "vd";refine⟨by decide,by omega,ms2,ps++[.tup nm qs],by simp[hl],fun p hq'=>?_,by rw[dn];rfl⟩;rcases mem_append.mp hq' with hq' | hq'
   ·exact hp p hq'
   ·exact .inr ⟨nm,qs,by simpa using hq',ok nm hnm,d',rfl,hq⟩
  ·rintro δ ⟨ms,ps,hl,hp,rfl⟩;walk_at "vd";refine q ps ms ?_;cases dp with
   |zero =>
    refine⟨by omega,fun p hq=>?_⟩;rcases hp p hq with h|⟨_,_,_,_,d,h,_⟩
    ·exact h
    ·cases h
   |succ d =>
    refine⟨by omega,fun p hq=>?_⟩;rcases hp p hq with h|⟨n,qs,h1,h2,d',h3,h4⟩
    ·exact .inl h
    ·cases h3;exact .inr ⟨n,qs,h1,h2,h4⟩
theorem Sr {ps:List Part}{k:Nat}(h:k<ps.length):atI (pDs ps) (k:Int)=some (pD ps[k]):=by
 refine wc ?_;rw[Yc,getElem?_map,getElem?_eq_getElem h];rfl
theorem Tr {ps:List Part}{p:Part}(h:p∈ps):dp1 p<=dpL ps:=by
 induction ps with
 |nil=>cases h
 |cons q ps ih =>
  simp only[dpL];rcases mem_cons.mp h with rfl|h
  ·omega
  ·have:=ih h;omega
theorem sz_mem {ps:List Part}{p:Part}(h:p∈ps):Qa p<=Da ps:=by
 induction ps with
 |nil=>cases h
 |cons q ps ih =>
  simp only[Da];rcases mem_cons.mp h with rfl|h
  ·omega
  ·have:=ih h;omega
noncomputable def fi (ps:List Part):D->Bool
 |.int k=>match ps[k.toNat]? with|some (.tup n _)=>!decide (n = "*")|_=>false
 |_=>false
def Ur (n:Nat):RD:=fun δ Q=>∃(ps:List Part)(x:Int),δ=[.fz (.lst (pDs ps)),.fz (.int x)]/\dpL ps<n/\Da ps<=1000 /\
 ∀ps':List Part,Da ps' = Da ps+1->stL ps' = stL ps+1->dpL ps' <= dpL ps+1->(smL ps=true->smL ps' = true)->Q true (.lst (pDs ps')) [.no,.no]
theorem x3g (u0k:Ent K mg "_law_starred" Bg ["_law_row","_law_number"] f fd)(T:Zs K mg):∀n,FnOk P w K mg base CX0 (n+1) f fd ["_law_row","_law_number"] (spD (Ur n)):=by
 intro n;induction n with
 |zero=>exact Og fun δ Q h=>by obtain⟨_,_,_,h,_⟩:=h;exact not_lt_zero _ h
 |succ n u4n =>
 refine VL.Fun.dok u0k.F nj (fun δ Qd h=>?_) (by decide) (fun cdv A outer s H E δ Qd hr h=>?_)
 ·obtain⟨_,_,rfl,_⟩:=h;rfl
 ·obtain⟨ps,x,rfl,hdp,hs,q⟩:=h;have hu:=Qb hr;refine⟨_,(ka (El (j:=2) ["_law_k"] ["_law_row","_law_number","_law_inner","_law_at"] nj.nd rfl rfl rfl (show CScopeG (ya Bg) ["_law_row","_law_number","_law_inner","_law_at"] ["_law_k"] _ _ from⟨rfl,by decide +kernel,by decide +kernel,by decide +kernel,by decide +kernel⟩) (qe rfl T.z_range (aa (Ib md Gc rfl T.z_len PySem.boot_len (pv 0)) ba)) (fun _ _ _ _ _=>(Jc (i:=0) (by decide) (show List.Nodup (["_law_k","_law_row","_law_number","_law_inner","_law_at"]:List Str) from by decide +kernel) rfl (Or.inl rfl))) (fun _ _ _ _ _=>(zl (dt_w (kg (jg (Vb (Ob (Ic T.kit) (yc (K:=K) rfl) rfl T.z_isinstance boot_isinstance (aa (Ha ub gb (pv 1) (dv 0) (fun _ _=>rfl)) (aa (Hc rfl T.z_str boot_str) ba))))) (jh (Ga Vc vc (Ji Eb ib (Ha ub gb (pv 1) (dv 0) (fun _ _=>rfl)) ia (fun _ _=>rfl)) qa (za _))))))) (fun _ _ _ _ _=>(dv 0)))
   (ka (Ia (dt_w (kg (Ga cb Ra (ja Xa Wa (dv 1) ia) ia (za _)) (jh (gh (Gp hu) Dk (pv 2) (Pa ba) (za _))))) (ka (Aa (i:=3) nj.nd rfl (Or.inl rfl) (Ha ub gb (pv 2) (ja Xa Wa (ja Pc Oc (dv 1) ia) (Ib md Gc rfl T.z_len PySem.boot_len (pv 2))) (fun _ _=>rfl)))
   (ma (Ba (ja Zb Cb (ja Zb Cb (Bc (pv 0) jb (Fa (dv 3))) (Pa (aa (Rb (aa (Ji Eb ib (Ha ub gb (pv 0) (dv 3) (fun _ _=>rfl)) ia (fun _ _=>rfl)) (aa (Va u4n (hr.mono (by omega)) rfl u0k.g u0k.F.kp u0k.b Ea (aa (Ji Eb ib (Ha ub gb (pv 0) (dv 3) (fun _ _=>rfl)) ia (fun _ _=>rfl)) (aa (ja Pc Oc (dv 1) ia) ba))) ba))) ba))) (Bc (pv 0) (Fa (ja La Ka (dv 3) ia)) jb))))) Ma)
   (ka (Aa (i:=3) nj.nd rfl (Or.inl rfl) (ja Xa Wa (ja Pc Oc (dv 1) ia) (ja La Ka (Ib md Gc rfl T.z_len PySem.boot_len (pv 0)) ia)))
   (ma (Ba (ja Zb Cb (ja Zb Cb (Bc (pv 0) jb (Fa (dv 3))) (Pa (aa (Rb (aa qa (aa (Pa ba) ba))) ba))) (Bc (pv 0) (Fa (dv 3)) jb))))))),?_⟩
  have sz:=Sa;have hpl:=Lg ps;have hle:=ze ps;walk_at "vd";rw[hpl];refine⟨by omega,by omega,Ml (fi ps) id (by rw[Um];omega) (fun d hd P hP=>?_) (fun d hd hc P hP=>?_) ?_⟩
  ·obtain⟨k,hk,rfl⟩:=Fj hd;have hk':k<ps.length:=by omega
   have e:=Sr hk';have eo:fi ps (.int k)=match ps[k] with | .tup n _=>!decide (n = "*")|_=>false:=by
    simp only[fi,toNat_natCast,getElem?_eq_getElem hk'];cases ps[k]<;>rfl
   rw[eo]at hP;walk_at "vd";refine⟨_,e,?_⟩;cases hp:ps[k] with
   |txt z =>
    rw[hp]at hP e;simp only[pD];walk_at "vd";exact hP
   |tup n qs =>
    rw[hp]at hP e;simp only[pD]at e ⊢;walk_at "vd";refine⟨_,e,?_⟩;walk_at "vd";exact hP
  ·obtain⟨k,hk,rfl⟩:=Fj hd;walk_at "vd";exact hP
  ·rw[map_id];generalize hin:List.filter (fi ps) (rngD 0 (Int.toNat ↑ps.length))=ins;walk_at "vd";have fin:(0<(2:Int)/\(Int.natAbs 2).log2<9000)/\0<((pDs ps).length:Int)+1/\0<=sizeLine/\2<=sizeLine/\1<=sizeLine/\(cutD (pDs ps) none (some (x / 2 % (((pDs ps).length:Int)+1)))).length+1<=sizeLine /\
     (cutD (pDs ps) none (some (x / 2 % (((pDs ps).length:Int)+1)))++[D.tup [D.str "*",D.lst []]]).length+(cutD (pDs ps) (some (x / 2 % (((pDs ps).length:Int)+1))) none).length<=sizeLine /\
     Qd true (D.lst (cutD (pDs ps) none (some (x / 2 % (((pDs ps).length:Int)+1)))++[D.tup [D.str "*",D.lst []]]++cutD (pDs ps) (some (x / 2 % (((pDs ps).length:Int)+1))) none)) [.no,.no]:=by
    have h0:0<((pDs ps).length:Int)+1:=by omega
    have h1:=jc (a:=x / 2) h0;have h2:=kc (a:=x / 2) h0;obtain⟨k,hk⟩:=Int.eq_ofNat_of_zero_le h1;rw[hk]at h2 ⊢;rw[we,Oe];have hk':k<=ps.length:=by omega
    have e:take k (pDs ps)++[D.tup [D.str "*",D.lst []]]++drop k (pDs ps)=pDs (ps.take k++[.tup "*" []]++ps.drop k):=by
     simp only[Yc,map_append,map_take,map_drop];rfl
    have l1:(take k (pDs ps)).length<=ps.length:=by rw[length_take];omega
    have l2:(drop k (pDs ps)).length<=ps.length:=by rw[length_drop];omega
    refine⟨⟨by decide,by decide⟩,h0,by omega,by omega,by omega,by omega,by simp only[length_append,length_cons,length_nil];omega,?_⟩;rw[e];have ez:=congrArg Da (take_append_drop k ps);have es:=congrArg stL (take_append_drop k ps);have ed:=congrArg dpL (take_append_drop k ps);rw[Kf]at ez;rw[Ng]at es;rw[ci]at ed;refine q _ ?_ ?_ ?_ ?_
    ·simp only[Kf,Da,Qa];omega
    ·simp only[Ng,stL,st1,if_true];omega
    ·simp only[ci,dpL,dp1];omega
    ·intro hse;rw[<-take_append_drop k ps,Gj,and_eq_true]at hse;simp[Gj,smL,sm1,hse.1,hse.2]
   refine⟨by decide,ite2 (fun _=>⟨by omega,ite2 (fun hne=>?_) fun _=>fin⟩) fun _=>fin⟩;have hl0:0<(ins.length:Int):=by cases ins with
    |nil=>cases hne
    |cons a r=>simp
   obtain⟨d,hd,e⟩:=Me (xs:=ins) (i:=x / 2 % (ins.length:Int)) (jc hl0) (kc hl0);rw[<-hin]at hd;obtain⟨hd1,hd2⟩:=mem_filter.mp hd;obtain⟨k,hk,rfl⟩:=Fj hd1;have hk':k<ps.length:=by omega
   have ep:=Sr hk';refine⟨⟨by decide,by decide⟩,hl0,_,e,?_⟩;obtain⟨nm,qs,hp,hn⟩:∃nm qs,ps[k]=.tup nm qs/\nm ≠ "*":=by
    simp only[fi,toNat_natCast,getElem?_eq_getElem hk']at hd2;cases hp:ps[k] with
    |txt z=>rw[hp]at hd2;cases hd2
    |tup nm qs=>rw[hp]at hd2;exact⟨nm,qs,rfl,by simpa using hd2⟩
   rw[hp]at ep;simp only[pD]at ep;have esplit:ps=ps.take k++(.tup nm qs::ps.drop (k+1)):=by
    rw[<-hp];simp
   have ez:=congrArg Da esplit;have es:=congrArg stL esplit;have ed:=congrArg dpL esplit;rw[Kf]at ez;rw[Ng]at es;rw[ci]at ed;simp only[Da,Qa]at ez;simp only[stL,st1,hn,if_false]at es;simp only[dpL,dp1]at ed;walk_at "vd";refine⟨_,ep,?_⟩;walk_at "vd";refine⟨_,ep,?_⟩;walk_at "vd";refine⟨⟨by decide,by decide⟩,qs,x / 6,rfl,by omega,by omega,fun qs' z1 z2 z3 z4=>?_⟩;walk_at "vd";have ek:((k:Int)+1)=((k+1:Nat):Int):=by omega
   rw[ek,we,Oe];have l1:(take k (pDs ps)).length<=ps.length:=by rw[length_take];omega
   have l2:(drop (k+1) (pDs ps)).length<=ps.length:=by rw[length_drop];omega
   have e:take k (pDs ps)++[D.tup [D.str nm,D.lst (pDs qs')]]++drop (k+1) (pDs ps)=pDs (ps.take k++[.tup nm qs']++ps.drop (k+1)):=by
    simp only[Yc,map_append,map_take,map_drop,map_cons,map_nil,pD]
   refine⟨by omega,by omega,by omega,by simp only[length_append,length_cons,length_nil];omega,?_⟩;rw[e];refine q _ ?_ ?_ ?_ ?_
   ·simp only[Kf,Da,Qa];omega
   ·simp only[Ng,stL,st1,hn,if_false];omega
   ·simp only[ci,dpL,dp1];omega
   ·intro hse;have ee:=congrArg smL esplit;rw[hse,Gj]at ee;simp only[smL,sm1,hn,if_false]at ee;have ee:=ee.symm;simp only[and_eq_true]at ee;simp only[Gj,smL,sm1,hn,if_false,ee.1,ee.2.1.1,z4 ee.2.1.2,ee.2.2,Bool.and_self]
noncomputable def Ya (r:Str×List Part):D:=.tup [.str r.1,.lst (pDs r.2)]
noncomputable def fstD:D->D
 |.tup (a::_)=>a
 |d=>d
structure RuleOk (r:Str×List Part):Prop where
 nm:NameOk r.1
 sz:Da r.2<=40
 st:stL r.2<=1
 dp:dpL r.2<=3
 se:smL r.2=true
structure FerOk (fs:List (Str×List Part)):Prop where
 len:fs.length<=6
 nd:(fs.map (·.1)).Nodup
 ok:∀r∈fs,RuleOk r
structure FerB (k:Nat)(fs:List (Str×List Part)):Prop where
 len:fs.length<=6+k
 ok:∀r∈fs,NameOk r.1/\Da r.2<=40+2 * k/\dpL r.2<=3+2 * k/\smL r.2=true
def j2s:RD:=fun δ Q=>∃(zs:List Str)(ns:List Int)(m:Int),δ=[.fz (.lst (zs.map .str)),.ob true (.lst (ns.map .int)),.fz (.int m)]/\0<=m/\m<=6/\zs.length=8/\(∀z∈zs,NameOk z) /\
 ∀(fs:List (Str×List Part))(ms:List Int),FerOk fs->Q true (.lst (fs.map Ya)) [.no,.ob true (.lst (ms.map .int)),.no]
theorem Vr {n:Nat}{ps:List Part}{x:Int}{Q:Bool->D->List VL.Slot->Prop}(h1:dpL ps<n)(h2:Da ps<=1000)(h:∀ps':List Part,Da ps' = Da ps+1->stL ps' = stL ps+1->dpL ps' <= dpL ps+1->(smL ps=true->smL ps' = true)->Q true (.lst (pDs ps')) [.no,.no]) :
  Ur n [.fz (.lst (pDs ps)),.fz (.int x)] Q:=⟨ps,x,rfl,h1,h2,h⟩
theorem q4w {f1 f2 f3 f4:Addr}{fd1 fd2 fd3 fd4:FuncData}(u2f:Ent K mg "_law_ferry" Hh ["_law_names_here","_law_draws_here","_law_many"] f fd)(T:Zs K mg)(u0g:Ent K mg "_law_pop" yg ["_law_draws_here"] f1 fd1)(u1q:Ent K mg "_law_text" Ag ["_law_number"] f2 fd2)(u0h:Ent K mg "_law_plain" Gh ["_law_names_here","_law_draws_here","_law_deep"] f3 fd3)(u0k:Ent K mg "_law_starred" Bg ["_law_row","_law_number"] f4 fd4) :
  FnOk P w K mg base CX0 6 f fd ["_law_names_here","_law_draws_here","_law_many"] (spD j2s):=by
 have u2v:=Vm (P:=P) (w:=w) (base:=base) u0g T;have u3w:=Rr (P:=P) (w:=w) (base:=base) u0h T u0g u1q 3;have u4n:=x3g (P:=P) (w:=w) (base:=base) u0k T 3;refine VL.Fun.dok u2f.F Xd (fun δ Qd h=>?_) (by decide) (fun cdv A outer s H E δ Qd hr h=>?_)
 ·obtain⟨_,_,_,rfl,_⟩:=h;rfl
 ·obtain⟨zs,ns,m,rfl,hm0,hm6,hz,ok,q⟩:=h;have hu:=Qb hr;refine⟨_,(ka (Aa (i:=3) Xd.nd rfl (Or.inl rfl) (Pa ba))
   (ka (pd PassesOwn.never rfl (qe rfl T.z_range (aa (dv 2) ba)) (Pb (i:=4) Xd.nd rfl (Or.inl rfl)) (ka (Aa (i:=5) Xd.nd rfl (Or.inl rfl) (Pd (i:=1) u2v (hr.mono (by decide)) rfl u0g.g u0g.F.kp u0g.b Ea (da_o (pv 1) Md)))
   (ka (Aa (i:=6) Xd.nd rfl (Or.inl rfl) (Pd (i:=1) u3w (hr.mono (by decide)) rfl u0h.g u0h.F.kp u0h.b Ea (da_v (dv 0) (da_o (pv 1) (da_v ia Md)))))
   (ka (Ia (Ga cb Ra (ja Xa Wa (dv 5) ia) ia (za _)) (ma (Aa (i:=6) Xd.nd rfl (Or.inl rfl) (Pa ba))) Ma)
   (ka (Ia (Ga Vc vc (ja Xa Wa (dv 5) ia) ia (za _)) (ma (Aa (i:=6) Xd.nd rfl (Or.inl rfl) (Va u4n (hr.mono (by decide)) rfl u0k.g u0k.F.kp u0k.b Ea (aa (dv 6) (aa (ja Pc Oc (dv 5) ia) ba))))) Ma)
   (ma (Tb (Sb ac PySem.F.slot_list_append PySem.F.type_list_append zb (pv 3) (aa (Rb (aa (Ha ub gb (pv 0) (ja Xa Wa (ja La Ka (ja Pc Oc (dv 5) ia) (ja Ke De (dv 4) ia)) (Ib md Gc rfl T.z_len PySem.boot_len (pv 0))) (fun _ _=>rfl)) (aa (dv 6) ba))) ba)))))))))
   (ka (Aa (i:=7) Xd.nd rfl (Or.inl rfl) (Pa ba))
   (ka (pd PassesOwn.never rfl (Ad (dv 3)) (ng (n:=2) rfl (Xc (Pb (i:=8) Xd.nd rfl (Or.inl rfl)) (Xc (Pb (i:=6) Xd.nd rfl (Or.inl rfl)) lg))) (ma (Ia (Ga x6x y6p (dv 8) (q4l ["_law_one","_law_other"] ["_law_names_here","_law_draws_here","_law_many","_law_rules","_law_k","_law_number","_law_row","_law_found","_law_name_here"] rfl (show CScopeG (ya Hh) ["_law_names_here","_law_draws_here","_law_many","_law_rules","_law_k","_law_number","_law_row","_law_found","_law_name_here"] ["_law_one","_law_other"] _ _ from⟨rfl,by decide +kernel,by decide +kernel,by decide +kernel,by decide +kernel⟩) (pv 7) (fun _ _ _ _ _=>(Xp (m:=2) rfl (Ti (Jc (i:=0) (by decide) (show List.Nodup (["_law_one","_law_other","_law_names_here","_law_draws_here","_law_many","_law_rules","_law_k","_law_number","_law_row","_law_found","_law_name_here"]:List Str) from by decide +kernel) rfl (Or.inl rfl)) (Ti (Jc (i:=1) (by decide) (show List.Nodup (["_law_one","_law_other","_law_names_here","_law_draws_here","_law_many","_law_rules","_law_k","_law_number","_law_row","_law_found","_law_name_here"]:List Str) from by decide +kernel) rfl (Or.inl rfl)) Wp)))) (fun _ _ _ _ _=>Sd) (fun _ _ _ _ _=>(dv 0))) rfl) (ma (Tb (Sb ac PySem.F.slot_list_append PySem.F.type_list_append zb (pv 7) (aa (Rb (aa (dv 8) (aa (dv 6) ba))) ba)))) Ma)))
   (ma (Ba (dm 7))))))),?_⟩
  have sz:=Sa;walk_at "vd";refine⟨by omega,by omega,by omega,Df [4,5,6] (fun i δ=>∃(ms:List Int)(rs:List (Str×List Part)),rs.length=i/\(∀r∈rs,RuleOk r)/\δ=[.fz (.lst (zs.map .str)),.ob true (.lst (ms.map .int)),.fz (.int m),.ob false (.lst (rs.map Ya)),.no,.no,.no,.no,.no]) ⟨ns,[],rfl,fun r h=>(by cases h),rfl⟩ ?_ ?_⟩
  ·rintro i δ hi ⟨ms,rs,hl,hr',rfl⟩;walk_at "vd";intro x ms1;refine en 2 rfl (by decide) hz ok fun ps ms2 hps=>?_;obtain⟨p1,p2,p3⟩:=PlOk.all 2 ps hps;simp only[szP]at p1;have hl8:((List.map D.str zs).length:Int)=8:=by simp[hz]
   walk_at "vd";have step:∀qs:List Part,Da qs<=40->stL qs<=1->dpL qs<=3->smL qs=true->CMul (i:Int) 7/\0<((List.map D.str zs).length:Int)/\∃d,atI (List.map D.str zs) ((x / 4+(i:Int) * 7) % ((List.map D.str zs).length:Int))=some d/\2<=sizeLine/\(List.map Ya rs).length<sizeLine /\
     ∃(ms_1:List Int)(rs_1:List (Str×List Part)),rs_1.length=i+1/\(∀r∈rs_1,RuleOk r)/\([.fz (.lst (zs.map .str)),.ob true (.lst (ms2.map .int)),.fz (.int m),.ob false (.lst (List.map Ya rs++[D.tup [d,D.lst (pDs qs)]])),.no,.no,.no,.no,.no]:List VL.Slot)=[.fz (.lst (zs.map .str)),.ob true (.lst (ms_1.map .int)),.fz (.int m),.ob false (.lst (List.map Ya rs_1)),.no,.no,.no,.no,.no]:=fun qs s1 s2 s3 s4=>by
    obtain⟨d,hd1,e⟩:=Me (xs:=List.map D.str zs) (i:=(x / 4+(i:Int) * 7) % ((List.map D.str zs).length:Int)) (jc (by omega)) (kc (by omega));obtain⟨nm,hnm,rfl⟩:=mem_map.mp hd1;refine⟨.inl ⟨by omega,by omega⟩,by omega,_,e,by omega,by simp;omega,ms2,rs++[(nm,qs)],by simp[hl],fun r hr2=>?_,by simp[Ya]⟩;rcases mem_append.mp hr2 with h|h
    ·exact hr' r h
    ·have e:r=(nm,qs):=by simpa using h
     subst e;exact⟨ok nm hnm,s1,s2,s3,s4⟩
   refine⟨by decide,ite2 (fun _=>⟨by omega,by decide,ite2 (fun _=>⟨⟨by decide,by decide⟩,Vr (ps:=[]) (by simp[dpL]) (by simp[Da]) fun qs' z1 z2 z3 z4=>?_⟩) fun _=>⟨⟨by decide,by decide⟩,step [] (by simp[Da]) (by simp[stL]) (by simp[dpL]) rfl⟩⟩) fun _=>⟨by decide,ite2 (fun _=>⟨⟨by decide,by decide⟩,Vr (by omega) (by omega) fun qs' z1 z2 z3 z4=>?_⟩) fun _=>⟨⟨by decide,by decide⟩,step ps (by omega) (by omega) (by omega) (PlOk.ok 2 ps hps)⟩⟩⟩
   ·have k1:Da ([]:List Part)=0:=by simp[Da]
    have k2:stL ([]:List Part)=0:=by simp[stL]
    have k3:dpL ([]:List Part)=0:=by simp[dpL]
    walk_at "vd";exact⟨⟨by decide,by decide⟩,step qs' (by omega) (by omega) (by omega) (z4 ((rfl:smL []=true)))⟩
   ·walk_at "vd";exact⟨⟨by decide,by decide⟩,step qs' (by omega) (by omega) (by omega) (z4 (PlOk.ok 2 ps hps))⟩
  ·rintro δ ⟨ms,rs,hl,hr',rfl⟩;walk_at "vd";refine⟨by omega,og [8,6] (fun r δ=>∃pre suf fs,rs=pre++suf/\r=suf.map Ya/\fs.length<=pre.length/\(fs.map (·.1)).Nodup/\(∀r∈fs,r∈rs)/\δ=[.fz (.lst (zs.map .str)),.ob true (.lst (ms.map .int)),.fz (.int m),.fz (.lst (rs.map Ya)),.no,.no,.no,.ob false (.lst (fs.map Ya)),.no]) ⟨[],rs,[],rfl,rfl,le_refl _,nodup_nil,fun r h=>(by cases h),rfl⟩ ?_ ?_⟩
   ·rintro d r δ ⟨pre,suf,fs,e1,e2,h1,h2,h3,rfl⟩;cases suf with
    |nil=>cases e2
    |cons r0 suf =>
     obtain⟨nm,row⟩:=r0;cases e2;simp only[Ya];walk_at "vd";have hfl:fs.length<=6:=by
      have:=congrArg List.length e1;simp at this;omega
     refine j7e fstD (by simp;omega) rfl (fun d hd=>?_) (fun a b hab P hP=>?_) ?_
     ·obtain⟨r1,_,rfl⟩:=mem_map.mp hd;exact⟨_,_,rfl⟩
     ·walk_at "vd";exact hP
     ·have e:List.map fstD (List.map Ya fs)=(fs.map (·.1)).map .str:=by simp[Ya,fstD]
      rw[e];walk_at "vd";refine ite2 (fun hn=>⟨by omega,by simp;omega,pre++[(nm,row)],suf,fs++[(nm,row)],by simp[e1],rfl,by simp;omega,?_,?_,by simp[Ya]⟩) fun _=>⟨pre++[(nm,row)],suf,fs,by simp[e1],rfl,by simp;omega,h2,h3,rfl⟩
      ·rw[map_append];exact gp h2 (by simpa using hn)
      ·intro r hr2;rcases mem_append.mp hr2 with h|h
       ·exact h3 r h
       ·have:r=(nm,row):=by simpa using h
        rw[this,e1];simp
   ·rintro δ ⟨pre,suf,fs,e1,e2,h1,h2,h3,rfl⟩;walk_at "vd";refine q fs ms ⟨?_,h2,fun r hr2=>hr' r (h3 r hr2)⟩;have:=congrArg List.length e1;simp at this;omega
mutual
noncomputable def okA:D->Bool
 |.str _=>true
 |.lst xs=>decide (xs.length<=1000000)&&okAL xs
 |.tup xs=>decide (xs.length<=1000000)&&okAL xs
 |_=>false
noncomputable def okAL:List D->Bool
 | []=>true
 |d::r=>okA d&&okAL r
end
def x6k (n:Nat):RD:=fun δ Q=>∃d:D,δ=[.fz d,.fz d]/\dep d<n/\okA d=true/\Q false (.bl true) [.no,.no]
theorem Wr {xs:List D}(h:okAL xs=true){d:D}(hd:d∈xs):okA d=true:=by
 induction xs with
 |nil=>cases hd
 |cons a r ih =>
  simp only[okAL,and_eq_true]at h;rcases mem_cons.mp hd with rfl|hd
  ·exact h.1
  ·exact ih h.2 hd
theorem Xr {xs:List D}{d:D}(hd:d∈xs):dep d<=depL xs:=by
 induction xs with
 |nil=>cases hd
 |cons a r ih =>
  simp only[depL];rcases mem_cons.mp hd with rfl|hd
  ·omega
  ·have:=ih hd;omega
theorem q2l (u1d:Ent K mg "_law_alike" cj ["_law_found","_law_due"] f fd)(T:Zs K mg):∀n,FnOk P w K mg base CX0 (n+1) f fd ["_law_found","_law_due"] (spD (x6k n)):=by
 intro n;induction n with
 |zero=>exact Og fun δ Q h=>by obtain⟨_,_,h,_⟩:=h;exact not_lt_zero _ h
 |succ n u5e =>
 refine VL.Fun.dok u1d.F Uq (fun δ Qd h=>?_) (by decide) (fun cdv A outer s H E δ Qd hr h=>?_)
 ·obtain⟨_,rfl,_⟩:=h;rfl
 ·obtain⟨d,rfl,hdp,hok,q⟩:=h;refine⟨_,(ka (Ia (Vb (Ob (Ic T.kit) (yc (K:=K) rfl) rfl T.z_isinstance boot_isinstance (aa (dv 1) (aa (Hc rfl T.z_str boot_str) ba)))) (ma (Ba (kh (Ob (Ic T.kit) (yc (K:=K) rfl) rfl T.z_isinstance boot_isinstance (aa (dv 0) (aa (Hc rfl T.z_str boot_str) ba))) (Ki (gg cb Ra (dv 0) (dv 1) (za _)))))) Ma)
   (ka (Ia (Vb (Ob (Ic T.kit) (yc (K:=K) rfl) rfl T.z_isinstance boot_isinstance (aa (dv 1) (aa (Hc rfl T.z_int boot_int) ba)))) (ma (Ba (kh (Ob (Ic T.kit) (yc (K:=K) rfl) rfl T.z_isinstance boot_isinstance (aa (dv 0) (aa (Hc rfl T.z_int boot_int) ba))) (kh (j8f (Ob (Ic T.kit) (yc (K:=K) rfl) rfl T.z_isinstance boot_isinstance (aa (dv 0) (aa (Hc rfl T.z_bool boot_bool) ba)))) (Ki (gg cb Ra (dv 0) (dv 1) (za _))))))) Ma)
   (ka (Ia (Vb (Ob (Ic T.kit) (yc (K:=K) rfl) rfl T.z_isinstance boot_isinstance (aa (dv 1) (aa (Hc rfl T.z_list boot_list) ba)))) (ma (Ia (jg (Vb (Ob (Ic T.kit) (yc (K:=K) rfl) rfl T.z_isinstance boot_isinstance (aa (dv 0) (aa (Hc rfl T.z_list boot_list) ba))))) (ma (Ba Je)) Ma)) (ma (Ia (jg (Vb (Ob (Ic T.kit) (yc (K:=K) rfl) rfl T.z_isinstance boot_isinstance (aa (dv 0) (aa (Hc rfl T.z_tuple boot_tuple) ba))))) (ma (Ba Je)) Ma)))
   (ka (Ia (Ga Vc vc (Ib Hl Zg rfl T.z_len PySem.boot_len (pv 0)) (Ib Hl Zg rfl T.z_len PySem.boot_len (pv 1)) (za _)) (ma (Ba Je)) Ma)
   (ka (pd PassesOwn.never rfl (qe rfl T.z_range (aa (Ib Hl Zg rfl T.z_len PySem.boot_len (pv 1)) ba)) (Pb (i:=2) Uq.nd rfl (Or.inl rfl)) (ma (Ia (jg (Vb (Va u5e (hr.mono (by omega)) rfl u1d.g u1d.F.kp u1d.b Ea (aa (Ha bq Jo (pv 0) (dv 2) (fun _ _=>rfl)) (aa (Ha bq Jo (pv 1) (dv 2) (fun _ _=>rfl)) ba))))) (ma (Ba Je)) Ma)))
   (ma (Ba Je))))))),?_⟩
  cases d with
  |str z =>
   walk_at "vd";exact q
  |lst xs =>
   simp only[okA,and_eq_true,decide_eq_true_eq]at hok;simp only[dep]at hdp;walk_at "vd";refine⟨by omega,by omega,Df [2] (fun i δ=>δ=[.fz (.lst xs),.fz (.lst xs),.no]) rfl ?_ ?_⟩
   ·rintro i δ hi rfl;have hi':i<xs.length:=by omega
    have e:atI xs (i:Int)=some xs[i]:=wc (getElem?_eq_getElem hi');have hm:xs[i]∈xs:=getElem_mem hi';have hd:=Xr hm;walk_at "vd";refine⟨_,e,_,e,_,rfl,by omega,Wr hok.2 hm,?_⟩;walk_at "vd"
   ·rintro δ rfl;walk_at "vd";exact q
  |tup xs =>
   simp only[okA,and_eq_true,decide_eq_true_eq]at hok;simp only[dep]at hdp;walk_at "vd";refine⟨by omega,by omega,Df [2] (fun i δ=>δ=[.fz (.tup xs),.fz (.tup xs),.no]) rfl ?_ ?_⟩
   ·rintro i δ hi rfl;have hi':i<xs.length:=by omega
    have e:atI xs (i:Int)=some xs[i]:=wc (getElem?_eq_getElem hi');have hm:xs[i]∈xs:=getElem_mem hi';have hd:=Xr hm;walk_at "vd";refine⟨_,e,_,e,_,rfl,by omega,Wr hok.2 hm,?_⟩;walk_at "vd"
   ·rintro δ rfl;walk_at "vd";exact q
  |_=>cases hok
mutual
noncomputable def sD:D->Nat
 |.tup xs=>1+sDs xs
 |.lst xs=>sDs xs
 |.str _=>1
 |_=>0
noncomputable def sDs:List D->Nat
 | []=>0
 |d::r=>sD d+sDs r
end
theorem gn (xs ys:List D):sDs (xs++ys)=sDs xs+sDs ys:=by
 induction xs with
 |nil=>simp[sDs]
 |cons a r ih=>simp[sDs,ih];omega
theorem Yr:∀xs:List D,sDs xs.reverse=sDs xs
 | []=>rfl
 |a::r=>by rw[reverse_cons,gn,Yr r];simp[sDs];omega
noncomputable def μ2 (δ:List VL.Slot):Nat:=match δ[2]? with|some (VL.Slot.ob _ (D.lst xs))=>sDs xs|_=>0
noncomputable def jn:D->Bool
 |.tup (.str n::_)=>decide (n = "*")
 |_=>false
theorem x1n (p:Part):jn (pD p)=decide (Pe p = "*"):=by
 cases p with
 |txt z=>exact(show false=decide (("#":Str) = "*") by decide +kernel)
 |tup n ps=>rfl
def j8p:RD:=fun δ Q=>∃ps:List Part,δ=[.fz (.lst (pDs ps))]/\Da ps<=1000000/\Q true (.lst ((Lc ps).map pD)) [.no]
theorem j8q (u0i:Ent K mg "all_parts" Qe ["row"] f fd)(T:Zs K mg):FnOk P w K mg base CX0 1 f fd ["row"] (spD j8p):=by
 refine VL.Fun.dok u0i.F ij (fun δ Qd h=>?_) (by decide) (fun cdv A outer s H E δ Qd hr h=>?_)
 ·obtain⟨_,rfl,_⟩:=h;rfl
 ·obtain⟨ps,rfl,hs,q⟩:=h;refine⟨_,(ka (Aa (i:=1) ij.nd rfl (Or.inl rfl) (Pa ba))
   (ka (Aa (i:=2) ij.nd rfl (Or.inl rfl) (Ni rfl rfl T.z_list rfl T.z_reversed (dv 0)))
   (ka (Cf PassesOwn.never (Nk (pv 2)) (ka (Aa (i:=3) ij.nd rfl (Or.inl rfl) (Yk gl slot_list_pop type_list_pop Di (pv 2)))
   (ka (Tb (Sb ac PySem.F.slot_list_append PySem.F.type_list_append zb (pv 1) (aa (dv 3) ba)))
   (ma (Ia (jg (Vb (Ob (Ic T.kit) (yc (K:=K) rfl) rfl T.z_isinstance boot_isinstance (aa (dv 3) (aa (Hc rfl T.z_str boot_str) ba))))) (ma (Tb (Sb Mp PySem.F.slot_list_extend PySem.F.type_list_extend Po (pv 2) (aa (Ni rfl rfl T.z_list rfl T.z_reversed (Ha Eb ib (pv 3) ia (fun _ _=>rfl))) ba)))) Ma)))))
   (ma (Ba (dm 1)))))),?_⟩
  have sz:=Sa;walk_at "vd";have hfl:=bi ps;refine⟨by omega,[3],fun δ=>∃acc stack,acc++Lc stack=Lc ps/\δ=[.fz (.lst (pDs ps)),.ob false (.lst (acc.map pD)),.ob false (.lst (stack.reverse.map pD)),.no],μ2,⟨[],ps,rfl,by simp[fgt,Yc]⟩,?_⟩;rintro δ ⟨acc,stack,e,rfl⟩;have el:=congrArg List.length e;rw[length_append,bi,hfl]at el;walk_at "vd";cases stack with
  |nil =>
   refine ite2 (fun h=>by simp at h) fun _=>?_;rw[show Lc []=[] from rfl,append_nil]at e;rw[e];exact q
  |cons p st =>
   have e1:(p::st).reverse.map pD=st.reverse.map pD++[pD p]:=by simp
   rw[e1];refine ite2 (fun _=>?_) (fun h=>by simp at h);refine⟨pD p,by simp,?_⟩;rw[List.dropLast_concat];simp only[Lc,Da]at e el;have hl1:(List.map pD acc).length=acc.length:=by simp
   have hl2:=ze st;refine⟨by omega,?_⟩;cases p with
   |txt z =>
    simp only[pD];walk_at "vd";refine⟨⟨acc++[.txt z],st,by simpa[jf] using e,by simp[pD]⟩,?_⟩;simp only[μ2,getElem?_cons_succ,getElem?_cons_zero,gn,sDs,sD];omega
   |tup nm qs =>
    simp only[pD];walk_at "vd";have hl3:=Lg qs;have hl4:=ze qs;simp only[Qa]at el;refine⟨by simp;omega,⟨acc++[.tup nm qs],qs++st,by simpa[jf,y8d] using e,by simp[pD,Yc]⟩,?_⟩;simp only[μ2,getElem?_cons_succ,getElem?_cons_zero,gn,sDs,sD,Yr];omega
def y4x:RD:=fun δ Q=>∃ps:List Part,δ=[.fz (.lst (pDs ps))]/\Da ps<=1000000/\Q false (.int (stL ps)) [.no]
theorem x7n (ps:List Part):((ps.map pD).filter jn).length=(ps.filter fun q=>decide (Pe q = "*")).length:=by
 rw[List.filter_map,length_map];congr 2;funext p;exact x1n p
theorem kn {f1 f2:Addr}{fd1 fd2:FuncData}(u1r:Ent K mg "stars" Se ["row"] f fd)(T:Zs K mg)(u0i:Ent K mg "all_parts" Qe ["row"] f1 fd1)(u1h:Ent K mg "sign_of" Re ["part"] f2 fd2):FnOk P w K mg base CX0 2 f fd ["row"] (spD y4x):=by
 have u6i:=j8q (P:=P) (w:=w) (base:=base) u0i T;have u7b:=j2a (P:=P) (w:=w) (base:=base) u1h T;refine VL.Fun.dok u1r.F q6a (fun δ Qd h=>?_) (by decide) (fun cdv A outer s H E δ Qd hr h=>?_)
 ·obtain⟨_,rfl,_⟩:=h;rfl
 ·obtain⟨ps,rfl,hs,q⟩:=h;refine⟨_,(ma (Ba (Ob md Gc rfl T.z_len PySem.boot_len (aa (re ["part"] ["row"] rfl (show CScopeG (ya Se) ["row"] ["part"] _ _ from⟨rfl,by decide +kernel,by decide +kernel,by decide +kernel,by decide +kernel⟩) (Ad (Va u6i (hr.mono (by decide)) rfl u0i.g u0i.F.kp u0i.b Ea (aa (dv 0) ba))) (fun _ _ _ _ _=>(Jc (i:=0) (by decide) (show List.Nodup (["part","row"]:List Str) from by decide +kernel) rfl (Or.inl rfl))) (fun _ _ _ _ _=>(zl (Ga cb Ra (Va u7b (hr.mono (by decide)) rfl u1h.g u1h.F.kp u1h.b Ea (aa (dv 0) ba)) (ue rfl T.g_STAR) (za _)))) (fun _ _ _ _ _=>(dv 0))) ba)))),?_⟩;have sz:=Sa;have hfl:=bi ps;walk_at "vd";refine⟨ps,rfl,hs,?_⟩;walk_at "vd";refine Ml jn id (by simp;omega) (fun d hd P hP=>?_) (fun d hd hc P hP=>?_) ?_
  ·obtain⟨p,hp,rfl⟩:=mem_map.mp hd;rw[x1n]at hP;walk_at "vd";refine⟨p,rfl,?_⟩;walk_at "vd";exact hP
  ·walk_at "vd";exact hP
  ·walk_at "vd";rw[map_id,x7n,Wm];exact q
def mn:RD:=fun δ Q=>∃fs:List (Str×List Part),δ=[.fz (.lst (fs.map Ya))]/\fs.length<=1000/\(fs.map (·.1)).Nodup/\(∀r∈fs,Da r.2<=1000000/\stL r.2<=1)/\Q false .non [.no]
def Tf (fs:List (Str×List Part)):List (Key×D):=fs.map fun r=>(Sum.inr r.1,.bl true)
theorem q1n {fs:List (Str×List Part)}{n:Str}(h:n∉fs.map (·.1)):getS (Tf fs) n=none/\putS (Tf fs) n (.bl true)=Tf fs++[(Sum.inr n,.bl true)]:=by
 have h1:(Tf fs).any (fun kv=>decide (kv.1=Sum.inr n))=false:=by
  rw[List.any_eq_false];intro x hx hd;obtain⟨r,hr,rfl⟩:=mem_map.mp hx;have e:r.1=n:=by simpa using hd
  exact h (mem_map.mpr ⟨r,hr,e⟩)
 refine⟨?_,?_⟩
 ·unfold getS;rw[List.find?_eq_none.mpr]
  ·rfl
  ·intro x hx hd;exact absurd (List.any_eq_true.mpr ⟨x,hx,hd⟩) (by rw[h1];simp)
 ·unfold putS;rw[h1];simp
theorem j5k {f1 f2 f3:Addr}{fd1 fd2 fd3:FuncData}(u0j:Ent K mg "look_ferry" ug ["ferry"] f fd)(T:Zs K mg)(u1r:Ent K mg "stars" Se ["row"] f1 fd1)(u0i:Ent K mg "all_parts" Qe ["row"] f2 fd2)(u1h:Ent K mg "sign_of" Re ["part"] f3 fd3):FnOk P w K mg base CX0 3 f fd ["ferry"] (spD mn):=by
 have u5r:=kn (P:=P) (w:=w) (base:=base) u1r T u0i u1h;refine VL.Fun.dok u0j.F af (fun δ Qd h=>?_) (by decide) (fun cdv A outer s H E δ Qd hr h=>?_)
 ·obtain⟨_,rfl,_⟩:=h;rfl
 ·obtain⟨fs,rfl,hl,nd,hok,q⟩:=h;have hu:=Qb hr;refine⟨_,(ka (Aa (i:=1) af.nd rfl (Or.inl rfl) q2u)
   (ma (pd PassesOwn.never rfl (Ad (dv 0)) (ng (n:=2) rfl (Xc (Pb (i:=2) af.nd rfl (Or.inl rfl)) (Xc (Pb (i:=3) af.nd rfl (Or.inl rfl)) lg))) (ka (Ia (j3g hu (dv 2) (pv 1)) (ma Op) Ma)
   (ka (Ia (Ga Ep Wg (Va u5r (hr.mono (by decide)) rfl u1r.g u1r.F.kp u1r.b Ea (aa (dv 3) ba)) ia (za _)) (ma Op) Ma)
   (ma (j3z hu (pv 1) (dv 2) Je))))))),?_⟩
  have sz:=Sa;walk_at "vd";refine og [2,3] (fun r δ=>∃pre suf,fs=pre++suf/\r=suf.map Ya/\δ=[.fz (.lst (fs.map Ya)),.ob false (.dct (Tf pre)),.no,.no]) ⟨[],fs,rfl,rfl,rfl⟩ ?_ ?_
  ·rintro d r δ ⟨pre,suf,e1,e2,rfl⟩;cases suf with
   |nil=>cases e2
   |cons r0 suf =>
    obtain⟨nm,row⟩:=r0;cases e2;simp only[Ya];have hnd:=nd;rw[e1,map_append,map_cons]at hnd;have hnot:nm∉pre.map (·.1):=fun h=>(List.nodup_append.mp hnd).2.2 nm h nm mem_cons_self rfl;obtain⟨s1,s2⟩:=q1n hnot;obtain⟨o1,o2⟩:=hok (nm,row) (by rw[e1];simp);have o3:stL row<=1:=o2;have hpre:pre.length<=fs.length:=by rw[e1];simp
    walk_at "vd";rw[s1];walk_at "vd";refine⟨row,rfl,o1,?_⟩;walk_at "vd";refine ite2 (fun h=>by omega) fun _=>⟨by simp[Tf];omega,pre++[(nm,row)],suf,by simp[e1],rfl,?_⟩;rw[s2];simp[Tf]
  ·rintro δ ⟨pre,suf,e1,e2,rfl⟩;walk_at "vd";exact q
def x9y (K:W.Frag):RD:=fun δ Q=>∃(ns:List Int)(t m:Nat),δ=[.sc K ns,.fz (.int t),.fz (.int m)]/\t<=1000/\m<=1000/\∀ms:List Int,ms.length=m->Q true (.lst (ms.map .int)) [.no,.no,.no]
theorem nn {ns:List Int}{i:Int}(h0:0<=i)(h1:i<ns.length):∃x,atI (ns.map D.int) i=some (.int x):=by
 obtain⟨d,hd,e⟩:=Me (xs:=ns.map D.int) h0 (by simpa using h1);obtain⟨x,_,rfl⟩:=mem_map.mp hd;exact⟨x,e⟩
theorem j8e {n:Nat}{i:Int}(h0:0<=i)(h1:i<n):∃j,ixN n i=some j/\j<n:=by
 unfold ixN;rw[if_pos h0,if_pos h1];exact⟨_,rfl,by omega⟩
theorem q4q (u1e:Ent K mg "_law_draws" Eh ["_law_script","_law_turn","_law_many"] f fd)(T:Zs K mg):FnOk P w K mg base CX0 1 f fd ["_law_script","_law_turn","_law_many"] (spD (x9y K)):=by
 refine VL.Fun.dok u1e.F Wd (fun δ Qd h=>?_) (by decide) (fun cdv A outer s H E δ Qd hr h=>?_)
 ·obtain⟨_,_,_,rfl,_⟩:=h;rfl
 ·obtain⟨ns,t,m,rfl,ht,hm,q⟩:=h;refine⟨_,(ka (Aa (i:=3) Wd.nd rfl (Or.inl rfl) (ja Zb Cb (x9h (K:=K) rfl (pv 0) jb (Fa ia)) (Pa (aa (dv 1) ba))))
   (ka (Aa (i:=4) Wd.nd rfl (Or.inl rfl) (Pa ba))
   (ka (Ia (Ga cb Ra (ja Xa Wa (ja Pc Oc (Ha ub gb (pv 3) ia (fun _ _=>rfl)) ia) ia) ia (za _)) (ka (El (j:=5) ["_law_cell"] ["_law_script","_law_turn","_law_many","_law_cells","_law_found","_law_left","_law_k","_law_at","_law_place","_law_number"] Wd.nd rfl rfl rfl (show CScopeG (ya Eh) ["_law_script","_law_turn","_law_many","_law_cells","_law_found","_law_left","_law_k","_law_at","_law_place","_law_number"] ["_law_cell"] _ _ from⟨rfl,by decide +kernel,by decide +kernel,by decide +kernel,by decide +kernel⟩) (Ad (dv 3)) (fun _ _ _ _ _=>(Jc (i:=0) (by decide) (show List.Nodup (["_law_cell","_law_script","_law_turn","_law_many","_law_cells","_law_found","_law_left","_law_k","_law_at","_law_place","_law_number"]:List Str) from by decide +kernel) rfl (Or.inl rfl))) (fun _ _ _ _ _=>Sd) (fun _ _ _ _ _=>(ja Pc Oc (dv 0) ia)))
   (ka (pd PassesOwn.never rfl (qe rfl T.z_range (aa (ja La Ka (dv 1) (dv 2)) ba)) (Pb (i:=6) Wd.nd rfl (Or.inl rfl)) (ka (Aa (i:=7) Wd.nd rfl (Or.inl rfl) (ja Xa Wa (dv 6) (Ib md Gc rfl T.z_len PySem.boot_len (pv 5))))
   (ka (Ia (Ga os_ge op_ge (dv 6) (dv 1) (za _)) (ma (Tb (Sb ac PySem.F.slot_list_append PySem.F.type_list_append zb (pv 4) (aa (ja Xa Wa (Ha ub gb (pv 5) (dv 7) (fun _ _=>rfl)) ia) ba)))) Ma)
   (ma (Qp (pv 5) (dv 7) (ja Pc Oc (Ha ub gb (pv 5) (dv 7) (fun _ _=>rfl)) ia))))))
   (ma (Ba (dm 4))))) Ma)
   (ka (pd PassesOwn.never rfl (qe rfl T.z_range (aa (dv 2) ba)) (Pb (i:=6) Wd.nd rfl (Or.inl rfl)) (ka (Aa (i:=8) Wd.nd rfl (Or.inl rfl) (ja La Ka (ja Ke De (ja Ke De (ja La Ka (dv 6) (dv 1)) (ja La Ka (dv 6) (dv 1))) ia) ia))
   (ka (Aa (i:=9) Wd.nd rfl (Or.inl rfl) (ja Xa Wa (ja Ke De (ja La Ka (ja Xa Wa (Ha ub gb (pv 3) (ja Xa Wa (dv 6) (Ib md Gc rfl T.z_len PySem.boot_len (pv 3))) (fun _ _=>rfl)) ia) (dv 8)) ia) ia))
   (ka (Aa (i:=9) Wd.nd rfl (Or.inl rfl) (ja Xa Wa (ja La Ka (ja Ke De (dv 9) (dv 9)) (ja Ke De ia (dv 6))) ia))
   (ma (Tb (Sb ac PySem.F.slot_list_append PySem.F.type_list_append zb (pv 4) (aa (ja Xa Wa (ja Ke De (dv 9) (dv 9)) ia) ba))))))))
   (ma (Ba (dm 4))))))),?_⟩
  have sz:=Sa;have ec:∃cs:List Int,cutD (ns.map .int) none (some 63)=cs.map .int/\cs.length<=63:=by
   refine⟨ns.take 63,?_,by rw[length_take];omega⟩;rw[show(63:Int)=((63:Nat):Int) from rfl,we,map_take]
  obtain⟨cs0,ec,hcl⟩:=ec;walk_at "vd";rw[ec];have e2:List.map D.int cs0++[D.int t]=(cs0++[(t:Int)]).map .int:=by simp
  rw[e2];generalize hcs:cs0++[(t:Int)]=cs;have hcs1:0<cs.length:=by rw[<-hcs];simp
  have hcs2:cs.length<=64:=by rw[<-hcs];simp;omega
  obtain⟨c0,e0⟩:=nn (ns:=cs) (i:=0) (by decide) (by omega);refine⟨by omega,by simp;omega,by omega,_,e0,?_⟩;walk_at "vd";refine⟨⟨by decide,by decide⟩,by decide,ite2 (fun _=>?_) fun _=>?_⟩
  ·refine iq (fun _ y=>∃x:Int,y=.int x) (by simp;omega) (fun d hd P hP=>?_) fun ys hys=>?_
   ·obtain⟨x,_,rfl⟩:=mem_map.mp hd;walk_at "vd";exact⟨⟨by decide,by decide⟩,hP _ ⟨_,rfl⟩⟩
   ·obtain⟨ls,rfl,hls⟩:∃ls:List Int,ys=ls.map .int/\ls.length=cs.length:=by
     have:∀{ds ys:List D},All2 (fun _ y=>∃x:Int,y=.int x) ds ys->∃ls:List Int,ys=ls.map .int/\ls.length=ds.length:=by
      intro ds ys h;induction h with
      |nil=>exact⟨[],rfl,rfl⟩
      |cons g _ ih =>
       obtain⟨x,rfl⟩:=g;obtain⟨ls,rfl,hl⟩:=ih;exact⟨x::ls,rfl,by simp[hl]⟩
     obtain⟨ls,h1,h2⟩:=this hys;exact⟨ls,h1,by simpa using h2⟩
    walk_at "vd";refine⟨by omega,by omega,Df [6,7] (fun i δ=>∃(fs ls:List Int),fs.length=i - t/\ls.length=cs.length/\δ=[.sc K ns,.fz (.int t),.fz (.int m),.fz (.lst (cs.map .int)),.ob false (.lst (fs.map .int)),.ob false (.lst (ls.map .int)),.no,.no,.no,.no]) ⟨[],ls,by simp,hls,rfl⟩ ?_ ?_⟩
    ·rintro i δ hi ⟨fs,ls,hf,hl,rfl⟩;walk_at "vd";have hL:((List.map D.int ls).length:Int)=cs.length:=by simp[hl]
     rw[hL];have h0:0<(cs.length:Int):=by omega
     have a1:=jc (a:=(i:Int)) h0;have a2:=kc (a:=(i:Int)) h0;generalize (i:Int) % (cs.length:Int)=k at a1 a2 ⊢;obtain⟨x,ex⟩:=nn (ns:=ls) a1 (by omega);obtain⟨j,ej,hj⟩:=j8e (n:=(List.map D.int ls).length) a1 (by omega);have es:∀v:Int,(List.map D.int ls).set j (.int v)=(ls.set j v).map .int:=fun v=>by simp
     refine⟨h0,ite2 (fun hge=>⟨_,ex,?_⟩) fun hlt=>⟨_,ex,?_⟩⟩
     ·walk_at "vd";refine⟨by decide,by simp;omega,_,ex,?_⟩;walk_at "vd";refine⟨⟨by decide,by decide⟩,j,ej,fs++[x % 2147483587],ls.set j (x / 2147483587),by simp;omega,by simp[hl],?_⟩;rw[es];simp
     ·walk_at "vd";refine⟨⟨by decide,by decide⟩,j,ej,fs,ls.set j (x / 2147483587),by omega,by simp[hl],?_⟩;rw[es]
    ·rintro δ ⟨fs,ls,hf,hl,rfl⟩;walk_at "vd";exact q fs (by omega)
  ·refine⟨by omega,by omega,Df [6,8,9] (fun i δ=>∃fs:List Int,fs.length=i/\δ=[.sc K ns,.fz (.int t),.fz (.int m),.ob false (.lst (cs.map .int)),.ob false (.lst (fs.map .int)),.no,.no,.no,.no,.no]) ⟨[],rfl,rfl⟩ ?_ ?_⟩
   ·rintro i δ hi ⟨fs,hf,rfl⟩;walk_at "vd";have hL:((List.map D.int cs).length:Int)=cs.length:=by simp
    rw[hL];have h0:0<(cs.length:Int):=by omega
    obtain⟨x,ex⟩:=nn (ns:=cs) (jc (a:=(i:Int)) h0) (kc h0);refine⟨.inl ⟨by omega,by omega⟩,.inr ⟨by decide,by decide⟩,h0,_,ex,?_⟩;walk_at "vd";have b1:=jc (a:=(x % 2147483647+(((i:Int)+t) * (i+t) * 7919+104729)) * 48271) (b:=2147483647) (by decide);have b2:=kc (a:=(x % 2147483647+(((i:Int)+t) * (i+t) * 7919+104729)) * 48271) (b:=2147483647) (by decide);generalize (x % 2147483647+(((i:Int)+t) * (i+t) * 7919+104729)) * 48271 % 2147483647=y at b1 b2 ⊢;have b3:=jc (a:=y * y+69621 * (i:Int)) (b:=2147483629) (by decide);have b4:=kc (a:=y * y+69621 * (i:Int)) (b:=2147483629) (by decide);generalize (y * y+69621 * (i:Int)) % 2147483629=z at b3 b4 ⊢;refine⟨by decide,.inr ⟨by decide,by decide⟩,by decide,.inl ⟨by omega,by omega⟩,.inl ⟨by decide,by decide⟩,by decide,.inl ⟨by omega,by omega⟩,by decide,by simp;omega,fs++[z * z % 2147483587],by simp;omega,by simp⟩
   ·rintro δ ⟨fs,hf,rfl⟩;walk_at "vd";exact q fs (by omega)
def q8m (K:W.Frag):RD:=fun δ Q=>∃(ns:List Int)(k:Nat),δ=[.sc K ns,.fz (.int k)]/\Q false (.int (ns.getD k 0)) [.no,.no]
theorem j4h (u1s:Ent K mg "_law_cell_at" bj ["_law_script","_law_k"] f fd)(T:Zs K mg):FnOk P w K mg base CX0 1 f fd ["_law_script","_law_k"] (spD (q8m K)):=by
 refine VL.Fun.dok u1s.F y0s (fun δ Qd h=>?_) (by decide) (fun cdv A outer s H E δ Qd hr h=>?_)
 ·obtain⟨_,_,rfl,_⟩:=h;rfl
 ·obtain⟨ns,k,rfl,q⟩:=h;refine⟨_,(ka (Ia (Ga dh Vg (dv 1) (j2v (K:=K) rfl rfl T.z_len (pv 0)) (za _)) (ma (Ba (j9d (K:=K) rfl (pv 0) (dv 1)))) Ma)
   (ma (Ba ia))),?_⟩
  walk_at "vd";by_cases hk:(k:Int)<ns.length
  ·rw[if_pos hk];have hk':k<ns.length:=by omega
   refine⟨ns[k],wc (by rw[getElem?_eq_getElem hk']),?_⟩;rw[getD_eq_getElem?_getD,getElem?_eq_getElem hk']at q;exact q
  ·rw[if_neg hk];rw[getD_eq_getElem?_getD,getElem?_eq_none (by omega)]at q;exact q
theorem Zc {R:RD}{vs:List V}{ds:List D}{H:Hp}{Q:VK}{E:XK}{Qd:Bool->D->List Slot->Prop}(r:Reps H ds vs)(h:R (ds.map .fz) Qd)(k:∀b d δ' v H',Same H H'->Qd b d δ'->Rep H' d v->Q v H'):spD R vs H Q E:=by
 refine⟨_,[],H,_,Qd,fun p a e=>by simp at e,lh (Same.refl _) r,h,fun b d v δ' F' H' I q=>?_⟩;obtain⟨F2,s,I2,rv⟩:=I.fr;exact k b d δ' v H' I.base q (Rep.mono I2.sub _ _ rv)
theorem RepL.reps {H:Hp}{vs:List V}{ps:List Part}{o:List V}{F:List Addr}(h:RepL H vs ps o F):Reps H (pDs ps) vs:=by
 induction h with
 |nil=>rfl
 |txt _ ih=>exact⟨_,_,rfl,rfl,ih⟩
 |tup ht hl h1 h2 ih1 ih2=>exact⟨_,_,rfl,⟨_,_,rfl,ht,_,_,rfl,rfl,_,_,rfl,⟨_,_,rfl,hl,ih1⟩,rfl⟩,ih2⟩
mutual
theorem q8v:∀p:Part,dep (pD p)<=2 * dp1 p
 |.txt s=>by simp[pD,dep]
 |.tup n ps=>by
  have:=rn ps;simp only[pD,dep,depL,dp1];omega
theorem rn:∀ps:List Part,depL (pDs ps)<=2 * dpL ps
 | []=>by simp[pDs,depL]
 |p::ps=>by
  have h1:=q8v p;have h2:=rn ps;simp only[pDs,depL,dpL];omega
end
mutual
theorem q8e:∀p:Part,Qa p<=1000000->okA (pD p)=true
 |.txt s,_=>rfl
 |.tup n ps,h=>by
  simp only[Qa]at h;have:=vn ps (by omega);have h2:=ze ps;simp only[pD,okA,okAL,this,Bool.and_true,Lg,length_cons,length_nil,Bool.true_and,and_eq_true,decide_eq_true_eq];omega
theorem vn:∀ps:List Part,Da ps<=1000000->okAL (pDs ps)=true
 | [],_=>rfl
 |p::ps,h=>by
  simp only[Da]at h;simp[pDs,okAL,q8e p (by omega),vn ps (by omega)]
end
open StrLaws
theorem x1t (s sub:Str)(hi:Nat)(i f:Nat):∀l:List Nat,(forIn l ((#[i]:Array Nat),f) (occBody s sub hi 1)).run.fst = #[i]
 | []=>rfl
 |a::l=>by
  rw[forIn_cons];unfold occBody;rw[if_neg (by simp)];exact x1t s sub hi i f l
theorem y7f (x:Str)(c:Nat):∀(n lo free:Nat),free<=lo->lo+n=x.length+1 ->
  (forIn (List.range' lo n) ((#[]:Array Nat),free) (occBody x ⟨#[c]⟩ x.length 1)).run.fst.toList=if c∈x.cps.toList.drop lo then[lo+((x.cps.toList.drop lo).takeWhile (· ≠ c)).length] else[]
 |0,lo,free,_,e=>by
  have hl:x.cps.toList.length=x.length:=wb x;rw[List.drop_eq_nil_of_le (by omega)];simp
 |n+1,lo,free,hf,e=>by
  have hl:x.cps.toList.length=x.length:=wb x;rw[List.range'_succ,forIn_cons];have h1:=subAt_one x c lo;by_cases hc:x.cps.toList[lo]? = some c
  ·have hlt:=(List.getElem?_eq_some_iff.mp hc).1;have hd:x.cps.toList.drop lo=c::x.cps.toList.drop (lo+1):=by
    rw[drop_eq_getElem_cons hlt];rw[(List.getElem?_eq_some_iff.mp hc).2]
   obtain⟨q1,q2⟩:=h1.mpr hc;have st:=x1t x ⟨#[c]⟩ x.length lo (lo+(⟨#[c]⟩:Str).length) (List.range' (lo+1) n);unfold occBody at st ⊢;rw[if_pos ⟨⟨⟨by simp,hf⟩,q1⟩,q2⟩];rw[hd,if_pos (by simp),takeWhile_cons,if_neg (by simp)];exact(congrArg toList st).trans rfl
  ·have ih:=y7f x c n (lo+1) free (by omega) (by omega);have hn:¬((((((#[]:Array Nat),free):Array Nat×Nat).fst.size<1/\((#[]:Array Nat),free).snd<=lo)/\lo+(⟨#[c]⟩:Str).length<=x.length)/\Builtin.Str.subAt x ⟨#[c]⟩ lo=true):=fun h=>hc (h1.mp ⟨h.1.2,h.2⟩);have e1:occBody x ⟨#[c]⟩ x.length 1 lo ((#[]:Array Nat),free)=pure (ForInStep.yield ((#[]:Array Nat),free)):=by
    unfold occBody;rw[if_neg hn]
   rw[e1];show(forIn (List.range' (lo+1) n) ((#[]:Array Nat),free) (occBody x ⟨#[c]⟩ x.length 1)).run.fst.toList=_;rw[ih];by_cases hlt:lo<x.cps.toList.length
   ·have hd:x.cps.toList.drop lo=x.cps.toList[lo]::x.cps.toList.drop (lo+1):=drop_eq_getElem_cons hlt;have hne:x.cps.toList[lo]≠c:=fun z=>hc (by rw[getElem?_eq_getElem hlt,z]);have htw:(x.cps.toList[lo]::x.cps.toList.drop (lo+1)).takeWhile (· ≠ c)=x.cps.toList[lo]::(x.cps.toList.drop (lo+1)).takeWhile (· ≠ c):=by
     rw[takeWhile_cons,if_pos (decide_eq_true hne)]
    rw[hd,htw];by_cases hm:c∈x.cps.toList.drop (lo+1)
    ·rw[if_pos hm,if_pos (mem_cons_of_mem _ hm),length_cons];congr 1;omega
    ·rw[if_neg hm,if_neg (by simp only[mem_cons,not_or];exact⟨fun z=>hne z.symm,hm⟩)]
   ·rw[List.drop_eq_nil_of_le (by omega),List.drop_eq_nil_of_le (by omega)];simp
theorem j8v {l:Cs}{b:Nat}(hb:b<=l.length):qg (strC l) ⟨#[34]⟩ (b:Int)=if 34∈l.drop b then((b+((l.drop b).takeWhile (· ≠ 34)).length:Nat):Int) else -1:=by
 have hl:=Na l;have hf:PySem.fromIndex (strC l).length (b:Int)=b:=by
  unfold PySem.fromIndex;rw[if_neg (by omega)];omega
 have hc:(strC l).cps.toList=l:=fb l;have e:=y7f (strC l) 34 ((strC l).length+1 - b) b b (le_refl _) (by omega);rw[<-occ_eq,hc]at e;unfold qg;rw[hf,e];by_cases h:34∈l.drop b
 ·rw[if_pos h,if_pos h]
 ·rw[if_neg h,if_neg h]
theorem j7f (x:Cs)(c:Nat):endswith (strC x) ⟨#[c]⟩=Zd c x:=by
 have hl:=Na x;have hs:=subAt_one (strC x) c ((strC x).length - 1);have hc:(strC x).cps.toList=x:=fb x;rw[hc,hl]at hs;have e:Zd c x=decide (x[x.length - 1]? = some c):=by unfold Zd;rw[List.getLast?_eq_getElem?]
 rw[e];unfold endswith
 show(decide (0+1<=(strC x).length)&&Builtin.Str.subAt (strC x) ⟨#[c]⟩ ((strC x).length - 1))=_;rw[hl];by_cases h:x[x.length - 1]? = some c
 ·obtain⟨h1,h2⟩:=hs.mpr h;rw[decide_eq_true h,h2];have:x.length - 1<x.length:=(List.getElem?_eq_some_iff.mp h).1;rw[decide_eq_true (by omega)];rfl
 ·rw[decide_eq_false h];by_cases h0:0+1<=x.length
  ·rw[decide_eq_true h0,Bool.true_and];cases q:Builtin.Str.subAt (strC x) ⟨#[c]⟩ (x.length - 1) with
   |false=>rfl
   |true=>exact absurd (hs.mp ⟨by show x.length - 1+1<=x.length;omega,q⟩) h
  ·rw[decide_eq_false h0];rfl
theorem q5d (x:Cs)(c:Nat):startswith (strC x) ⟨#[c]⟩=decide (x.head? = some c):=by
 have hl:=Na x;have hs:=subAt_one (strC x) c 0;have hc:(strC x).cps.toList=x:=fb x;rw[hc,hl]at hs;unfold startswith
 show(decide (0+1<=(strC x).length)&&Builtin.Str.subAt (strC x) ⟨#[c]⟩ 0)=_;rw[hl,List.head?_eq_getElem?];by_cases h:x[0]? = some c
 ·obtain⟨h1,h2⟩:=hs.mpr h;have:0<x.length:=(List.getElem?_eq_some_iff.mp h).1;rw[decide_eq_true h,h2,decide_eq_true (by omega)];rfl
 ·rw[decide_eq_false h];by_cases h0:0+1<=x.length
  ·rw[decide_eq_true h0,Bool.true_and];cases q:Builtin.Str.subAt (strC x) ⟨#[c]⟩ 0 with
   |false=>rfl
   |true=>exact absurd (hs.mp ⟨by show 0+1<=x.length;omega,q⟩) h
  ·rw[decide_eq_false h0];rfl
end
open StrLaws
local macro_rules|`(tactic| walk_at "vd")=>do
 let u<-("reduceIte x8g x4s x5i y2k z8j z9g z8m x8t z8q z8f x9z x8f q1u x5j j1r x9d x6a x5l j0l x5q x6l z6j x9b z8y z8u z6s j1k q0e j5n z9c y2n v_if j4n v_c j5f v_mv v_op j3w j3n x7h q9z j1j v_or x7a x5f x9e j4c j4e q9q x7k j4d j2q v_CB j2u q9k v_mt v_gN z8d z9b z8c x7y j4q y2o z9k z8e x5u z8k x6p v_aV v_aO z6t v_oN v_oS x7r j1z q9x x6h z8t q9w x4p v_I v_Ic z8z z8n z9a z8b j2n q2e j0h j3j q1j x5a j4a x6m y2m x6t x5h j3o z6k q2a q0n z8g z9f z6n z8p z6o z6q j5i z3s z3u z3h z3j z2r z3z z3x z3l z3k z2s z3t z3y z3g z3f z2q z8v x4n j3e x8u j5a z8i".splitOn " ").mapM fun n=>`(Lean.Parser.Tactic.simpLemma| ↓ $(Lean.mkIdent n.toName):term);let v<-("j4g x9l z5p z5l z5q j3m j1n outS z6p z5n z5j List.map_cons List.map_nil List.length_cons List.length_nil Nat.reduceAdd List.replicate_succ List.replicate_zero List.cons_append List.nil_append List.append_nil List.drop_succ_cons List.drop_zero List.filter_cons List.filter_nil Option.isNone_none Option.isNone_some and_true true_and decide_eq_true_eq Bool.true_eq_false Bool.false_eq_true Bool.not_true Bool.not_false Bool.not_eq_eq_eq_not decide_true decide_false if_true if_false eq_self Int.zero_add List.isEmpty_nil List.isEmpty_cons not_true_eq_false not_false_eq_true false_and and_false Option.isSome_none Option.isSome_some z5x fgt List.set_cons_zero List.set_cons_succ x9s q9e q8j j9o j4o x2j x5d x8o x2k q9c q8i q6w q6v q6z y7o".splitOn " ").mapM fun n=>`(Lean.Parser.Tactic.simpLemma| $(Lean.mkIdent n.toName):term)
 `(tactic|((try dsimp only[$((u.drop 1++v).toArray),*]);(try simp only[$((u++v).toArray),*])))
def cD (x:Cs):D:=.str (strC x)
theorem j9k:Str.ofString "(" = ⟨#[40]⟩:=by decide +kernel
theorem Ij:Str.ofString "(" = strC [40]:=by decide +kernel
theorem gi:Str.ofString "*" = strC [42]:=by decide +kernel
theorem Pg:Str.ofString ")" = strC [41]:=by decide +kernel
theorem wn:Str.ofString "\"" = strC [34]:=by decide +kernel
theorem Jj:Str.ofString " " = strC [32]:=by decide +kernel
theorem q7p:Str.ofString "" = strC []:=by decide +kernel
theorem Qg (a b:Cs):(strC a=strC b)=(a=b):=propext ⟨Yd,fun h=>by rw[h]⟩
theorem xn:∀{ps:List Part}{p:Part},okL ps=true->p∈ps->ok1 p=true
 |q::ps,p,h,hm=>by
  simp only[okL,and_eq_true]at h;rcases mem_cons.mp hm with rfl|hm
  ·exact h.1
  ·exact xn h.2 hm
noncomputable def oD:Option Part->D
 |none=>.non
 |some p=>pD p
noncomputable def pcS:List (Option Part)->List Cs
 | []=>[]
 |none::st=>[41]::pcS st
 |some p::st=>pc1 p++pcS st
theorem yn:∀a b:List (Option Part),pcS (a++b)=pcS a++pcS b
 | [],b=>rfl
 |none::a,b=>by rw[cons_append,pcS,yn a b,pcS];rfl
 |some p::a,b=>by rw[cons_append,pcS,yn a b,pcS,append_assoc]
theorem Kj:∀ps:List Part,pcS (ps.map some)=pcL ps
 | []=>rfl
 |p::ps=>by rw[map_cons,pcS,Kj ps,pcL]
theorem q9o:∀p:Part,1<=(pc1 p).length
 |.txt s=>by simp[pc1]
 |.tup n ps=>by by_cases hn:n = "*"<;>simp[pc1,hn]
theorem ii:∀st:List (Option Part),st.length<=(pcS st).length
 | []=>zero_le _
 |none::st=>by have:=ii st;simp only[pcS,length_cons];omega
 |some p::st=>by have:=ii st;have:=q9o p;simp only[pcS,length_cons,length_append];omega
mutual
noncomputable def mD:D->Nat
 |.tup xs=>2+mDs xs
 |.lst xs=>mDs xs
 |.str _=>1
 |.non=>1
 |_=>0
noncomputable def mDs:List D->Nat
 | []=>0
 |d::r=>mD d+mDs r
end
theorem ji (xs ys:List D):mDs (xs++ys)=mDs xs+mDs ys:=by
 induction xs with
 |nil=>simp[mDs]
 |cons a r ih=>simp[mDs,ih];omega
theorem q1z:∀xs:List D,mDs xs.reverse=mDs xs
 | []=>rfl
 |a::r=>by rw[reverse_cons,ji,q1z r];simp[mDs];omega
noncomputable def μw (δ:List VL.Slot):Nat:=match δ[2]? with|some (VL.Slot.ob _ (D.lst xs))=>mDs xs|_=>0
section
variable {P:Program}{w:World}{K:W.Frag}{mg:Str->Option Value}{base:Heap}{f:Addr}{fd:FuncData}
def j6f:RD:=fun δ Q=>∃s:Str,δ=[.fz (.str s)]/\txB s=true/\Q false (cD (quoC s)) [.no]
theorem j9t (u1w:Ent K mg "quoted" Ve ["text"] f fd)(T:Zs K mg):FnOk P w K mg base CX0 1 f fd ["text"] (spD j6f):=by
 refine VL.Fun.dok u1w.F x5k (fun δ Qd h=>?_) (by decide) (fun cdv A outer s H E δ Qd hr h=>?_)
 ·obtain⟨_,rfl,_⟩:=h;rfl
 ·obtain⟨s,rfl,hs,q⟩:=h;refine⟨_,(ma (Ba (ja Db Bb (ja Db Bb (ue rfl T.g_QUOTE) (Yl (Yl (dv 0) .lit .lit rfl (by decide +kernel) (by decide +kernel)) (tk_g rfl T.t_QUOTE) .lit rfl (by decide +kernel) (by decide +kernel))) (ue rfl T.g_QUOTE)))),?_⟩;have sz:=Sa;obtain⟨l1,l2,l3⟩:=kr hs;walk_at "vd";have e1:Txt.replace (Txt.replace s (Str.ofString "\\") (Str.ofString "\\\\")) (Str.ofString "\"") (Str.ofString "\\q")=strC (escC (csS s)):=j0w s;rw[e1,wn,Kc,Kc];have l4:(quoC s).length=(escC (csS s)).length+2:=by unfold quoC;simp
  have e2:[34]++escC (csS s)++[34]=quoC s:=by unfold quoC;simp
  have l2':(Txt.replace s (Str.ofString "\\") (Str.ofString "\\\\")).length<=6000:=l2;have l5:(strC [34]).length=1:=rfl;rw[e2];have l6:=Na (escC (csS s));have l7:=Na ([34]++escC (csS s));rw[length_append,length_singleton]at l7;exact⟨by omega,by omega,by omega,by omega,q⟩
def q8l:RD:=fun δ Q=>∃x y:Cs,δ=[.fz (cD x),.fz (cD y)]/\Q false (cD (glu x y)) [.no,.no]
theorem j3p (u4u:Ent K mg "glue" Pf ["left","right"] f fd)(T:Zs K mg):FnOk P w K mg base CX0 1 f fd ["left","right"] (spD q8l):=by
 refine VL.Fun.dok u4u.F j0z (fun δ Qd h=>?_) (by decide) (fun cdv A outer s H E δ Qd hr h=>?_)
 ·obtain⟨_,_,rfl,_⟩:=h;rfl
 ·obtain⟨x,y,rfl,q⟩:=h;refine⟨_,(ma (Ba (Li (dt_w (yd (Vb (j0j (dv 0) qa)) (je (Ga cb Ra (dv 1) qa (za _))))) qa qa))),?_⟩;have sz:=Sa;unfold cD;walk_at "vd";rw[j9k,j7f,Pg,q7p,Jj];unfold glu at q;cases h1:Zd 40 x with
  |true=>rw[h1]at q;rw[if_pos rfl];exact q
  |false =>
   rw[h1]at q;rw[if_neg (by simp)];by_cases h2:y=[41]
   ·rw[decide_eq_true h2]at q;rw[if_pos (by rw[h2])];exact q
   ·rw[decide_eq_false h2]at q;rw[if_neg fun z=>h2 (Yd z)];exact q
def x1w:RD:=fun δ Q=>∃ps:List Part,δ=[.fz (.lst (pDs ps))]/\okL ps=true/\wtL ps<=100000/\Q true (.lst ((pcL ps).map cD)) [.no]
theorem x5o {f1:Addr}{fd1:FuncData}(u2i:Ent K mg "pieces" Nf ["row"] f fd)(T:Zs K mg)(u1w:Ent K mg "quoted" Ve ["text"] f1 fd1):FnOk P w K mg base CX0 2 f fd ["row"] (spD x1w):=by
 have u7v:=j9t (P:=P) (w:=w) (base:=base) u1w T;refine VL.Fun.dok u2i.F kj (fun δ Qd h=>?_) (by decide) (fun cdv A outer s H E δ Qd hr h=>?_)
 ·obtain⟨_,rfl,_⟩:=h;rfl
 ·obtain⟨ps,rfl,ok,hs,q⟩:=h;have hs:=le_trans (sz_wt ps) hs;refine⟨_,(ka (Aa (i:=1) kj.nd rfl (Or.inl rfl) (Pa ba))
   (ka (Aa (i:=2) kj.nd rfl (Or.inl rfl) (Ni rfl rfl T.z_list rfl T.z_reversed (dv 0)))
   (ka (Cf PassesOwn.never (Nk (pv 2)) (ka (Aa (i:=3) kj.nd rfl (Or.inl rfl) (Yk gl slot_list_pop type_list_pop Di (pv 2)))
   (ma (Ia (Ga ig Ee (dv 3) Ac (za _)) (ma (Tb (Sb ac PySem.F.slot_list_append PySem.F.type_list_append zb (pv 1) (aa qa ba)))) (ma (Ia (Vb (Ob (Ic T.kit) (yc (K:=K) rfl) rfl T.z_isinstance boot_isinstance (aa (dv 3) (aa (Hc rfl T.z_str boot_str) ba)))) (ma (Tb (Sb ac PySem.F.slot_list_append PySem.F.type_list_append zb (pv 1) (aa (Va u7v (hr.mono (by decide)) rfl u1w.g u1w.F.kp u1w.b Ea (aa (dv 3) ba)) ba)))) (ma (Ia (Ga cb Ra (Ha Eb ib (pv 3) ia (fun _ _=>rfl)) (ue rfl T.g_STAR) (za _)) (ma (Tb (Sb ac PySem.F.slot_list_append PySem.F.type_list_append zb (pv 1) (aa (ue rfl T.g_STAR) ba)))) (ka (Tb (Sb ac PySem.F.slot_list_append PySem.F.type_list_append zb (pv 1) (aa (ja Db Bb (Ha Eb ib (pv 3) ia (fun _ _=>rfl)) qa) ba)))
   (ka (Tb (Sb ac PySem.F.slot_list_append PySem.F.type_list_append zb (pv 2) (aa Ac ba)))
   (ma (Tb (Sb Mp PySem.F.slot_list_extend PySem.F.type_list_extend Po (pv 2) (aa (Ni rfl rfl T.z_list rfl T.z_reversed (Ha Eb ib (pv 3) ia (fun _ _=>rfl))) ba))))))))))))))
   (ma (Ba (dm 1)))))),?_⟩
  have sz:=Sa;walk_at "vd";have hpl:=Aj ps;refine⟨by omega,[3],fun δ=>∃acc stack,acc++pcS stack=pcL ps/\(∀p,some p∈stack->ok1 p=true)/\δ=[.fz (.lst (pDs ps)),.ob false (.lst (acc.map cD)),.ob false (.lst (stack.reverse.map oD)),.no],μw,⟨[],ps.map some,Kj ps,fun p hp=>?_,by simp[fgt,Yc,oD,Function.comp_def]⟩,?_⟩
  ·obtain⟨p',hp',e⟩:=mem_map.mp hp;cases e;exact xn ok hp'
  rintro δ ⟨acc,stack,e,oks,rfl⟩;have el:=congrArg List.length e;rw[length_append]at el;walk_at "vd";cases stack with
  |nil =>
   refine ite2 (fun h=>by simp at h) fun _=>?_;rw[show pcS []=[] from rfl,append_nil]at e;rw[e];exact q
  |cons p st =>
   have e1:(p::st).reverse.map oD=st.reverse.map oD++[oD p]:=by simp
   rw[e1];refine ite2 (fun _=>?_) (fun h=>by simp at h);refine⟨oD p,by simp,?_⟩;rw[List.dropLast_concat];have hl1:(List.map cD acc).length=acc.length:=by simp
   have hl2:=ii (p::st);simp only[length_cons]at hl2;have oks':∀p,some p∈st->ok1 p=true:=fun p hp=>oks p (mem_cons_of_mem _ hp);cases p with
   |none =>
    simp only[oD];walk_at "vd";simp only[pcS]at e;refine⟨by omega,⟨acc++[[41]],st,by simpa using e,oks',by rw[Pg];simp[cD]⟩,?_⟩;simp only[μw,getElem?_cons_succ,getElem?_cons_zero,ji,mDs,mD];omega
   |some p =>
    have okp:=oks p mem_cons_self;cases p with
    |txt z =>
     simp only[oD,pD];walk_at "vd";simp only[pcS,pc1]at e;refine⟨z,rfl,okp,?_⟩;unfold cD;walk_at "vd";refine⟨by simpa using(show acc.length<sizeLine by omega),⟨acc++[quoC z],st,by simpa using e,oks',by simp[cD]⟩,?_⟩;simp only[μw,getElem?_cons_succ,getElem?_cons_zero,ji,mDs,mD];omega
    |tup nm qs =>
     simp only[oD,pD];walk_at "vd";rw[Ij];by_cases hn:nm = "*"
     ·have hn':nm=Str.ofString "*":=hn;rw[if_pos hn'];simp only[pcS,pc1,hn,if_true]at e;refine⟨by omega,⟨acc++[[42]],st,by simpa using e,oks',by rw[gi];simp[cD]⟩,?_⟩;simp only[μw,getElem?_cons_succ,getElem?_cons_zero,ji,mDs,mD];omega
     ·have hn':¬nm=Str.ofString "*":=hn;rw[if_neg hn'];simp only[pcS,pc1,hn,if_false]at e;simp only[ok1,hn,if_false,and_eq_true]at okp;have hnl:=(Ig okp.1).2;have hl3:=Lg qs;have e2:=congrArg List.length e;simp only[length_append,length_cons,length_nil]at e2;have hl5:=ii (qs.map some);rw[Kj,length_map]at hl5;have hl6:=ii st;refine⟨by show nm.length+1<=sizeLine;omega,by omega,by simp;omega,by simp;omega,⟨acc++[csS nm++[40]],qs.map some++none::st,by rw[yn,Kj];simpa[pcS] using e,fun p hp=>?_,?_⟩,?_⟩
      ·rcases mem_append.mp hp with hp|hp
       ·obtain⟨p',hp',z⟩:=mem_map.mp hp;cases z;exact xn okp.2 hp'
       ·rcases mem_cons.mp hp with z|hp
        ·cases z
        ·exact oks' p hp
      ·have e3:nm++strC [40]=strC (csS nm++[40]):=by rw[<-Kc,bc]
       rw[e3];simp[cD,oD,Yc,Function.comp_def]
      ·simp only[μw,getElem?_cons_succ,getElem?_cons_zero,ji,mDs,mD,q1z];omega
noncomputable def tl:List Cs->List Cs
 | []=>[]
 | [x]=>[x]
 |x::y::r=>x::glu x y::tl (y::r)
theorem q8g:∀l:List Cs,va [] (tl l)=glA l
 | []=>rfl
 | [x]=>rfl
 |x::y::r=>by
  have ih:=q8g (y::r);cases r with
  |nil=>simp[tl,va,glA]
  |cons z r =>
   simp only[tl,va,glA,append_nil]at ih ⊢;rw[ih];simp only[append_assoc]
theorem q0s:∀(a:List Cs)(x y:Cs),tl (a++[x]++[y])=tl (a++[x])++[glu x y,y]
 | [],x,y=>rfl
 | [z],x,y=>rfl
 |z::w::a,x,y=>by
  have ih:=q0s (w::a) x y;simp only[cons_append,tl]at ih ⊢;rw[ih]
theorem zn:∀l:List Cs,(tl l).length<=2 * l.length
 | []=>by simp[tl]
 | [x]=>by simp[tl]
 |x::y::r=>by have:=zn (y::r);simp only[tl,length_cons]at this ⊢;omega
theorem An:Str.ofString "-" = strC [45]:=by decide +kernel
theorem j3a (x y:Cs):(glu x y).length<=1:=by unfold glu;split<;>simp
theorem Cn:∀l:List Cs,((l.map strC).map (·.length)).sum<=(l.map fun x=>x.length+1).sum
 | []=>by simp
 |x::l=>by have:=Cn l;have:=Na x;simp only[map_cons,sum_cons];omega
theorem q6i:∀l:List Cs,(((tl l).map strC).map (·.length)).sum<=(l.map fun x=>x.length+1).sum
 | []=>by simp[tl]
 | [x]=>by simp[tl,Na]
 |x::y::l=>by
  have ih:=q6i (y::l);have:=j3a x y;have:=Na x;have:=Na (glu x y);simp only[tl,map_cons,sum_cons]at ih ⊢;omega
theorem Lj:∀ps:List Part,wrL ps=ps.map wr1
 | []=>rfl
 |p::ps=>by rw[wrL,Lj ps];rfl
theorem q0r (ps:List Part):(wrL ps).length=ps.length:=by rw[Lj];simp
theorem x9t:∀a b:Cs,escC (a++b)=escC a++escC b
 | [],b=>rfl
 |c::a,b=>by rw[cons_append,escC,x9t a b,escC,append_assoc]
theorem Dn:∀a:Cs,(escC a).length<=2 * a.length
 | []=>by simp[escC]
 |c::a=>by
  have:=Dn a;rw[escC,length_append,length_cons];split
  ·simp;omega
  ·split<;>(simp;omega)
theorem oS_bs:Str.ofString "\\" = strC [92]:=by decide +kernel
theorem oS_bq:Str.ofString "\\q" = strC [92,113]:=by decide +kernel
theorem oS_bb:Str.ofString "\\\\" = strC [92,92]:=by decide +kernel
theorem j6x (l:List Cs):l.map cD=(l.map strC).map D.str:=by rw[List.map_map];rfl
def y7r:RD:=fun δ Q=>∃ps:List Part,δ=[.fz (.lst (pDs ps))]/\okL ps=true/\wtL ps<=100000/\Q false (cD (va [32] (wrL ps))) [.no]
theorem x4d {f1 f2 f3:Addr}{fd1 fd2 fd3:FuncData}(u2g:Ent K mg "written" xg ["row"] f fd)(T:Zs K mg)(u2i:Ent K mg "pieces" Nf ["row"] f1 fd1)(u1w:Ent K mg "quoted" Ve ["text"] f2 fd2)(u4u:Ent K mg "glue" Pf ["left","right"] f3 fd3):FnOk P w K mg base CX0 3 f fd ["row"] (spD y7r):=by
 have u7w:=x5o (P:=P) (w:=w) (base:=base) u2i T u1w;have p0f:=j3p (P:=P) (w:=w) (base:=base) u4u T;refine VL.Fun.dok u2g.F Rh (fun δ Qd h=>?_) (by decide) (fun cdv A outer s H E δ Qd hr h=>?_)
 ·obtain⟨_,rfl,_⟩:=h;rfl
 ·obtain⟨ps,rfl,ok,hs,q⟩:=h;refine⟨_,(ka (Aa (i:=1) Rh.nd rfl (Or.inl rfl) (Va u7w (hr.mono (by decide)) rfl u2i.g u2i.F.kp u2i.b Ea (aa (dv 0) ba)))
   (ka (Aa (i:=2) Rh.nd rfl (Or.inl rfl) (Bc (pv 1) jb (Fa ia)))
   (ka (pd PassesOwn.never rfl (j6e rfl T.z_zip (aa (dv 1) (aa (Bc (pv 1) (Fa ia) jb) ba))) (ng (n:=2) rfl (Xc (Pb (i:=3) Rh.nd rfl (Or.inl rfl)) (Xc (Pb (i:=4) Rh.nd rfl (Or.inl rfl)) lg))) (ka (Tb (Sb ac PySem.F.slot_list_append PySem.F.type_list_append zb (pv 2) (aa (Va p0f (hr.mono (by decide)) rfl u4u.g u4u.F.kp u4u.b Ea (aa (dv 3) (aa (dv 4) ba))) ba)))
   (ma (Tb (Sb ac PySem.F.slot_list_append PySem.F.type_list_append zb (pv 2) (aa (dv 4) ba))))))
   (ma (Ba (oh qa (dv 2))))))),?_⟩
  have sz:=Sa;have hpl:=Aj ps;have hpm:=Pm ps;have hsz:=sz_wt ps;have hgl:=tm ps ok;walk_at "vd";refine⟨ps,rfl,ok,hs,?_⟩;generalize pcL ps=fd0 at hpl hpm hgl ⊢;walk_at "vd";have k1:cutD (List.map cD fd0) (some 1) none=(List.map cD fd0).drop 1:=Oe _ 1;have k2:cutD (List.map cD fd0) none (some 1)=(List.map cD fd0).take 1:=we _ 1;rw[k1,k2];refine og [3,4] (fun rr δ=>∃done rest,fd0=done++rest/\((rest=[]/\rr=[]) \/ ∃a x,done=a++[x]/\rr=zipD ((x::rest).map cD) (rest.map cD))/\δ=[.fz (.lst (pDs ps)),.fz (.lst (fd0.map cD)),.ob false (.lst ((tl done).map cD)),.no,.no]) ?_ ?_ ?_
  ·cases fd0 with
   |nil=>exact⟨[],[],rfl,.inl ⟨rfl,rfl⟩,rfl⟩
   |cons x r=>exact⟨[x],r,rfl,.inr ⟨[],x,rfl,rfl⟩,rfl⟩
  ·rintro d rr δ ⟨done,rest,e,hz,rfl⟩;rcases hz with ⟨_,z⟩|⟨a,x,rfl,z⟩
   ·cases z
   ·cases rest with
    |nil=>simp[zipD]at z
    |cons y r =>
     simp only[zipD,map_cons,List.zipWith_cons_cons,List.cons.injEq]at z;obtain⟨rfl,rfl⟩:=z;have el:=congrArg List.length e;simp only[length_append,length_cons,length_nil]at el;have hl:=zn (a++[x]);simp only[length_append,length_cons,length_nil]at hl;unfold cD;walk_at "vd";refine⟨x,y,rfl,?_⟩;unfold cD;walk_at "vd";refine⟨by simp;omega,by simp;omega,a++[x]++[y],r,by rw[e];simp,.inr ⟨a++[x],y,rfl,rfl⟩,?_⟩;rw[q0s];simp[cD]
  ·rintro δ ⟨done,rest,e,hz,rfl⟩;have hdone:done=fd0:=by
    rcases hz with ⟨rfl,_⟩|⟨a,x,rfl,z⟩
    ·rw[e,append_nil]
    ·cases rest with
     |nil=>rw[e,append_nil]
     |cons y r=>simp[zipD]at z
   subst hdone;walk_at "vd";have hl:=zn done;have hsum:=q6i done;have hj:=Wh [] (tl done);rw[q8g,hgl]at hj;refine⟨(tl done).map strC,by rw[j6x],joinOk_of_weight ?_ (by decide),?_⟩
   ·have h9:((tl done).map strC).length=(tl done).length:=length_map _;omega
   ·rw[q7p,hj];exact q
noncomputable def shR (ps:List Part):Cs:=if ps=[] then[45] else va [32] (wrL ps)
def y6q:RD:=fun δ Q=>∃ps:List Part,δ=[.fz (.lst (pDs ps))]/\okL ps=true/\wtL ps<=100000/\Q false (cD (shR ps)) [.no]
theorem x4b {f0 f1 f2 f3:Addr}{fd0 fd1 fd2 fd3:FuncData}(u2j:Ent K mg "show_row" zh ["row"] f fd)(T:Zs K mg)(u2g:Ent K mg "written" xg ["row"] f0 fd0)(u2i:Ent K mg "pieces" Nf ["row"] f1 fd1)(u1w:Ent K mg "quoted" Ve ["text"] f2 fd2)(u4u:Ent K mg "glue" Pf ["left","right"] f3 fd3):FnOk P w K mg base CX0 4 f fd ["row"] (spD y6q):=by
 have u7c:=x4d (P:=P) (w:=w) (base:=base) u2g T u2i u1w u4u;refine VL.Fun.dok u2j.F x0q (fun δ Qd h=>?_) (by decide) (fun cdv A outer s H E δ Qd hr h=>?_)
 ·obtain⟨_,rfl,_⟩:=h;rfl
 ·obtain⟨ps,rfl,ok,hs,q⟩:=h;refine⟨_,(ma (Ba (Li (Nk (pv 0)) (Va u7c (hr.mono (by decide)) rfl u2g.g u2g.F.kp u2g.b Ea (aa (dv 0) ba)) (ue rfl T.g_NOTHING)))),?_⟩;have sz:=Sa;walk_at "vd";cases ps with
  |nil =>
   rw[if_neg (by simp[pDs]),An];exact q
  |cons p ps =>
   rw[if_pos (by simp[pDs])];exact⟨_,rfl,ok,hs,by simpa[shR] using q⟩
theorem En:∀{ps:List Part}{p:Part},smL ps=true->p∈ps->sm1 p=true
 |q::ps,p,h,hp=>by
  simp only[smL,and_eq_true]at h;rcases mem_cons.mp hp with rfl|hp
  ·exact h.1
  ·exact En h.2 hp
def x0d (n:Nat):RD:=fun δ Q=>∃p:Part,δ=[.fz (pD p)]/\dp1 p<n/\sm1 p=true/\Qa p<=1000/\Q false (cD (wr1 p)) [.no]
theorem x2u (u0d:Ent K mg "_law_part_text" Dg ["_law_part"] f fd)(T:Zs K mg):∀n,FnOk P w K mg base CX0 (n+1) f fd ["_law_part"] (spD (x0d n)):=by
 intro n;induction n with
 |zero=>exact Og fun δ Q h=>by obtain⟨_,_,h,_⟩:=h;exact not_lt_zero _ h
 |succ n u2a =>
 refine VL.Fun.dok u0d.F Fg (fun δ Qd h=>?_) (by decide) (fun cdv A outer s H E δ Qd hr h=>?_)
 ·obtain⟨_,rfl,_⟩:=h;rfl
 ·obtain⟨p,rfl,hd,ok,hs,q⟩:=h;refine⟨_,(ka (Ia (Vb (Ob (Ic T.kit) (yc (K:=K) rfl) rfl T.z_isinstance boot_isinstance (aa (dv 0) (aa (Hc rfl T.z_str boot_str) ba)))) (ka (Aa (i:=1) Fg.nd rfl (Or.inl rfl) qa)
   (ka (pd PassesOwn.never rfl (Wl (dv 0)) (Pb (i:=2) Fg.nd rfl (Or.inl rfl)) (ma (Ia (Ga cb Ra (dv 2) qa (za _)) (ma (Aa (i:=1) Fg.nd rfl (Or.inl rfl) (ja Db Bb (dv 1) qa))) (ma (Ia (Ga cb Ra (dv 2) qa (za _)) (ma (Aa (i:=1) Fg.nd rfl (Or.inl rfl) (ja Db Bb (dv 1) qa))) (ma (Aa (i:=1) Fg.nd rfl (Or.inl rfl) (ja Db Bb (dv 1) (dv 2)))))))))
   (ma (Ba (ja Db Bb (ja Db Bb qa (dv 1)) qa))))) Ma)
   (ka (Ia (Ga cb Ra (Ha Eb ib (pv 0) ia (fun _ _=>rfl)) qa (za _)) (ma (Ba qa)) Ma)
   (ma (Ba (ja Db Bb (ja Db Bb (ja Db Bb (Ha Eb ib (pv 0) ia (fun _ _=>rfl)) qa) (oh qa (re ["_law_one"] ["_law_part","_law_signs_out","_law_sign"] rfl (show CScopeG (ya Dg) ["_law_part","_law_signs_out","_law_sign"] ["_law_one"] _ _ from⟨rfl,by decide +kernel,by decide +kernel,by decide +kernel,by decide +kernel⟩) (Ad (Ha Eb ib (pv 0) ia (fun _ _=>rfl))) (fun _ _ _ _ _=>(Jc (i:=0) (by decide) (show List.Nodup (["_law_one","_law_part","_law_signs_out","_law_sign"]:List Str) from by decide +kernel) rfl (Or.inl rfl))) (fun _ _ _ _ _=>Sd) (fun _ _ _ _ _=>(Va u2a (hr.mono (by omega)) rfl u0d.g u0d.F.kp u0d.b Ea (aa (dv 0) ba)))))) qa))))),?_⟩
  have sz:=Sa;cases p with
  |txt z =>
   have hl:=(kr (Im z (tx11 ok)).1).1;simp only[pD];walk_at "vd";refine⟨z,rfl,og [2] (fun rr δ=>∃a b,csS z=a++b/\rr=b.map (fun c=>D.str ⟨#[c]⟩)/\δ=[.fz (.str z),.fz (cD (escC a)),.no]) ⟨[],csS z,rfl,rfl,rfl⟩ ?_ ?_⟩
   ·rintro d rr δ ⟨a,b,e,hz,rfl⟩;cases b with
    |nil=>cases hz
    |cons c b =>
     obtain⟨rfl,rfl⟩:=List.cons.inj hz;have el:=congrArg List.length e;rw[wb,length_append,length_cons]at el;have he:=Dn a;have hc:=Na (escC a);unfold cD;walk_at "vd";rw[wn,oS_bs,oS_bq,oS_bb];have key:∀x:Cs,x.length<=2->escC [c]=x->(strC (escC a)).length+(strC x).length<=sizeLine/\∃a_1 b_1,csS z=a_1++b_1/\(b.map fun c=>D.str ⟨#[c]⟩)=(b_1.map fun c=>D.str ⟨#[c]⟩)/\([Slot.fz (D.str z),Slot.fz (D.str (strC (escC a)++strC x)),Slot.no]:List VL.Slot)=[Slot.fz (D.str z),Slot.fz (D.str (strC (escC a_1))),Slot.no]:=fun x hx ex=>by
      have:=Na x;refine⟨by omega,a++[c],b,by rw[e];simp,rfl,?_⟩;rw[Kc,x9t,ex]
     by_cases h1:c=34
     ·subst h1;rw[if_pos (show(⟨#[34]⟩:Str)=strC [34] from rfl)];exact key [92,113] (by decide) (by decide)
     ·have h1':¬(⟨#[c]⟩:Str)=strC [34]:=fun z=>h1 (by have:=Yd (a:=[c]) z;simpa using this);rw[if_neg h1'];by_cases h2:c=92
      ·subst h2;rw[if_pos (show(⟨#[92]⟩:Str)=strC [92] from rfl)];exact key [92,92] (by decide) (by decide)
      ·have h2':¬(⟨#[c]⟩:Str)=strC [92]:=fun z=>h2 (by have:=Yd (a:=[c]) z;simpa using this);rw[if_neg h2'];exact key [c] (by simp) (by simp[escC,h1,h2])
   ·rintro δ ⟨a,b,e,hz,rfl⟩;have hb:b=[]:=by cases b with
     |nil=>rfl
     |cons=>cases hz
    subst hb;rw[append_nil]at e;rw[<-e];have he:=Dn (csS z);have hc:=Na (escC (csS z));have hcl:=wb z;unfold cD;walk_at "vd";have l3:(strC [34]).length=1:=rfl;have l4:=Str.len_app (strC [34]) (strC (escC (csS z)));rw[wn];refine⟨by omega,by omega,?_⟩;rw[Kc,Kc];have e2:[34]++escC (csS z)++[34]=quoC z:=by unfold quoC;simp
    rw[e2];exact q
  |tup nm qs =>
   simp only[pD];walk_at "vd";by_cases hn:nm = "*"
   ·have hn':nm=Str.ofString "*":=hn;rw[if_pos hn',gi];simp only[wr1,hn,if_true]at q;exact q
   ·have hn':¬nm=Str.ofString "*":=hn;rw[if_neg hn'];simp only[sm1,hn,if_false,and_eq_true]at ok;simp only[wr1,hn,if_false]at q;simp only[dp1]at hd;simp only[Qa]at hs;have hnl:=(yj ok.1).2;have hle:=ze qs;rw[Yc];refine⟨by show nm.length+1<=sizeLine;omega,Mg pD (fun p=>cD (wr1 p)) qs (by omega) (fun p hp P hP=>?_) ?_⟩
    ·have h1:=Tr hp;have h2:=sz_mem hp;walk_at "vd";exact⟨p,rfl,by omega,En ok.2 hp,by omega,hP⟩
    ·have e1:qs.map (fun p=>cD (wr1 p))=((wrL qs).map strC).map D.str:=by rw[Lj,List.map_map,List.map_map];rfl
     have hj:=Wh [32] (wrL qs);have hw:=ai qs ok.2;have hl:=Dr ok.2;have e2:nm++strC [40]++strC (va [32] (wrL qs))++strC [41]=strC (csS nm++40::(va [32] (wrL qs)++[41])):=by
      rw[<-bc nm,Kc,Kc,Kc,fb];simp
     refine⟨(wrL qs).map strC,by rw[e1],joinOk_of_weight ?_ (by decide),?_⟩
     ·have:=Cn (wrL qs);have:=q0r qs;have h9:((wrL qs).map strC).length=(wrL qs).length:=length_map _;omega
     ·rw[Jj,hj,Ij,Pg];have l1:=Str.len_app nm (strC [40]);have l2:=Str.len_app (nm++strC [40]) (strC (va [32] (wrL qs)));have l3:(strC [40]).length=1:=rfl;have l4:(strC [41]).length=1:=rfl;have l5:=Na (va [32] (wrL qs));refine⟨by omega,by omega,?_⟩;rw[e2];exact q
def x6d (n:Nat):RD:=fun δ Q=>∃ps:List Part,δ=[.fz (.lst (pDs ps))]/\dpL ps<n/\smL ps=true/\Da ps<=1000/\Q false (cD (shR ps)) [.no]
theorem q2t {f1:Addr}{fd1:FuncData}(u1i:Ent K mg "_law_row_text" Kh ["_law_row"] f fd)(T:Zs K mg)(u0d:Ent K mg "_law_part_text" Dg ["_law_part"] f1 fd1)(n:Nat):FnOk P w K mg base CX0 (n+2) f fd ["_law_row"] (spD (x6d n)):=by
 have u2a:=x2u (P:=P) (w:=w) (base:=base) u0d T n;refine VL.Fun.dok u1i.F y0b (fun δ Qd h=>?_) (by decide) (fun cdv A outer s H E δ Qd hr h=>?_)
 ·obtain⟨_,rfl,_⟩:=h;rfl
 ·obtain⟨ps,rfl,hd,ok,hs,q⟩:=h;have hu:=Qb hr;refine⟨_,(ka (Ia (gh (fh hu) cg (pv 0) (Pa ba) (za _)) (ma (Ba qa)) Ma)
   (ma (Ba (oh qa (re ["_law_part"] ["_law_row"] rfl (show CScopeG (ya Kh) ["_law_row"] ["_law_part"] _ _ from⟨rfl,by decide +kernel,by decide +kernel,by decide +kernel,by decide +kernel⟩) (Ad (dv 0)) (fun _ _ _ _ _=>(Jc (i:=0) (by decide) (show List.Nodup (["_law_part","_law_row"]:List Str) from by decide +kernel) rfl (Or.inl rfl))) (fun _ _ _ _ _=>Sd) (fun _ _ _ _ _=>(Va u2a (hr.mono (by omega)) rfl u0d.g u0d.F.kp u0d.b Ea (aa (dv 0) ba)))))))),?_⟩
  have sz:=Sa;walk_at "vd";refine⟨by omega,?_⟩;cases ps with
  |nil =>
   rw[if_pos (show(pDs []).isEmpty=true from rfl),An];exact q
  |cons p ps =>
   rw[if_neg (by simp[pDs])];have hle:=ze (p::ps);rw[Yc];refine Mg pD (fun p=>cD (wr1 p)) (p::ps) (by omega) (fun p' hp P hP=>?_) ?_
   ·have h1:=Tr hp;have h2:=sz_mem hp;walk_at "vd";exact⟨p',rfl,by omega,En ok hp,by omega,hP⟩
   ·have e1:(p::ps).map (fun p=>cD (wr1 p))=((wrL (p::ps)).map strC).map D.str:=by rw[Lj,List.map_map,List.map_map];rfl
    have hj:=Wh [32] (wrL (p::ps));have hw:=ai (p::ps) ok;refine⟨(wrL (p::ps)).map strC,by rw[e1],joinOk_of_weight ?_ (by decide),?_⟩
    ·have:=Cn (wrL (p::ps));have:=q0r (p::ps);have h9:((wrL (p::ps)).map strC).length=(wrL (p::ps)).length:=length_map _;omega
    ·rw[Jj,hj];rw[show shR (p::ps)=va [32] (wrL (p::ps)) by simp[shR]]at q;exact q
theorem v_ord {c:Nat}{Q:Bool->D->Prop}:fOrd [.str ⟨#[c]⟩] Q=Q false (.int c) :=
 propext ⟨fun⟨d,e,h⟩=>by cases e;exact h,fun h=>⟨c,rfl,h⟩⟩
end
local macro_rules|`(tactic| walk_at "vd")=>do
 let u<-("reduceIte x8g x4s x5i y2k z8j z9g z8m x8t z8q z8f x9z x8f q1u x5j j1r x9d x6a x5l j0l x5q x6l z6j x9b z8y z8u z6s j1k q0e j5n z9c y2n v_if j4n v_c j5f v_mv v_op j3w j3n x7h q9z j1j v_or x7a x5f x9e j4c j4e q9q x7k j4d j2q v_CB j2u q9k v_mt v_gN z8d z9b z8c x7y j4q y2o z9k z8e x5u z8k x6p v_aV v_aO z6t v_oN v_oS x7r j1z q9x x6h z8t q9w x4p v_I v_Ic z8z z8n z9a z8b j2n q2e j0h j3j q1j x5a j4a x6m y2m x6t x5h j3o z6k q2a q0n z8g z9f z6n z8p z6o z6q j5i z3s z3u z3h z3j z2r z3z z3x z3l z3k z2s z3t z3y z3g z3f z2q z8v x4n j3e x8u j5a z8i".splitOn " ").mapM fun n=>`(Lean.Parser.Tactic.simpLemma| ↓ $(Lean.mkIdent n.toName):term);let v<-("j4g x9l z5p z5l z5q j3m j1n outS z6p z5n z5j List.map_cons List.map_nil List.length_cons List.length_nil Nat.reduceAdd List.replicate_succ List.replicate_zero List.cons_append List.nil_append List.append_nil List.drop_succ_cons List.drop_zero List.filter_cons List.filter_nil Option.isNone_none Option.isNone_some and_true true_and decide_eq_true_eq Bool.true_eq_false Bool.false_eq_true Bool.not_true Bool.not_false Bool.not_eq_eq_eq_not decide_true decide_false if_true if_false eq_self Int.zero_add List.isEmpty_nil List.isEmpty_cons not_true_eq_false not_false_eq_true false_and and_false Option.isSome_none Option.isSome_some z5x fgt List.set_cons_zero List.set_cons_succ x9s q9e q8j j9o j4o x2j x5d x8o x2k v_ord q9c q8i q6w q6v q6z y7o".splitOn " ").mapM fun n=>`(Lean.Parser.Tactic.simpLemma| $(Lean.mkIdent n.toName):term)
 `(tactic|((try dsimp only[$((u.drop 1++v).toArray),*]);(try simp only[$((u++v).toArray),*])))
theorem oS_q1:Str.ofString "\"" = ⟨#[34]⟩:=by decide +kernel
theorem q7b (a b:Nat):(([a]:List Nat)<[b])↔a<b:=by
 rw[List.cons_lt_cons_iff];constructor
 ·rintro(h|⟨_,h⟩)
  ·exact h
  ·exact absurd h (by simp)
 ·exact .inl
theorem x6z (a b:Nat):leC ⟨#[a]⟩ ⟨#[b]⟩=decide (a<=b):=by
 show(!decide (([b]:List Nat)<[a]))=_;by_cases h:a<=b
 ·rw[decide_eq_true h,decide_eq_false (fun z=>by have:=(q7b b a).mp z;omega)];rfl
 ·rw[decide_eq_false h,decide_eq_true ((q7b b a).mpr (by omega))];rfl
theorem le_a (c:Nat):leC ("a":Str) ⟨#[c]⟩=decide (97<=c):=by
 have e:("a":Str)=⟨#[97]⟩:=by decide
 rw[e,x6z]
theorem le_z (c:Nat):leC ⟨#[c]⟩ ("z":Str)=decide (c<=122):=by
 have e:("z":Str)=⟨#[122]⟩:=by decide
 rw[e,x6z]
theorem x7j {l:Cs}{b e:Nat}(h:b<=e)(he:e<=l.length):Txt.slice (strC l) (some (b:Int)) (some (e:Int))=strC ((l.drop b).take (e - b)):=by
 have hl:=Na l;have s1:=StrLaws.sliced_plain (strC l) h (by rw[hl];exact he);have s2:=StrLaws.strSliceIndices_plain (len:=(strC l).length) h (by rw[hl];exact he);unfold Txt.slice;split
 ·rename_i hc;rw[s2]at hc;simp only[length_map,List.length_range,beq_self_eq_true,Bool.true_and,beq_iff_eq,hl]at hc;have b0:b=0:=by omega
  subst b0;rw[drop_zero,take_of_length_le (by omega)]
 ·rw[s1];show strC (((csS (strC l)).drop b).take (e - b))=_;rw[fb]
noncomputable def isSp:D->Bool
 |.str s=>decide (s = " ")
 |_=>false
theorem j3f (t:Cs):decide (strC t=(" ":Str))=decide (t=[32]):=by
 have e:(" ":Str)=strC [32]:=by decide
 rw[e];by_cases h:t=[32]
 ·rw[decide_eq_true h,decide_eq_true (by rw[h])]
 ·rw[decide_eq_false h,decide_eq_false (fun z=>h (by have:=congrArg csS z;rwa [fb,fb]at this))]
noncomputable def Cc (l:Cs)(b:Nat):Nat:=if l[b]? = some 34 then(if 34∈l.drop (b+1) then b+1+((l.drop (b+1)).takeWhile (· ≠ 34)).length+1 else l.length) else if (l[b]?.map isL).getD false=true then b+1+((l.drop (b+1)).takeWhile isL).length else b+1
section
variable {P:Program}{w:World}{K:W.Frag}{mg:Str->Option Value}{base:Heap}{f:Addr}{fd:FuncData}
def j4b:RD:=fun δ Q=>∃c:Nat,δ=[.fz (.str ⟨#[c]⟩)]/\Q false (.bl (isL c)) [.no]
theorem q7s (u0c:Ent K mg "is_letter" Vd ["sign"] f fd)(T:Zs K mg):FnOk P w K mg base CX0 1 f fd ["sign"] (spD j4b):=by
 refine VL.Fun.dok u0c.F y8 (fun δ Qd h=>?_) (by decide) (fun cdv A outer s H E δ Qd hr h=>?_)
 ·obtain⟨_,rfl,_⟩:=h;rfl
 ·obtain⟨c,rfl,q⟩:=h;refine⟨_,(ma (Ba (q1o qa (dv 0) qa))),?_⟩;walk_at "vd";refine⟨_,_,rfl,rfl,?_⟩;rw[le_a];unfold isL at q;by_cases h:97<=c
  ·rw[decide_eq_true h]at q ⊢;rw[if_pos rfl];refine⟨_,rfl,?_⟩;rw[le_z];simpa using q
  ·rw[decide_eq_false h]at q ⊢;rw[if_neg (by simp)];simpa using q
def j3x:RD:=fun δ Q=>∃s:Str,δ=[.fz (.str s)]/\s.length<=100000/\Q false (.bl (isNm (csS s))) [.no]
theorem q6l {f1:Addr}{fd1:FuncData}(u0w:Ent K mg "is_name" Te ["text"] f fd)(T:Zs K mg)(u0c:Ent K mg "is_letter" Vd ["sign"] f1 fd1):FnOk P w K mg base CX0 2 f fd ["text"] (spD j3x):=by
 have u4y:=q7s (P:=P) (w:=w) (base:=base) u0c T;refine VL.Fun.dok u0w.F x2y (fun δ Qd h=>?_) (by decide) (fun cdv A outer s H E δ Qd hr h=>?_)
 ·obtain⟨_,rfl,_⟩:=h;rfl
 ·obtain⟨s,rfl,hl,q⟩:=h;refine⟨_,(ma (Ba (kh (gg Vc vc (dv 0) qa (za _)) (Ki (Ob mq (yp rfl) rfl T.z_all boot_all (aa (re ["sign"] ["text"] rfl (show CScopeG (ya Te) ["text"] ["sign"] _ _ from⟨rfl,by decide +kernel,by decide +kernel,by decide +kernel,by decide +kernel⟩) (Wl (dv 0)) (fun _ _ _ _ _=>(Jc (i:=0) (by decide) (show List.Nodup (["sign","text"]:List Str) from by decide +kernel) rfl (Or.inl rfl))) (fun _ _ _ _ _=>Sd) (fun _ _ _ _ _=>(Va u4y (hr.mono (by decide)) rfl u0c.g u0c.F.kp u0c.b Ea (aa (dv 0) ba)))) ba)))))),?_⟩;have sz:=Sa;walk_at "vd";have el:∀c∈csS s,c∈csS s:=fun _ h=>h;by_cases h0:s = ""
  ·rw[decide_eq_true h0,if_neg (by simp)];have:isNm (csS s)=false:=by rw[h0];decide
   rw[this]at q;exact q
  ·rw[decide_eq_false h0,if_pos rfl];have hn:csS s≠[]:=fun z=>h0 (by rw[<-bc s,z];decide);refine⟨s,rfl,?_⟩;have hs:sgD s=(csS s).map fun c=>D.str ⟨#[c]⟩:=rfl;rw[hs];refine Mg (fun c=>D.str ⟨#[c]⟩) (fun c=>.bl (isL c)) (csS s) (by rw[wb];omega) (fun c hc P hP=>?_) ?_
   ·walk_at "vd";exact⟨c,rfl,hP⟩
   ·refine⟨(csS s).map isL,by simp,?_⟩;have e:isNm (csS s)=((csS s).map isL).all id:=by
     unfold isNm;rw[decide_eq_true hn,all_map];rfl
    rw[e]at q;exact q
theorem tw_step {p:Nat->Bool}:∀{d:Cs}{k c:Nat},k<=(d.takeWhile p).length->d[k]? = some c->(p c=true->k+1<=(d.takeWhile p).length)/\(p c=false->k=(d.takeWhile p).length)
 | [],k,c,_,e=>by simp at e
 |a::d,0,c,h,e=>by
  simp at e;subst e;rw[takeWhile_cons];refine⟨fun h=>?_,fun h=>?_⟩
  ·rw[if_pos h];simp
  ·rw[if_neg (by simp[h])];rfl
 |a::d,k+1,c,h,e=>by
  rw[takeWhile_cons]at h ⊢;by_cases ha:p a=true
  ·rw[if_pos ha]at h ⊢;have ih:=tw_step (d:=d) (k:=k) (c:=c) (by simpa using h) (by simpa using e);simp only[length_cons];exact⟨fun z=>by have:=ih.1 z;omega,fun z=>by have:=ih.2 z;omega⟩
  ·rw[if_neg ha]at h;simp at h
theorem wc {α:Type}{xs:List α}{b:Nat}{c:α}(h:xs[b]? = some c):atI xs (b:Int)=some c:=by
 have hb:b<xs.length:=(List.getElem?_eq_some_iff.mp h).1;unfold atI ixN;rw[if_pos (by omega)];have e:xs[b]=c:=Option.some.inj ((getElem?_eq_getElem hb).symm.trans h);simp[hb,e]
def x0t:RD:=fun δ Q=>∃l:Cs,δ=[.fz (cD l)]/\l.length<=100000/\(∀c∈l,sgOk c)/\Q false (.bl true) [.no]
theorem q1s (u3b:Ent K mg "is_text" vg ["line"] f fd)(T:Zs K mg):FnOk P w K mg base CX0 1 f fd ["line"] (spD x0t):=by
 refine VL.Fun.dok u3b.F x4f (fun δ Qd h=>?_) (by decide) (fun cdv A outer s H E δ Qd hr h=>?_)
 ·obtain⟨_,rfl,_⟩:=h;rfl
 ·obtain⟨l,rfl,hl,ok,q⟩:=h;refine⟨_,(ma (Ba (Ob mq (yp rfl) rfl T.z_all boot_all (aa (re ["sign"] ["line"] rfl (show CScopeG (ya vg) ["line"] ["sign"] _ _ from⟨rfl,by decide +kernel,by decide +kernel,by decide +kernel,by decide +kernel⟩) (Wl (dv 0)) (fun _ _ _ _ _=>(Jc (i:=0) (by decide) (show List.Nodup (["sign","line"]:List Str) from by decide +kernel) rfl (Or.inl rfl))) (fun _ _ _ _ _=>Sd) (fun _ _ _ _ _=>(kh (x6q (Fl rfl T.g_FIRST_SIGN) (Ob wq zo rfl T.z_ord boot_ord (aa (dv 0) ba)) (Fl rfl T.g_LAST_SIGN)) (Ki (gg Vc vc (Ob wq zo rfl T.z_ord boot_ord (aa (dv 0) ba)) (Fl rfl T.g_PERCENT) (za _)))))) ba)))),?_⟩;have sz:=Sa;unfold cD;walk_at "vd";refine⟨_,rfl,?_⟩;have hs:sgD (strC l)=l.map fun c=>D.str ⟨#[c]⟩:=by unfold sgD;rw[show(strC l).cps.toList=l from fb l]
  rw[hs];refine Mg (fun c=>D.str ⟨#[c]⟩) (fun c=>.bl true) l (by omega) (fun c hc P hP=>?_) ?_
  ·obtain⟨h1,h2,h3⟩:=ok c hc;walk_at "vd";rw[if_pos (by omega),if_pos (by omega),decide_eq_false (by omega)];exact hP
  ·refine⟨l.map fun _=>true,by simp,?_⟩;have e:(l.map fun _=>true).all id=true:=by simp
   rw[e];exact q
def q9a:RD:=fun δ Q=>∃(l:Cs)(b:Nat),δ=[.fz (.str (strC l)),.fz (.int b)]/\b<l.length/\l.length<=100000/\Q false (.int (Cc l b)) [.no,.no]
theorem j3y {f1:Addr}{fd1:FuncData}(u0q:Ent K mg "token_end" Lf ["line","begin"] f fd)(T:Zs K mg)(u0c:Ent K mg "is_letter" Vd ["sign"] f1 fd1):FnOk P w K mg base CX0 2 f fd ["line","begin"] (spD q9a):=by
 have u4y:=q7s (P:=P) (w:=w) (base:=base) u0c T;refine VL.Fun.dok u0q.F jj (fun δ Qd h=>?_) (by decide) (fun cdv A outer s H E δ Qd hr h=>?_)
 ·obtain⟨_,_,rfl,_⟩:=h;rfl
 ·obtain⟨l,b,rfl,hb,hl,q⟩:=h;refine⟨_,(ka (Aa (i:=2) jj.nd rfl (Or.inl rfl) (ja La Ka (dv 1) ia))
   (ka (Ia (Ga cb Ra (Ha Af He (pv 0) (dv 1) (fun _ _=>rfl)) (ue rfl T.g_QUOTE) (za _)) (ka (Aa (i:=3) jj.nd rfl (Or.inl rfl) (q5w (dv 0) (ue rfl T.g_QUOTE) (dv 2)))
   (ma (Ba (Li (Ga dh Vg (dv 3) ia (za _)) (Ib ke de rfl T.z_len PySem.boot_len (pv 0)) (ja La Ka (dv 3) ia))))) Ma)
   (ka (Cf PassesOwn.never (dt_w (kg (Vb (Va u4y (hr.mono (by decide)) rfl u0c.g u0c.F.kp u0c.b Ea (aa (Ha Af He (pv 0) (dv 1) (fun _ _=>rfl)) ba))) (kg (Ga dh Vg (dv 2) (Ib ke de rfl T.z_len PySem.boot_len (pv 0)) (za _)) (jh (Vb (Va u4y (hr.mono (by decide)) rfl u0c.g u0c.F.kp u0c.b Ea (aa (Ha Af He (pv 0) (dv 2) (fun _ _=>rfl)) ba))))))) (ma (j7u (i:=2) jj.nd rfl (Or.inl rfl))))
   (ma (Ba (dm 2)))))),?_⟩
  have sz:=Sa;walk_at "vd";obtain⟨c,hc⟩:∃c,l[b]? = some c:=⟨_,getElem?_eq_getElem hb⟩;have hcl:(strC l).cps.toList=l:=fb l;refine⟨by rw[Na];omega,c,by rw[hcl];exact wc hc,?_⟩;rw[oS_q1];by_cases h34:c=34
  ·subst h34;rw[if_pos rfl];have eb:((b:Int)+1)=((b+1:Nat):Int):=by omega
   rw[eb,j8v (by omega)];have et:Cc l b=if 34∈l.drop (b+1) then b+1+((l.drop (b+1)).takeWhile (· ≠ 34)).length+1 else l.length:=by unfold Cc;rw[hc,if_pos rfl]
   rw[et]at q;by_cases hm:34∈l.drop (b+1)
   ·rw[if_pos hm]at q ⊢;rw[if_neg (by omega)];exact q
   ·rw[if_neg hm]at q ⊢;rw[if_pos (by decide),Na];exact⟨by omega,q⟩
  have c34:(⟨#[c]⟩:Str)≠⟨#[34]⟩:=fun z=>h34 (by cases z;rfl);rw[if_neg c34];have et:Cc l b=if isL c=true then b+1+((l.drop (b+1)).takeWhile isL).length else b+1:=by unfold Cc;rw[hc,if_neg (by simpa using h34)];rfl
  refine⟨[],fun δ=>∃k:Nat,k<=((l.drop (b+1)).takeWhile isL).length/\(isL c=false->k=0)/\δ=[.fz (.str (strC l)),.fz (.int b),.fz (.int ((b+1+k:Nat):Int)),.no],fun δ=>l.length - inAt 2 δ,⟨0,zero_le _,fun _=>rfl,?_⟩,?_⟩
  ·simp[fgt]
  rintro δ ⟨k,hk,hz,rfl⟩;have tl:((l.drop (b+1)).takeWhile isL).length<=(l.drop (b+1)).length:=(takeWhile_sublist _).length_le;rw[length_drop]at tl;walk_at "vd";refine⟨by rw[Na];omega,c,by rw[hcl];exact wc hc,c,rfl,?_⟩;walk_at "vd";have fin:Cc l b=b+1+k->Qd false (.int ((b+1+k:Nat):Int)) [.no,.no]:=fun e=>by rw[e]at q;exact q
  cases hL:isL c with
  |false =>
   rw[if_neg (by simp)];have:=hz hL;rw[hL,if_neg (by simp)]at et;exact fin (by omega)
  |true =>
   rw[hL,if_pos rfl]at et;rw[if_pos rfl];refine⟨by rw[Na];omega,ite2 (fun hlt=>?_) fun hge=>?_⟩
   ·rw[Na]at hlt;have hlt':b+1+k<l.length:=by exact_mod_cast hlt
    obtain⟨d,hd⟩:∃d,l[b+1+k]? = some d:=⟨_,getElem?_eq_getElem hlt'⟩;have hd2:(l.drop (b+1))[k]? = some d:=by rw[List.getElem?_drop];exact hd
    have st:=tw_step hk hd2;refine⟨by rw[Na];omega,d,by rw[hcl];exact wc hd,d,rfl,?_⟩;walk_at "vd";cases hD:isL d with
    |false =>
     rw[if_neg (by simp)];exact fin (by have:=st.2 hD;omega)
    |true =>
     rw[if_pos rfl];refine⟨_,rfl,⟨k+1,st.1 hD,(fun z=>z.elim),?_⟩,?_⟩
     ·simp[fgt];omega
     ·simp[fgt,j4o];omega
   ·rw[Na]at hge;have hge':l.length<=b+1+k:=by
     have:¬(((b+1+k:Nat):Int)<(l.length:Int)):=hge;omega
    exact fin (by omega)
theorem indE (b n:Nat):max (0:Int) (min (b:Int) (n:Int))=max 0 (min ((min b n:Nat):Int) (n:Int)):=by omega
theorem indC (b e n:Nat):Builtin.Str.strSliceIndices (some (b:Int)) (some (e:Int)) 1 n=Builtin.Str.strSliceIndices (some ((min b n:Nat):Int)) (some ((min e n:Nat):Int)) 1 n:=by
 have e1:=indE b n;have e2:=indE e n;have n1:¬((b:Int)<0):=by omega
 have n2:¬((e:Int)<0):=by omega
 have n3:¬(((min b n:Nat):Int)<0):=by omega
 have n4:¬(((min e n:Nat):Int)<0):=by omega
 unfold Builtin.Str.strSliceIndices;simp only[gt_iff_lt,Int.zero_lt_one,if_true,if_neg n1,if_neg n2,if_neg n3,if_neg n4,e1,e2]
theorem Uf {l:Cs}{b e:Nat}(h:b<=e):Txt.slice (strC l) (some (b:Int)) (some (e:Int))=strC ((l.drop b).take (e - b)):=by
 have hl:=Na l;have e0:Txt.slice (strC l) (some (b:Int)) (some (e:Int))=Txt.slice (strC l) (some ((min b l.length:Nat):Int)) (some ((min e l.length:Nat):Int)):=by
  unfold Txt.slice;rw[indC,hl]
 rw[e0,x7j (by omega) (by omega)];congr 1;by_cases hb:b<=l.length
 ·rw[min_eq_left hb];by_cases he:e<=l.length
  ·rw[min_eq_left he]
  ·rw[min_eq_right (by omega),take_of_length_le (by rw[length_drop];omega),take_of_length_le (by rw[length_drop];omega)]
 ·rw[min_eq_right (by omega),min_eq_right (by omega),drop_of_length_le (le_refl _),drop_of_length_le (by omega)];simp
theorem Vf (l:Cs)(b:Nat):Txt.slice (strC l) (some (b:Int)) (some ((b:Int)+1))=strC ((l.drop b).take 1):=by
 have:=Uf (l:=l) (b:=b) (e:=b+1) (by omega);rw[show b+1 - b=1 by omega]at this
 exact_mod_cast this
theorem j2d (x:Str)(c:Nat):(!(Builtin.Str.occurrences x ⟨#[c]⟩ 0 x.length 1).isEmpty)=decide (c∈csS x):=by
 rcases StrLaws.occ_head x ⟨#[c]⟩ 1 (le_refl 1) with ⟨h0,hn⟩|⟨i,r,h0,hi,_⟩
 ·rw[h0];show false=_;symm;rw[decide_eq_false_iff_not];intro hc;obtain⟨i,hi,e⟩:=List.getElem_of_mem hc;refine hn i ⟨?_,?_⟩
  ·rw[wb]at hi;show i+1<=_;omega
  ·rw[subAt_eq];show(((csS x).drop i).take 1 == [c])=true;rw[drop_eq_getElem_cons hi,e];simp
 ·rw[h0];show true=_;symm;rw[decide_eq_true_eq];have h2:=hi.2;rw[subAt_eq]at h2;have h3:((csS x).drop i).take 1=[c]:=eq_of_beq h2;have:c∈((csS x).drop i).take 1:=by rw[h3];simp
  exact mem_of_mem_drop (mem_of_mem_take this)
theorem j5l (c:Nat):decide (c∈csS ("abcdefghijklmnopqrstuvwxyz":Str))=isL c:=by
 have e:csS ("abcdefghijklmnopqrstuvwxyz":Str)=(range 26).map (· + 97):=by decide +kernel
 rw[e];unfold isL;rw[<-Bool.decide_and];refine decide_eq_decide.mpr ⟨fun h=>?_,fun⟨h1,h2⟩=>?_⟩
 ·obtain⟨k,hk,rfl⟩:=mem_map.mp h;have:=mem_range.mp hk;omega
 ·exact mem_map.mpr ⟨c - 97,mem_range.mpr (by omega),by omega⟩
theorem q4x (t:Cs):Txt.slice (strC t) (some 1) (some (-1))=strC ((t.drop 1).take (t.length - 2)):=by
 match t with
 | []=>decide +kernel
 | [c] =>
  unfold Txt.slice Builtin.Str.strSliceIndices;rfl
 |c::d::r =>
  have hl:=Na (c::d::r);have e:Txt.slice (strC (c::d::r)) (some 1) (some (-1))=Txt.slice (strC (c::d::r)) (some ((1:Nat):Int)) (some (((r.length+1:Nat)):Int)):=by
   unfold Txt.slice;rw[StrLaws.sliceIdx_neg_hi (some 1) _ (by decide) (by rw[hl];simp;omega),hl];have e2:(-1+((c::d::r).length:Int))=((r.length+1:Nat):Int):=by simp;omega
   rw[e2];rfl
  rw[e,Uf (by omega)];rfl
theorem take_tw {l:Cs}{b:Nat}{p:Nat->Bool}:(l.drop b).take ((l.drop b).takeWhile p).length=(l.drop b).takeWhile p/\l.drop (b+((l.drop b).takeWhile p).length)=(l.drop b).dropWhile p:=by
 have ha:(l.drop b).takeWhile p++(l.drop b).dropWhile p=l.drop b:=takeWhile_append_dropWhile;refine⟨?_,?_⟩
 ·have:=List.take_left' (l₁:=(l.drop b).takeWhile p) (l₂:=(l.drop b).dropWhile p) rfl;rwa [ha]at this
 ·rw[<-drop_drop];have:=List.drop_left' (l₁:=(l.drop b).takeWhile p) (l₂:=(l.drop b).dropWhile p) rfl;rwa [ha]at this
theorem Mj:∀{r:Cs},34∈r->∃r',r.dropWhile (· ≠ 34)=34::r'/\(r.takeWhile (· ≠ 34)).length+1<=r.length
 |c::r,h=>by
  by_cases hc:c=34
  ·subst hc;exact⟨r,by simp[dropWhile_cons],by simp[takeWhile_cons]⟩
  ·obtain⟨r',e,hl⟩:=Mj (r:=r) (by simpa[Ne.symm hc] using h);refine⟨r',by rw[dropWhile_cons,if_pos (decide_eq_true hc)];exact e,?_⟩;rw[takeWhile_cons,if_pos (decide_eq_true hc)];simp only[length_cons];omega
theorem j9m {l:Cs}{b:Nat}(hb:b<l.length):b<Cc l b/\Cc l b<=l.length/\rawT (l.drop b)=((l.drop b).take (Cc l b - b))::rawT (l.drop (Cc l b)):=by
 have e1:l.drop b=l[b]::l.drop (b+1):=drop_eq_getElem_cons hb;have e2:l[b]? = some l[b]:=getElem?_eq_getElem hb;by_cases h34:l[b]=34
 ·have et:Cc l b=if 34∈l.drop (b+1) then b+1+((l.drop (b+1)).takeWhile (· ≠ 34)).length+1 else l.length:=by unfold Cc;rw[e2,h34,if_pos rfl]
  rw[e1,Hg,if_pos h34,et];by_cases hm:34∈l.drop (b+1)
  ·rw[if_pos hm,if_pos hm];obtain⟨r',er,hl⟩:=Mj hm;rw[length_drop]at hl;obtain⟨k2,k3⟩:=take_tw (l:=l) (b:=b+1) (p:=fun x=>decide (x≠34));refine⟨by omega,by omega,?_⟩;have ha:(l.drop (b+1)).takeWhile (· ≠ 34)++(l.drop (b+1)).dropWhile (· ≠ 34)=l.drop (b+1):=takeWhile_append_dropWhile;rw[er]at ha;have k1:b+1+((l.drop (b+1)).takeWhile (· ≠ 34)).length+1 - b=((l.drop (b+1)).takeWhile (· ≠ 34)).length+1+1:=by omega
   have k5:(l.drop (b+1)).take (((l.drop (b+1)).takeWhile (· ≠ 34)).length+1)=(l.drop (b+1)).takeWhile (· ≠ 34)++[34]:=by
    have:=List.take_left' (l₁:=(l.drop (b+1)).takeWhile (· ≠ 34)++[34]) (l₂:=r') (i:=((l.drop (b+1)).takeWhile (· ≠ 34)).length+1) (by simp);rw[append_assoc,List.singleton_append,ha]at this;exact this
   have k6:l.drop (b+1+((l.drop (b+1)).takeWhile (· ≠ 34)).length+1)=((l.drop (b+1)).dropWhile (· ≠ 34)).tail:=by
    rw[<-drop_drop,k3,drop_one]
   rw[k1,List.take_succ_cons,k5,k6,h34]
  ·rw[if_neg hm,if_neg hm];refine⟨by omega,le_refl _,?_⟩;rw[drop_length,show rawT []=[] from rfl,<-e1,take_of_length_le (by rw[length_drop];omega)]
 have et:Cc l b=if isL l[b]=true then b+1+((l.drop (b+1)).takeWhile isL).length else b+1:=by unfold Cc;rw[e2,if_neg (by simpa using h34)];rfl
 have tl:((l.drop (b+1)).takeWhile isL).length<=(l.drop (b+1)).length:=(takeWhile_sublist _).length_le;rw[length_drop]at tl;rw[e1,Hg,if_neg h34,et];split
 ·refine⟨by omega,by omega,?_⟩;have k1:b+1+((l.drop (b+1)).takeWhile isL).length - b=((l.drop (b+1)).takeWhile isL).length+1:=by omega
  obtain⟨k2,k3⟩:=take_tw (l:=l) (b:=b+1) (p:=isL);rw[k1,List.take_succ_cons,k2,k3]
 ·refine⟨by omega,by omega,?_⟩;rw[show b+1 - b=1 by omega,List.take_succ_cons,take_zero]
def q6u:RD:=fun δ Q=>∃l:Cs,δ=[.fz (.str (strC l))]/\l.length<=100000/\Q true (.lst ((tok l).map fun t=>.str (strC t))) [.no]
theorem j4w {f1 f2:Addr}{fd1 fd2:FuncData}(u1j:Ent K mg "tokens_of" Mf ["line"] f fd)(T:Zs K mg)(u0q:Ent K mg "token_end" Lf ["line","begin"] f1 fd1)(u0c:Ent K mg "is_letter" Vd ["sign"] f2 fd2):FnOk P w K mg base CX0 3 f fd ["line"] (spD q6u):=by
 have u6j:=j3y (P:=P) (w:=w) (base:=base) u0q T u0c;refine VL.Fun.dok u1j.F Qh (fun δ Qd h=>?_) (by decide) (fun cdv A outer s H E δ Qd hr h=>?_)
 ·obtain⟨_,rfl,_⟩:=h;rfl
 ·obtain⟨l,rfl,hl,q⟩:=h;refine⟨_,(ka (Aa (i:=1) Qh.nd rfl (Or.inl rfl) (Pa ba))
   (ka (Aa (i:=2) Qh.nd rfl (Or.inl rfl) ia)
   (ka (Cf PassesOwn.never (Ga dh Vg (dv 2) (Ib ke de rfl T.z_len PySem.boot_len (pv 0)) (za _)) (ka (Aa (i:=3) Qh.nd rfl (Or.inl rfl) (Va u6j (hr.mono (by decide)) rfl u0q.g u0q.F.kp u0q.b Ea (aa (dv 0) (aa (dv 2) ba))))
   (ka (Tb (Sb ac PySem.F.slot_list_append PySem.F.type_list_append zb (pv 1) (aa (vb (dv 0) (Fa (dv 2)) (Fa (dv 3))) ba)))
   (ma (Aa (i:=2) Qh.nd rfl (Or.inl rfl) (dv 3))))))
   (ma (Ba (re ["token"] ["line","found","begin","end"] rfl (show CScopeG (ya Mf) ["line","found","begin","end"] ["token"] _ _ from⟨rfl,by decide +kernel,by decide +kernel,by decide +kernel,by decide +kernel⟩) (Ad (dv 1)) (fun _ _ _ _ _=>(Jc (i:=0) (by decide) (show List.Nodup (["token","line","found","begin","end"]:List Str) from by decide +kernel) rfl (Or.inl rfl))) (fun _ _ _ _ _=>(zl (Ga Vc vc (dv 0) qa (za _)))) (fun _ _ _ _ _=>(dv 0)))))))),?_⟩
  have sz:=Sa;have hcl:(strC l).cps.toList=l:=fb l;walk_at "vd";refine⟨by omega,[3],fun δ=>∃(b:Nat)(ts:List Cs),b<=l.length/\ts.length<=b/\rawT l=ts++rawT (l.drop b)/\δ=[.fz (.str (strC l)),.ob false (.lst (ts.map fun t=>.str (strC t))),.fz (.int b),.no],fun δ=>l.length - inAt 2 δ,⟨0,[],zero_le _,le_refl _,rfl,?_⟩,?_⟩
  ·simp[fgt]
  rintro δ ⟨b,ts,hb,htl,hr',rfl⟩;walk_at "vd";refine⟨by rw[Na];omega,ite2 (fun hlt=>?_) fun hge=>?_⟩
  ·rw[Na]at hlt;have hlt':b<l.length:=by exact_mod_cast hlt
   obtain⟨r1,r2,r3⟩:=j9m hlt';refine⟨l,b,rfl,hlt',hl,?_⟩;walk_at "vd";rw[x7j (by omega) r2];refine⟨by rw[Na];omega,by simp;omega,⟨Cc l b,ts++[(l.drop b).take (Cc l b - b)],r2,by simp;omega,by rw[hr',r3];simp,by simp⟩,by omega⟩
  ·rw[Na]at hge;have hbe:b=l.length:=by
    have:¬((b:Int)<(l.length:Int)):=hge;omega
   subst hbe;rw[drop_length,show rawT []=[] from rfl,append_nil]at hr';refine Ml (fun d=>!isSp d) id (by simp;omega) (fun d hd P hP=>?_) (fun d hd hn P hP=>?_) ?_
   ·obtain⟨t,ht,rfl⟩:=mem_map.mp hd;walk_at "vd";exact hP
   ·walk_at "vd";exact hP
   ·have e:((ts.map fun t=>D.str (strC t)).filter fun d=>!isSp d).map id=(tok l).map fun t=>.str (strC t):=by
     have e1:tok l=ts.filter fun t=>decide (t≠[32]):=by rw[<-hr'];rfl
     rw[e1,map_id,List.filter_map];refine congrArg _ (List.filter_congr fun t _=>?_);show(!decide (strC t=(" ":Str)))=_;rw[j3f];by_cases h:t=[32]<;>simp[h]
    rw[e];exact q
def Cd (l:Cs)(b:Nat):Nat:=b+((l.drop b).takeWhile isL).length
def x7s:RD:=fun δ Q=>∃(l:Cs)(b:Nat),δ=[.fz (.str (strC l)),.fz (.int b)]/\b<=l.length/\l.length<=100000/\Q false (.int (Cd l b)) [.no,.no]
theorem q0b (u0a:Ent K mg "_law_name_end" Xe ["_law_line","_law_at"] f fd)(T:Zs K mg):FnOk P w K mg base CX0 1 f fd ["_law_line","_law_at"] (spD x7s):=by
 refine VL.Fun.dok u0a.F Wq (fun δ Qd h=>?_) (by decide) (fun cdv A outer s H E δ Qd hr h=>?_)
 ·obtain⟨_,_,rfl,_⟩:=h;rfl
 ·obtain⟨l,b,rfl,hb,hl,q⟩:=h;refine⟨_,(ka (Cf PassesOwn.never (dt_w (kg (Ga Vc vc (vb (dv 0) (Fa (dv 1)) (Fa (ja La Ka (dv 1) ia))) qa (za _)) (jh (Ga j1s j1d (Ha Af He (pv 0) (dv 1) (fun _ _=>rfl)) qa rfl)))) (ma (Aa (i:=1) Wq.nd rfl (Or.inl rfl) (ja La Ka (dv 1) ia))))
   (ma (Ba (dm 1)))),?_⟩
  have sz:=Sa;walk_at "vd";have tl:((l.drop b).takeWhile isL).length<=(l.drop b).length:=(takeWhile_sublist _).length_le;rw[length_drop]at tl;refine⟨[],fun δ=>∃k:Nat,k<=((l.drop b).takeWhile isL).length/\δ=[.fz (.str (strC l)),.fz (.int ((b+k:Nat):Int))],fun δ=>l.length - inAt 1 δ,⟨0,zero_le _,by simp[fgt]⟩,?_⟩;rintro δ ⟨k,hk,rfl⟩;walk_at "vd";have hcl:(strC l).cps.toList=l:=fb l;have fin:k=((l.drop b).takeWhile isL).length->Qd false (.int ((b+k:Nat):Int)) [.no,.no]:=fun e=>by unfold Cd at q;rw[<-e]at q;exact q
  refine⟨by rw[Na];omega,?_⟩;rw[Vf];by_cases hlt:b+k<l.length
  ·obtain⟨d,hd⟩:∃d,l[b+k]? = some d:=⟨_,getElem?_eq_getElem hlt⟩;have e1:(l.drop (b+k)).take 1=[d]:=by
    rw[drop_eq_getElem_cons hlt];have:=getElem?_eq_getElem hlt;rw[hd]at this;rw[<-Option.some.inj this];rfl
   have st:=tw_step (d:=l.drop b) hk (by rw[List.getElem?_drop];exact hd);rw[e1,if_pos (decide_eq_false fun z=>by have:=Yd (b:=[]) z;cases this)];refine⟨by rw[Na];omega,d,by rw[hcl];exact wc hd,_,_,rfl,rfl,?_⟩;rw[j2d,j5l];show if isL d=true then _ else _
   cases hD:isL d with
   |true =>
    rw[if_pos rfl];exact⟨⟨k+1,st.1 hD,by push_cast;rfl⟩,by omega⟩
   |false =>
    rw[if_neg (by simp)];exact fin (st.2 hD)
  ·have e1:(l.drop (b+k)).take 1=[]:=by rw[drop_of_length_le (by omega)];rfl
   rw[e1,if_neg (by decide)];exact fin (by omega)
def j7m:RD:=fun δ Q=>∃t:Cs,δ=[.fz (cD t)]/\t.length<=2000/\Q false (.str (unqF t)) [.no]
theorem j9b (u1g:Ent K mg "unquoted" Ue ["token"] f fd)(T:Zs K mg):FnOk P w K mg base CX0 1 f fd ["token"] (spD j7m):=by
 refine VL.Fun.dok u1g.F y8z (fun δ Qd h=>?_) (by decide) (fun cdv A outer s H E δ Qd hr h=>?_)
 ·obtain⟨_,rfl,_⟩:=h;rfl
 ·obtain⟨t,rfl,hl,q⟩:=h;refine⟨_,(ma (Ba (oh qa (re ["piece"] ["token"] rfl (show CScopeG (ya Ue) ["token"] ["piece"] _ _ from⟨rfl,by decide +kernel,by decide +kernel,by decide +kernel,by decide +kernel⟩) (Ad (q6c (vb (dv 0) (Fa ia) (Fa (j9j ia))) qa)) (fun _ _ _ _ _=>(Jc (i:=0) (by decide) (show List.Nodup (["piece","token"]:List Str) from by decide +kernel) rfl (Or.inl rfl))) (fun _ _ _ _ _=>Sd) (fun _ _ _ _ _=>(Yl (dv 0) .lit (tk_g rfl T.t_QUOTE) rfl (by decide +kernel) (by decide +kernel))))))),?_⟩;have sz:=Sa;unfold cD;walk_at "vd";rw[q4x];have q:Qd false (.str (strC (unE ((t.drop 1).take (t.length - 2))))) [.no]:=q;have hu:((t.drop 1).take (t.length - 2)).length<=2000:=by rw[length_take,length_drop];omega
  generalize (t.drop 1).take (t.length - 2)=u at hu q ⊢;have lu:=Na u;have lt:=Na t;obtain⟨k1,k2⟩:=Em (a:=92) (b:=92) u;have es:Txt.split (strC u) (Str.ofString "\\\\")=(spl 92 92 u).map strC:=by rw[Yh,vj _ (by decide) (by decide),fb]
  have eo:=Cm (strC u) 92 92;rw[fb]at eo;have l2:(Str.ofString "\\\\").length=2:=by decide +kernel
  rw[es,l2,Yh,eo];refine⟨by omega,by decide,by omega,by rw[length_map];omega,by rw[length_map];omega,?_⟩;rw[show((spl 92 92 u).map strC).map D.str=(spl 92 92 u).map fun p=>D.str (strC p) by rw[List.map_map];rfl];refine Mg (fun p=>D.str (strC p)) (fun p=>D.str (strC (va [34] (spl 92 113 p)))) (spl 92 92 u) (by omega) (fun p hp P hP=>?_) ?_
  ·have h1:=(Zh u p hp).1;have h2:=Na p;have e2:Txt.replace (strC p) (Str.ofString "\\q") (Str.ofString "\"")=strC (va [34] (spl 92 113 p)):=by
    rw[ym,repl2 _ _ (by decide) (by decide),fb,show Str.ofString "\"" = strC [34] by decide +kernel,j1h]
   walk_at "vd";rw[e2];exact⟨by omega,hP⟩
  ·refine⟨(spl 92 92 u).map fun p=>strC (va [34] (spl 92 113 p)),by rw[List.map_map];rfl,joinOk_of_weight ?_ (by decide),?_⟩
   ·have h3:=Hm _ xr (spl 92 92 u);have h4:(((spl 92 92 u).map fun p=>strC (va [34] (spl 92 113 p))).map (·.length)).sum=(((spl 92 92 u).map fun p=>va [34] (spl 92 113 p)).map List.length).sum:=by
     rw[List.map_map,List.map_map];exact congrArg List.sum (List.map_congr_left fun p _=>Na _)
    rw[h4,length_map];omega
   ·have e3:join (Str.ofString "\\") ((spl 92 92 u).map fun p=>strC (va [34] (spl 92 113 p)))=strC (unE u):=by
     rw[show Str.ofString "\\" = strC [92] by decide +kernel,show((spl 92 92 u).map fun p=>strC (va [34] (spl 92 113 p)))=((spl 92 92 u).map fun p=>va [34] (spl 92 113 p)).map strC by rw[List.map_map];rfl,Wh];rfl
    rw[e3];exact q
end
local macro_rules|`(tactic| walk_at "rs")=>do
 let v<-("L2.start tSeq q2m tAsg y0a tVar tC tOp tUn rI0 rU q2z tRet q4d x5t tCB y2i tNil tBM tNot tAnd tOr tB tTup tLst tIf rEq rNe scSS scII z6c rPop rCat gTup q9p gNil tLM tLM0 tDIn j3k y0z z5a z0h and_imp ne_eq atI2 HO.lst.injEq HO.tup.injEq y2q q7j Int.toNat_natCast q7e List.map_cons List.map_nil List.length_cons List.length_nil Nat.reduceAdd Nat.reduceSub List.replicate_succ List.replicate_zero List.cons_append List.nil_append List.append_nil List.getElem?_cons_zero List.getElem?_cons_succ List.set_cons_zero List.set_cons_succ Option.some.injEq V.int.injEq V.str.injEq V.ref.injEq V.bl.injEq V.ty.injEq List.cons.injEq exists_eq_left' exists_eq_left exists_eq' and_true true_and and_assoc exists_and_left reduceCtorEq false_and exists_false false_or or_false decide_eq_true_eq if_true if_false Bool.true_eq_false Bool.false_eq_true Bool.not_true Bool.not_false Bool.not_eq_eq_eq_not x7q x5v rIsX tTry y0y x9j x5r j4l q7l".splitOn " ").mapM fun n=>`(Lean.Parser.Tactic.simpLemma| $(Lean.mkIdent n.toName):term)
 `(tactic|((try dsimp only[$(v.toArray),*]);(try simp only[$(v.toArray),*])))
theorem BInv.close2 {H:Hp}{a c:Addr}{as:List Addr}{cur ps:List Part}{n:Str}{fs:List (List Part×Str)}{S:List Addr}(B:BInv H c (a::as) cur ((ps,n)::fs) S):∃S',BInv H a as (ps++[.tup n cur]) fs S'/\S'.Perm (c::S):=by
 obtain⟨vs,o,F,G,h1,h2,h3,rfl⟩:=B.ex;cases h3 with
 | @cons _ _ t _ ws _ _ o' F' G' _ ha ht h b =>
  have pm:((F'++(c::F))++G').Perm (c::(F++(F'++G'))):=by
   have p1:(F'++(c::F)).Perm (c::(F++F')):=(List.perm_middle (a:=c) (l₁:=F') (l₂:=F)).trans (List.Perm.cons c List.perm_append_comm);have p2:=p1.append_right G';simpa[append_assoc] using p2
  refine⟨(F'++(c::F))++G',⟨⟨ws++[.ref t],o'++(.ref t::(o++[])),F'++(c::F),G',ha,?_,b,rfl⟩,(nodup_cons.mp B.nd).2,fun x hx hS=>?_⟩,pm⟩
  ·have r:=h.append (.tup ht h1 h2 .nil);simpa using r
  ·have z:=B.off x (mem_cons_of_mem _ hx);have z2:x≠c:=fun e=>(nodup_cons.mp B.nd).1 (e ▸ hx);rcases mem_cons.mp (pm.mem_iff.mp hS) with e|e
   ·exact z2 e
   ·exact z e
structure GS (H0 H:Hp)(hd td:Addr)(fs:List (List Part×Str))(cur:List Part)(a:Addr)(as S:List Addr):Prop where
 top:H hd=some (.lst ((a::as).reverse.map .ref))
 b:BInv H a as cur fs S
 nd:S.Nodup
 last:(a::as).getLast? = some td
 fr:∀b,b∈a::as\/b∈S->H0 b=none
 hf:H0 hd=none
 h1:hd∉a::as
 h2:hd∉S
 same:Same H0 H
section
variable {H0 H H':Hp}{hd td a p:Addr}{as S:List Addr}{fs:List (List Part×Str)}{cur:List Part}{vs:List V}{o:HO}
theorem GS.out (g:GS H0 H hd td fs cur a as S)(hp:H p=none):p≠hd/\p∉a::as/\p∉S:=by
 refine⟨fun e=>(by rw[e,g.top]at hp;cases hp),fun h=>?_,fun h=>?_⟩
 ·obtain⟨xs,e⟩:=g.b.list p (.inl h);rw[e]at hp;cases hp
 ·obtain⟨xs,e⟩:=g.b.list p (.inr h);rw[e]at hp;cases hp
theorem GS.same' (g:GS H0 H hd td fs cur a as S)(s:Same H H'):GS H0 H' hd td fs cur a as S :=
 ⟨s _ _ g.top,g.b.frame (fun b hb=>by obtain⟨xs,e⟩:=g.b.list b hb;rw[e];exact s _ _ e) (fun b xs e=>s _ _ e),g.nd,g.last,g.fr,g.hf,g.h1,g.h2,g.same.trans s⟩
theorem GS.row (g:GS H0 H hd td fs cur a as S):∃vs,H a=some (.lst vs)/\vs.length=cur.length:=by
 obtain⟨vs,o,F,G,h1,h2,h3,rfl⟩:=g.b.ex;exact⟨vs,h1,h2.heads.1⟩
theorem GS.lens (g:GS H0 H hd td fs cur a as S):as.length=fs.length:=by
 obtain⟨vs,o,F,G,h1,h2,h3,rfl⟩:=g.b.ex;exact h3.len
theorem GS.text (s:Str)(g:GS H0 H hd td fs cur a as S)(h:H a=some (.lst vs)):GS H0 (upd H a (.lst (vs++[.str s]))) hd td fs (cur++[.txt s]) a as S :=
 ⟨by rw[wa (show hd≠a from fun e=>g.h1 (by rw[e];exact mem_cons_self))];exact g.top,g.b.text s h,g.nd,g.last,g.fr,g.hf,g.h1,g.h2,g.same.upd (g.fr a (.inl mem_cons_self))⟩
theorem GS.open' {t l:Addr}(n:Str)(g:GS H0 H hd td fs cur a as S)(h:H a=some (.lst vs))(hl:H l=some (.lst []))(ht:H t=some (.tup [.str n,.ref l]))(l1:l∉a::as)(l2:l∉S)(l3:l≠hd)(l4:H0 l=none) :
  GS H0 (upd (upd H a (.lst (vs++[.ref t]))) hd (.lst ((a::as).reverse.map .ref++[.ref l]))) hd td ((cur,n)::fs) [] l (a::as) S:=by
 have B:=g.b.open' n h hl ht l1 l2;have hd1:hd∉l::a::as:=fun e=>by
  rcases mem_cons.mp e with e|e
  ·exact l3 e.symm
  ·exact g.h1 e
 have hne:hd≠a:=fun e=>g.h1 (e ▸ mem_cons_self);have ht2:upd H a (.lst (vs++[.ref t])) hd=some (.lst ((a::as).reverse.map .ref)):=by rw[wa hne];exact g.top
 refine⟨by rw[z0h];simp,B.upd (.inl ht2) hd1 g.h2,g.nd,by rw[List.getLast?_cons_cons];exact g.last,fun b hb=>?_,g.hf,hd1,g.h2,(g.same.upd (g.fr a (.inl mem_cons_self))).upd g.hf⟩;rcases hb with hb|hb
 ·rcases mem_cons.mp hb with rfl|hb
  ·exact l4
  ·exact g.fr b (.inl hb)
 ·exact g.fr b (.inr hb)
theorem GS.close {a':Addr}{ps:List Part}{n:Str}(g:GS H0 H hd td ((ps,n)::fs) cur a (a' :: as) S):∃S',GS H0 (upd H hd (.lst ((a' :: as).reverse.map .ref))) hd td fs (ps++[.tup n cur]) a' as S':=by
 obtain⟨S',B,pm⟩:=BInv.close2 g.b;have hm:∀b,b∈S'↔b=a\/b∈S:=fun b=>by rw[pm.mem_iff,mem_cons]
 have h1:hd∉a' :: as:=fun e=>g.h1 (mem_cons_of_mem _ e);have h2:hd∉S':=fun e=>by
  rcases(hm _).mp e with e|e
  ·exact g.h1 (e ▸ mem_cons_self)
  ·exact g.h2 e
 refine⟨S',z0h,B.upd (.inl g.top) h1 h2,pm.nodup_iff.mpr (nodup_cons.mpr ⟨g.b.off a mem_cons_self,g.nd⟩),by have:=g.last;rwa [List.getLast?_cons_cons]at this,fun b hb=>?_,g.hf,h1,h2,g.same.upd g.hf⟩;rcases hb with hb|hb
 ·exact g.fr b (.inl (mem_cons_of_mem _ hb))
 ·rcases(hm b).mp hb with rfl|hb
  ·exact g.fr b (.inl mem_cons_self)
  ·exact g.fr b (.inr hb)
theorem GS.star {t l:Addr}(n:Str)(g:GS H0 H hd td fs cur a as S)(h:H a=some (.lst vs))(hl:H l=some (.lst []))(ht:H t=some (.tup [.str n,.ref l]))(l1:l∉a::as)(l2:l∉S)(l3:l≠hd)(l4:H0 l=none) :
  ∃S',GS H0 (upd H a (.lst (vs++[.ref t]))) hd td fs (cur++[.tup n []]) a as S':=by
 obtain⟨S',B,pm⟩:=BInv.close2 (g.b.open' n h hl ht l1 l2);have hm:∀b,b∈S'↔b=l\/b∈S:=fun b=>by rw[pm.mem_iff,mem_cons]
 refine⟨S',by rw[wa (show hd≠a from fun e=>g.h1 (by rw[e];exact mem_cons_self))];exact g.top,B,pm.nodup_iff.mpr (nodup_cons.mpr ⟨l2,g.nd⟩),g.last,fun b hb=>?_,g.hf,g.h1,fun e=>?_,g.same.upd (g.fr a (.inl mem_cons_self))⟩
 ·rcases hb with hb|hb
  ·exact g.fr b (.inl hb)
  ·rcases(hm b).mp hb with rfl|hb
   ·exact l4
   ·exact g.fr b (.inr hb)
 ·rcases(hm _).mp e with e|e
  ·exact l3 e.symm
  ·exact g.h2 e
theorem qk {α:Type}(xs:List α)(x:α):atI (xs++[x]) (-1)=some x:=by
 unfold atI ixN;rw[if_neg (by decide),if_pos (by simp;omega)];have e:(-1+((xs++[x]).length:Int)).toNat=xs.length:=by simp;omega
 show(xs++[x])[(-1+((xs++[x]).length:Int)).toNat]? = some x;rw[e];simp
noncomputable def szF:List (List Part×Str)->Nat
 | []=>0
 |f::fs=>Da f.1+1+szF fs
noncomputable def szSt (st:Sc):Nat:=Da st.cur+szF st.fs
theorem x9:∀fs:List (List Part×Str),fs.length<=szF fs
 | []=>zero_le _
 |f::fs=>by have:=x9 fs;simp only[length_cons,szF];omega
theorem x8a {st st':Sc}{t:Cs}(h:Oa st t=some st'):szSt st' <= szSt st+1:=by
 unfold Oa at h;split at h
 ·split at h
  ·cases h;simp only[szSt,Da,szF];omega
  ·cases h
 ·split at h
  ·cases h;simp only[szSt];omega
  ·split at h
   ·cases h;simp only[szSt,Kf,Da,Qa];omega
   ·split at h
    ·cases h;simp only[szSt,Kf,Da,Qa];omega
    ·split at h
     ·split at h
      ·rename_i e;cases h;simp only[szSt,e,szF,Kf,Da,Qa];omega
      ·cases h
     ·cases h
variable {P:Program}{w:World}{K:W.Frag}{mg:Str->Option Value}{base:Heap}{f:Addr}{fd:FuncData}
def q8b:Sp:=fun vs H Q _=>∃(H0:Hp)(hd td a:Addr)(as S:List Addr)(st:Sc)(t:Cs),vs=[.ref hd,.str (strC t)]/\GS H0 H hd td st.fs st.cur a as S/\st.nm=[]/\isNm t=false/\t.length<=2000/\szSt st<=90000 /\
 (∀st' H' a' as' S',Oa st t=some st'->GS H0 H' hd td st'.fs st'.cur a' as' S'->st'.nm=[]->Q (.bl true) H')/\(Oa st t=none->Q (.bl false) H)
theorem k0a {f1:Addr}{fd1:FuncData}(u1u:Ent K mg "lay_part" wg ["holders","token"] f fd)(T:Zs K mg)(u1g:Ent K mg "unquoted" Ue ["token"] f1 fd1):FnOk P w K mg base CX0 2 f fd ["holders","token"] q8b:=by
 have u6p:=j9b (P:=P) (w:=w) (base:=base) u1g T;obtain⟨tq,h_QUOTE⟩:=T.g_QUOTE;obtain⟨tst,h_STAR⟩:=T.g_STAR;refine u1u.F.ok y8y (fun vs H Q E h=>?_) (fun cdv A outer s H vs Q E hr h=>?_)
 ·obtain⟨_,_,_,_,_,_,_,_,rfl,_⟩:=h;rfl
 ·obtain⟨H0,hd,td,a,as,S,st,t,rfl,g,hnm,hn,htl,hz,q,qn⟩:=h;refine⟨_,(Ta (Lb (qc (yf plainAttrs_str PySem.F.slot_str_startswith PySem.F.type_str_startswith q0y (pv 1) (xa (tf (v:=.str "\"") rfl h_QUOTE ⟨_,rfl⟩) Ca))) (Ua (Ld (zf PySem.F.slot_list_append PySem.F.type_list_append zb (bd gb (pv 0) (Ai Bi Ub) (fun _ _=>rfl)) (xa (yb u6p (hr.mono (by decide)) rfl u1g.g u1g.F.kp u1g.b .nil Ea (xa (pv 1) Ca)) Ca)))) (Ua (Lb (Ab Ra (pv 1) (tf (v:=.str "*") rfl h_STAR ⟨_,rfl⟩) (za _)) (Ua (Ld (zf PySem.F.slot_list_append PySem.F.type_list_append zb (bd gb (pv 0) (Ai Bi Ub) (fun _ _=>rfl)) (xa (Ci (xa (tf (v:=.str "*") rfl h_STAR ⟨_,rfl⟩) (xa (Fc Ca) Ca))) Ca)))) (Ua (Lb (PW.pt (Jd (Ab Ra (pv 1) Gb (za _)) (ce (Ab Wg (Nc Gc rfl T.z_len PySem.boot_len (xa (pv 0) Ca)) Ub (za _))))) (Ua (Ld (wp slot_list_pop type_list_pop Di (pv 0)))) (Ua (uc Yf)))))))
   (Ua (uc Yf))),?_⟩
  have sz:=Sa;walk_at "rs";unfold tIfS;walk_at "rs";refine⟨rfl,?_⟩;obtain⟨fs,cur,nm⟩:=st;cases(show nm=[] from hnm);have hlast:atI ((a::as).reverse.map V.ref) (-1)=some (V.ref a):=by rw[reverse_cons,map_append];exact qk _ _
  obtain⟨vs,hva,hvl⟩:=g.row;replace hvl:vs.length=cur.length:=hvl;have hcl:=ze cur;simp only[szSt]at hz;have hstep:Oa ⟨fs,cur,[]⟩ t=if t.head? = some 34 then some ⟨fs,cur++[.txt (unqF t)],[]⟩ else if t=[42] then some ⟨fs,cur++[.tup "*" []],[]⟩ else if t=[41] then(match fs with|(ps,n)::fs=>some ⟨fs,ps++[.tup n cur],[]⟩ | []=>none) else none:=by
   unfold Oa;rw[if_neg (by simp),if_neg (by rw[hn];simp)]<;>rfl
  rw[hstep]at qn;replace q:∀(st':Sc)(H':Hp)(a':Addr)(as' S':List Addr),(if t.head? = some 34 then some (⟨fs,cur++[.txt (unqF t)],[]⟩:Sc) else if t=[42] then some ⟨fs,cur++[.tup "*" []],[]⟩ else if t=[41] then(match fs with|(ps,n)::fs=>some ⟨fs,ps++[.tup n cur],[]⟩ | []=>none) else none)=some st'->GS H0 H' hd td st'.fs st'.cur a' as' S'->st'.nm=[]->Q (.bl true) H':=fun st' H' a' as' S' e=>q st' H' a' as' S' (by rw[hstep];exact e);have hsw:startswith (strC t) (Str.ofString "\"")=decide (t.head? = some 34):=by rw[ir,q5d]
  by_cases h34:t.head? = some 34
  ·rw[if_pos h34]at q;rw[if_pos (hsw.trans (decide_eq_true h34))];refine⟨_,g.top,_,hlast,a,rfl,⟨_,hva⟩,?_⟩;refine Zc (ds:=[cD t]) (Qd:=fun _ d _=>d=.str (unqF t)) ⟨_,_,rfl,rfl,rfl⟩ ⟨t,rfl,htl,rfl⟩ fun b d δ' v H1 s1 ed rv=>?_;cases ed;cases(show v=.str (unqF t) from rv);have g1:=g.same' s1;have hva1:=s1 _ _ hva;exact⟨vs,hva1,by omega,q _ _ _ _ _ rfl (g1.text _ hva1) rfl⟩
  ·rw[if_neg h34]at q qn;rw[if_neg (by rw[hsw,decide_eq_false h34];simp)];by_cases h42:t=[42]
   ·subst h42;rw[if_pos rfl]at q;rw[if_pos (by decide +kernel)];refine⟨_,g.top,_,hlast,a,rfl,⟨_,hva⟩,by omega,fun l hl=>⟨by omega,fun tt htl htt=>?_⟩⟩;have g1:=g.same' (Same.of_new (o:=.lst []) hl);obtain⟨n1,n2,n3⟩:=g.out hl;have htt1:upd H l (.lst []) tt=none:=by rw[wa htl];exact htt
    have g2:=g1.same' (Same.of_new (o:=.tup [V.str (Str.ofString "*"),V.ref l]) htt1);have hva2:upd (upd H l (.lst [])) tt (.tup [V.str (Str.ofString "*"),V.ref l]) a=some (.lst vs):=by
     rw[wa (fun e=>by rw[e,htt]at hva;cases hva),wa (fun e=>by rw[e,hl]at hva;cases hva)];exact hva
    obtain⟨S',g3⟩:=g2.star (t:=tt) (l:=l) (Str.ofString "*") hva2 (by rw[wa (Ne.symm htl),z0h]) z0h n2 n3 n1 (g.same.free hl);exact⟨vs,hva2,by omega,q _ _ _ _ _ rfl g3 rfl⟩
   ·rw[if_neg h42]at q qn;rw[if_neg (fun z=>h42 (Yd (by rw[gi]at z;exact z)))];by_cases h41:t=[41]
    ·subst h41;rw[if_pos rfl]at q qn;rw[if_pos (by decide +kernel)];cases fs with
     |nil =>
      have hln:as=[]:=eq_nil_of_length_eq_zero g.lens;subst hln;refine⟨_,g.top,?_⟩;rw[if_neg (by simp)];exact qn rfl
     |cons fr fs =>
      obtain⟨ps,n⟩:=fr;have hln:=g.lens;cases as with
      |nil=>cases hln
      |cons a' as =>
       refine⟨_,g.top,?_⟩;rw[if_pos (by simp only[length_map,length_reverse,length_cons];omega)];obtain⟨S',g2⟩:=g.close;refine⟨⟨_,g.top⟩,_,g.top,.ref a,?_,?_⟩
       ·rw[reverse_cons,map_append,map_singleton,length_append,length_singleton,Nat.add_sub_cancel,getElem?_append_right (le_refl _)];simp
       ·have e:((a::a' :: as).reverse.map V.ref).dropLast=(a' :: as).reverse.map V.ref:=by rw[reverse_cons (a:=a),map_append,map_singleton,List.dropLast_concat]
        rw[e];exact q _ _ _ _ _ rfl g2 rfl
    ·rw[if_neg h41]at qn;rw[if_neg (fun z=>h41 (Yd (by rw[Pg]at z;exact z)))];exact qn rfl
end
local macro_rules|`(tactic| walk_at "rd")=>do
 let v<-("L2.start tSeq q2m tAsg y0a tVar tC tOp tUn rI0 rU q2z tIfS tRet q4d x5t tCB y2i tNil tBM tNot tAnd tOr tB tTup tLst tIf rEq rNe scSS scII z6c rPop rCat gTup q9p gNil tLM tLM0 tDIn j3k y0z z5a z0h and_imp ne_eq atI2 HO.lst.injEq HO.tup.injEq y2q q7j Int.toNat_natCast q7e List.map_cons List.map_nil List.length_cons List.length_nil Nat.reduceAdd Nat.reduceSub List.replicate_succ List.replicate_zero List.cons_append List.nil_append List.append_nil List.getElem?_cons_zero List.getElem?_cons_succ List.set_cons_zero List.set_cons_succ Option.some.injEq V.int.injEq V.str.injEq V.ref.injEq V.bl.injEq V.ty.injEq List.cons.injEq exists_eq_left' exists_eq_left exists_eq' and_true true_and and_assoc exists_and_left reduceCtorEq false_and exists_false false_or or_false decide_eq_true_eq if_true if_false Bool.true_eq_false Bool.false_eq_true Bool.not_true Bool.not_false Bool.not_eq_eq_eq_not x7q x5v rIsX tTry y0y x9j x5r j4l q7l".splitOn " ").mapM fun n=>`(Lean.Parser.Tactic.simpLemma| $(Lean.mkIdent n.toName):term)
 `(tactic|((try dsimp only[$(v.toArray),*]);(try simp only[$(v.toArray),*])))
theorem spD_F {R:RD}{vs:List V}{ds:List D}{F H:Hp}{Q:VK}{E:XK}{Qd:Bool->D->List Slot->Prop}(s:Same F H)(r:Reps F ds vs)(h:R (ds.map .fz) Qd)(k:∀b d δ' v F' H',Same H H'->Same F F'->Same F' H'->(∀a o,F' a=some o->F a=none->H a=none)->Qd b d δ'->Rep F' d v->Q v H'):spD R vs H Q E:=by
 refine⟨_,[],F,_,Qd,fun p a e=>by simp at e,lh s r,h,fun b d v δ' F' H' I q=>?_⟩;obtain⟨F2,s2,I2,rv⟩:=I.fr;exact k b d δ' v F2 H' I.base I2.ext I2.sub I2.new q rv
theorem Nj:∀(n:Nat)(l:Cs),∀t∈tokR n l,t.length<=l.length
 |0,l,t,h=>by simp[tokR]at h
 |n+1,[],t,h=>by simp[tokR]at h
 |n+1,c::r,t,h=>by
  rw[Rf]at h;have d1:=ff (· ≠ 34) r;have d2:=ff isL r;have d4:(r.takeWhile isL).length<=r.length:=(takeWhile_sublist _).length_le;split at h
  ·split at h
   ·rename_i hm;obtain⟨_,_,hl⟩:=Mj hm;rcases mem_cons.mp h with rfl|h
    ·simp only[length_cons,length_append,length_nil];omega
    ·have:=Nj n _ t h;rw[length_tail]at this;simp only[length_cons];omega
   ·simp at h;subst h;simp
  ·split at h
   ·rcases mem_cons.mp h with rfl|h
    ·simp only[length_cons];omega
    ·have:=Nj n _ t h;simp only[length_cons];omega
   ·rcases mem_cons.mp h with rfl|h
    ·simp
    ·have:=Nj n _ t h;simp only[length_cons];omega
theorem x8c {l t:Cs}(h:t∈tok l):t.length<=l.length:=Nj _ _ t (mem_filter.mp h).1
theorem GS.end {H0 H:Hp}{hd td a:Addr}{as S:List Addr}{cur:List Part}(g:GS H0 H hd td [] cur a as S):a=td/\as=[]/\∃us o F,H td=some (.lst us)/\RepL H us cur o F/\(td::F).Nodup/\∀b∈td::F,H0 b=none:=by
 have hl:=g.lens;have has:as=[]:=eq_nil_of_length_eq_zero hl;subst has;have e:a=td:=by have:=g.last;simpa using this
 subst e;obtain⟨us,o,F,G,h1,h2,h3,rfl⟩:=id g.b.ex;cases h3;have nd:=g.nd;have off:=g.b.off a mem_cons_self;have fr:=g.fr;rw[append_nil]at nd off fr;refine⟨rfl,rfl,us,o,F,h1,h2,nodup_cons.mpr ⟨off,nd⟩,fun b hb=>?_⟩;rcases mem_cons.mp hb with rfl|hb
 ·exact fr _ (.inl mem_cons_self)
 ·exact fr _ (.inr hb)
noncomputable def Dc (l:Cs):Option (List Part):=match runS (tok l) ⟨[],[],[]⟩ with
 |some st=>if st.nm=[]/\st.fs=[] then some st.cur else none
 |none=>none
theorem q4i {ts:List Cs}{i:Nat}{t:Cs}{s0 st:Sc}(h:runS (ts.take i) s0=some st)(e:ts[i]? = some t)(hn:Oa st t=none):runS ts s0=none:=by
 cases hall:runS ts s0 with
 |none=>rfl
 |some s1 =>
  obtain⟨st',h1,_⟩:=j7b h e hall;rw[hn]at h1;cases h1
theorem q2p {ts:List Cs}{i:Nat}{t:Cs}{s0 st st':Sc}(h:runS (ts.take i) s0=some st)(e:ts[i]? = some t)(hs:Oa st t=some st'):runS (ts.take (i+1)) s0=some st':=by
 have e1:ts.take (i+1)=ts.take i++[t]:=by rw[List.take_add_one,e];rfl
 rw[e1,xj,h,bind_some];show(Oa st t).bind _=_;rw[hs];rfl
section
variable {P:Program}{w:World}{K:W.Frag}{mg:Str->Option Value}{base:Heap}{f:Addr}{fd:FuncData}
def q1h:Sp:=fun vs H Q _=>∃l:Cs,vs=[.str (strC l)]/\l.length<=1000/\(Dc l=none->∀H',Same H H'->Q .non H')/\∀ps:List Part,Dc l=some ps ->
 ∀(l:Addr)(us o:List V)(F:List Addr)(H':Hp),Same H H'->H' l=some (.lst us)->RepL H' us ps o F->(l::F).Nodup->(∀b∈l::F,H b=none)->Q (.ref l) H'
theorem j2j {f1 f2 f3 f4 f5 f6:Addr}{fd1 fd2 fd3 fd4 fd5 fd6:FuncData}(u0y:Ent K mg "scanned_row" yh ["line"] f fd)(T:Zs K mg)(u1u:Ent K mg "lay_part" wg ["holders","token"] f1 fd1)(u1g:Ent K mg "unquoted" Ue ["token"] f2 fd2)(u0w:Ent K mg "is_name" Te ["text"] f3 fd3)(u0c:Ent K mg "is_letter" Vd ["sign"] f4 fd4)(u1j:Ent K mg "tokens_of" Mf ["line"] f5 fd5)(u0q:Ent K mg "token_end" Lf ["line","begin"] f6 fd6):FnOk P w K mg base CX0 4 f fd ["line"] q1h:=by
 have u6q:=k0a (P:=P) (w:=w) (base:=base) u1u T u1g;have u5s:=q6l (P:=P) (w:=w) (base:=base) u0w T u0c;have u6k:=j4w (P:=P) (w:=w) (base:=base) u1j T u0q u0c;refine u0y.F.ok bf (fun vs H Q E h=>?_) (fun cdv A outer s H vs Q E hr h=>?_)
 ·obtain⟨_,rfl,_⟩:=h;rfl
 ·obtain⟨l,rfl,hjl,qn,q⟩:=h;have hu:=Qb hr;refine⟨_,(Ta (xb (i:=1) bf.nd rfl (Or.inl rfl) (Fc Ca))
   (Ta (xb (i:=2) bf.nd rfl (Or.inl rfl) (Fc (xa (pv 1) Ca)))
   (Ta (xb (i:=3) bf.nd rfl (Or.inl rfl) Gb)
   (Ta (zi PassesOwn.never rfl (xi (yb u6k (hr.mono (by decide)) rfl u1j.g u1j.F.kp u1j.b .nil Ea (xa (pv 0) Ca))) (uf (i:=4) bf.nd rfl (Or.inl rfl)) (Ua (Lb (PW.pt (Jd (Ab vc (pv 3) Gb (za _)) (ce (Ab Ra (pv 4) Gb (za _))))) (Ta (xb (i:=5) bf.nd rfl (Or.inl rfl) (Fc Ca))
   (Ta (Ld (zf PySem.F.slot_list_append PySem.F.type_list_append zb (bd gb (pv 2) (Ai Bi Ub) (fun _ _=>rfl)) (xa (Ci (xa (pv 3) (xa (pv 5) Ca))) Ca)))
   (Ta (Ld (zf PySem.F.slot_list_append PySem.F.type_list_append zb (pv 2) (xa (pv 5) Ca)))
   (Ua (xb (i:=3) bf.nd rfl (Or.inl rfl) Gb))))) (Ua (Lb (PW.pt (Jd (Ab Ra (pv 3) Gb (za _)) (ce (qc (yb u5s (hr.mono (by decide)) rfl u0w.g u0w.F.kp u0w.b .nil Ea (xa (pv 4) Ca)))))) (Ua (xb (i:=3) bf.nd rfl (Or.inl rfl) (pv 4))) (Ua (Lb (PW.pt (Tg (Ab vc (pv 3) Gb (za _)) (Zj (qi (qc (yb u6q (hr.mono (by decide)) rfl u1u.g u1u.F.kp u1u.b .nil Ea (xa (pv 2) (xa (pv 4) Ca)))))))) (Ua (uc wd)) Xb)))))))
   (Ua (uc (Ug (PW.pt (Jd (Ab Ra (pv 3) Gb (za _)) (ce (Ab Ra (Nc Gc rfl T.z_len PySem.boot_len (xa (pv 2) Ca)) Ub (za _))))) (pv 1) wd))))))),?_⟩
  have sz:=Sa;have tl:=Nm l;walk_at "rs";refine⟨by omega,fun p1 h1=>⟨by omega,fun p2 n2 h2=>?_⟩⟩;have G:GS H (upd (upd H p1 (.lst [])) p2 (.lst [.ref p1])) p2 p1 [] [] p1 [] []:=by
   refine⟨z0h,⟨⟨[],[],[],[],by rw[wa (Ne.symm n2),z0h],.nil,.nil,rfl⟩,by simp,by simp⟩,nodup_nil,rfl,fun b hb=>?_,h2,by simpa using n2,by simp,(Same.of_new h1).upd h2⟩;rcases hb with hb|hb
   ·cases mem_singleton.mp hb;exact h1
   ·cases hb
  refine spD_F (ds:=[cD l]) (Qd:=fun _ d _=>d=.lst ((tok l).map fun t=>.str (strC t))) G.same ⟨_,_,rfl,rfl,rfl⟩ ⟨l,rfl,by omega,rfl⟩ fun b d δ' v F2 H2 s2 sF s3 new ed rv=>?_;subst ed;obtain⟨a,vs,rfl,ha,rvs⟩:=rv;have evs:vs=(tok l).map fun t=>V.str (strC t):=by
   have:=Reps.strs (ks:=(tok l).map strC) (by rw[List.map_map];exact rvs);rw[this,List.map_map];rfl
  subst evs;have fz:∀b,H b=none->(∃o,upd (upd H p1 (.lst [])) p2 (.lst [.ref p1]) b=some o)->F2 b=none:=fun b hb ⟨o,eo⟩=>by
   cases e:F2 b with
   |none=>rfl
   |some o' =>
    have:=new b o' e hb;rw[eo]at this;cases this
  have G2:GS F2 H2 p2 p1 [] [] p1 [] []:=by
   have g:=G.same' s2;refine⟨g.top,g.b,g.nd,g.last,fun b hb=>?_,fz p2 h2 ⟨_,G.top⟩,g.h1,g.h2,s3⟩;obtain⟨xs,e⟩:=G.b.list b hb;exact fz b (G.fr b hb) ⟨_,e⟩
  refine⟨a,rfl,⟨_,SqL.of (s3 _ _ ha)⟩,qp (xs:=(tok l).map fun t=>V.str (strC t)) (fun i σ H'=>∃st a' as S x4 x5,σ=[some (.str (strC l)),some (.ref p1),some (.ref p2),some (.str (strC st.nm)),x4,x5]/\runS ((tok l).take i) ⟨[],[],[]⟩=some st/\GS F2 H' p2 p1 st.fs st.cur a' as S/\szSt st<=i) ⟨⟨[],[],[]⟩,_,_,_,none,none,rfl,rfl,G2,zero_le _⟩ (fun i σ H' _ h=>?_) (fun i x σ H' hx h=>?_) (fun σ H' h=>?_)⟩
  ·obtain⟨st,a',as,S,x4,x5,rfl,hrun,g,hz⟩:=h;exact SqL.of (g.same _ _ ha)
  ·obtain⟨st,a',as,S,x4,x5,rfl,hrun,g,hz⟩:=h;rw[getElem?_map]at hx;obtain⟨t,ht,rfl⟩:=map_eq_some_iff.mp hx;have hi:=(List.getElem?_eq_some_iff.mp ht).1;have fail:Oa st t=none->Dc l=none:=fun z=>by unfold Dc;rw[q4i hrun ht z]
   have go:∀st',Oa st t=some st'->runS ((tok l).take (i+1)) ⟨[],[],[]⟩=some st'/\szSt st' <= i+1:=fun st' z=>⟨q2p hrun ht z,by have:=x8a z;omega⟩;have sH:Same H H':=sF.trans g.same;obtain⟨fs,cur,nm⟩:=st;have htl:t.length<=l.length:=x8c (mem_of_getElem? ht);walk_at "rs";unfold tIfS;walk_at "rs";have hlast:atI ((a' :: as).reverse.map V.ref) (-1)=some (V.ref a'):=by rw[reverse_cons,map_append];exact qk _ _
   obtain⟨vs,hva,hvl⟩:=g.row;replace hvl:vs.length=cur.length:=hvl;have hcl:=ze cur;have hfl:=x9 fs;have hln:as.length=fs.length:=g.lens;have hz0:=hz;simp only[szSt]at hz;by_cases hnm:nm=[]
   ·subst hnm;have e0:strC []=Str.ofString "":=by decide +kernel
    refine⟨false,by rw[decide_eq_true e0];rfl,?_⟩;rw[if_neg (by simp),if_pos e0];refine Zc (ds:=[cD t]) (Qd:=fun _ d _=>d=.bl (isNm t)) ⟨_,_,rfl,rfl,rfl⟩ ⟨strC t,rfl,by rw[Na];omega,by rw[fb]⟩ fun b d δ' v H3 s4 ed rv=>?_;subst ed;cases(show v=.bl (isNm t) from rv);have g1:=g.same' s4;refine⟨_,rfl,?_⟩;cases hN:isNm t with
    |true =>
     rw[if_pos rfl];obtain⟨hrun',hsz⟩:=go ⟨fs,cur,t⟩ (by unfold Oa;rw[if_neg (by simp),if_pos hN]);exact⟨_,rfl,hrun',_,_,_,g1,by omega⟩
    |false =>
     rw[if_neg (by simp)];refine⟨false,by rw[decide_eq_true e0];rfl,?_⟩;rw[if_neg (by simp)];refine⟨F2,p2,p1,a',as,S,⟨fs,cur,[]⟩,t,rfl,g1,rfl,hN,by omega,by omega,fun st' H4 a2 as2 S2 hst g' hnm'=>⟨true,rfl,?_⟩,fun hst=>⟨false,rfl,?_⟩⟩
     ·rw[if_neg (by simp)];obtain⟨hrun',hsz⟩:=go st' hst;exact⟨st',by rw[hnm'],hrun',_,_,_,g',by omega⟩
     ·rw[if_pos rfl];exact qn (fail hst) _ (sH.trans s4)
   ·have e0:¬strC nm=Str.ofString "":=fun z=>hnm (by have:=congrArg csS z;rw[fb]at this;rw[this];decide +kernel);have hst0:Oa ⟨fs,cur,nm⟩ t=if t=[40] then some ⟨(cur,strC nm)::fs,[],[]⟩ else none:=by unfold Oa;rw[if_pos hnm]
    by_cases h40:t=[40]
    ·subst h40;rw[if_pos rfl]at hst0;obtain⟨hrun',hsz⟩:=go _ hst0;refine⟨true,by rw[decide_eq_false e0];rfl,?_⟩;rw[if_pos rfl,if_pos (by decide +kernel)];refine⟨by omega,fun p hp=>?_⟩;have g1:=g.same' (Same.of_new (o:=.lst []) hp);obtain⟨n1,n2,n3⟩:=g.out hp;refine⟨_,g1.top,_,hlast,a',rfl,⟨vs,by rw[wa (fun e=>by rw[e,hp]at hva;cases hva)];exact hva⟩,by omega,fun tt htl htt=>?_⟩;have htt1:upd H' p (.lst []) tt=none:=by rw[wa htl];exact htt
     have g2:=g1.same' (Same.of_new (o:=.tup [V.str (strC nm),V.ref p]) htt1);have hva2:upd (upd H' p (.lst [])) tt (.tup [V.str (strC nm),V.ref p]) a' = some (.lst vs):=by
      rw[wa (fun e=>by rw[e,htt]at hva;cases hva),wa (fun e=>by rw[e,hp]at hva;cases hva)];exact hva
     have g3:=g2.open' (t:=tt) (l:=p) (strC nm) hva2 (by rw[wa (Ne.symm htl),z0h]) z0h n2 n3 n1 (g.same.free hp);have top3:upd (upd (upd H' p (.lst [])) tt (.tup [V.str (strC nm),V.ref p])) a' (.lst (vs++[V.ref tt])) p2=some (.lst ((a' :: as).reverse.map V.ref)):=by
      rw[wa (show p2≠a' from fun e=>g.h1 (by rw[e];exact mem_cons_self))];exact g2.top
     exact⟨vs,hva2,by omega,⟨_,top3⟩,_,top3,by simp only[length_map,length_reverse,length_cons];omega,_,(show Str.ofString "" = strC [] by decide +kernel),hrun',_,_,_,g3,by omega⟩
    ·rw[if_neg h40]at hst0;refine⟨true,by rw[decide_eq_false e0];rfl,?_⟩;rw[if_pos rfl,if_neg (fun z=>h40 (Yd (by rw[Ij]at z;exact z))),if_neg e0];refine⟨true,by rw[decide_eq_false e0];rfl,?_⟩;rw[if_pos rfl];exact qn (fail hst0) _ sH
  ·obtain⟨st,a',as,S,x4,x5,rfl,hrun,g,hz⟩:=h;rw[length_map,List.take_length]at hrun;have sH:Same H H':=sF.trans g.same;have hsc:Dc l=if st.nm=[]/\st.fs=[] then some st.cur else none:=by unfold Dc;rw[hrun]
   obtain⟨fs,cur,nm⟩:=st;dsimp only at hsc g;walk_at "rd";by_cases hnm:nm=[]
   ·subst hnm;rw[if_pos (by decide +kernel)];refine⟨_,g.top,?_⟩;by_cases hfs:fs=[]
    ·subst hfs;rw[if_pos ⟨rfl,rfl⟩]at hsc;obtain⟨rfl,rfl,us,o,F,e1,e2,e3,e4⟩:=g.end;rw[if_pos (by simp)];exact q _ hsc _ us o F H' sH e1 e2 e3 fun b hb=>sF.free (e4 b hb)
    ·rw[if_neg (fun z=>hfs z.2)]at hsc;rw[if_neg (by
      have:=g.lens;have h0:fs.length≠0:=fun z=>hfs (eq_nil_of_length_eq_zero z);simp only[length_map,length_reverse,length_cons];omega)]
     exact qn hsc _ sH
   ·rw[if_neg (fun z=>hnm z.1)]at hsc;rw[if_neg (fun z=>hnm (by have:=congrArg csS z;rw[fb]at this;rw[this];decide +kernel))];exact qn hsc _ sH
structure StOk (st:Sc):Prop where
 fs:∀f∈st.fs,okL f.1=true/\nmB f.2=true
 cur:okL st.cur=true
 nm:st.nm=[]\/nmB (strC st.nm)=true
theorem y9 (ps qs:List Part):okL (ps++qs)=(okL ps&&okL qs):=by
 induction ps with
 |nil=>simp[okL]
 |cons p ps ih=>simp[okL,ih,Bool.and_assoc]
theorem j7a {n:Str}(h:nmB n=true):n ≠ "*":=by
 rintro rfl;exact absurd h (by decide +kernel)
theorem j2r {st st':Sc}{t:Cs}(h:Oa st t=some st')(o:StOk st)(hl:t.length<=2000)(hs:t.all sgB=true):StOk st':=by
 obtain⟨fs,cur,nm⟩:=st;obtain⟨o1,o2,o3⟩:=o;unfold Oa at h;dsimp only at h o1 o2 o3;split at h
 ·rename_i hn;split at h
  ·cases h;refine⟨fun f hf=>?_,rfl,.inl rfl⟩;rcases mem_cons.mp hf with rfl|hf
   ·exact⟨o2,o3.resolve_left hn⟩
   ·exact o1 f hf
  ·cases h
 ·split at h
  ·rename_i hN;cases h;refine⟨o1,o2,.inr ?_⟩;unfold nmB;rw[fb,hN,Na,decide_eq_true hl];rfl
  ·split at h
   ·cases h;refine⟨o1,?_,.inl rfl⟩;show okL (cur++[.txt (unqF t)])=true;rw[y9,o2];simp[okL,ok1,j8a hl hs]
   ·split at h
    ·cases h;refine⟨o1,?_,.inl rfl⟩;show okL (cur++[.tup "*" []])=true;rw[y9,o2];simp[okL,ok1]
    ·split at h
     ·cases fs with
      |nil=>cases h
      |cons f fs =>
       obtain⟨ps,n⟩:=f;cases h;have hf:=o1 (ps,n) mem_cons_self;refine⟨fun f hf=>o1 f (mem_cons_of_mem _ hf),?_,.inl rfl⟩;show okL (ps++[.tup n cur])=true;rw[y9,hf.1];simp[okL,ok1,j7a hf.2,hf.2,o2]
     ·cases h
theorem q6m:∀(ts:List Cs)(st st':Sc),runS ts st=some st'->StOk st->(∀t∈ts,t.length<=2000/\t.all sgB=true)->StOk st'
 | [],st,st',h,o,_=>by cases h;exact o
 |t::ts,st,st',h,o,ht=>by
  rw[runS]at h;cases e:Oa st t with
  |none=>rw[e]at h;cases h
  |some s1 =>
   rw[e]at h;exact q6m ts s1 st' h (j2r e o (ht t mem_cons_self).1 (ht t mem_cons_self).2) fun u hu=>ht u (mem_cons_of_mem _ hu)
theorem q9d:∀(ts:List Cs)(st st':Sc),runS ts st=some st'->szSt st' <= szSt st+ts.length
 | [],st,st',h=>by cases h;exact le_add_right _ _
 |t::ts,st,st',h=>by
  rw[runS]at h;cases e:Oa st t with
  |none=>rw[e]at h;cases h
  |some s1 =>
   rw[e]at h;have h1:=q9d ts s1 st' h;have h2:=x8a e;simp only[length_cons];omega
theorem Oj:∀(n:Nat)(l:Cs),∀t∈tokR n l,∀c∈t,c∈l
 |0,l,t,h,c,hc=>by simp[tokR]at h
 |n+1,[],t,h,c,hc=>by simp[tokR]at h
 |n+1,k::r,t,h,c,hc=>by
  rw[Rf]at h;split at h
  ·split at h
   ·rename_i hm;rcases mem_cons.mp h with rfl|h
    ·rcases mem_cons.mp hc with rfl|hc
     ·rename_i h34;rw[h34];exact mem_cons_self
     ·rcases mem_append.mp hc with hc|hc
      ·exact mem_cons_of_mem _ ((takeWhile_sublist _).subset hc)
      ·cases mem_singleton.mp hc;exact mem_cons_of_mem _ hm
    ·have:=Oj n _ t h c hc;exact mem_cons_of_mem _ ((List.dropWhile_sublist _).subset (mem_of_mem_tail this))
   ·simp at h;subst h;exact hc
  ·split at h
   ·rcases mem_cons.mp h with rfl|h
    ·rcases mem_cons.mp hc with rfl|hc
     ·exact mem_cons_self
     ·exact mem_cons_of_mem _ ((takeWhile_sublist _).subset hc)
    ·have:=Oj n _ t h c hc;exact mem_cons_of_mem _ ((List.dropWhile_sublist _).subset this)
   ·rcases mem_cons.mp h with rfl|h
    ·cases mem_singleton.mp hc;exact mem_cons_self
    ·exact mem_cons_of_mem _ (Oj n _ t h c hc)
theorem j7p {l:Cs}(hl:l.length<=1000)(hs:l.all sgB=true):∀t∈tok l,t.length<=2000/\t.all sgB=true:=fun t ht=>by
 refine⟨by have:=x8c ht;omega,?_⟩;rw[all_eq_true]at hs ⊢;exact fun c hc=>hs c (Oj _ _ t (mem_filter.mp ht).1 c hc)
theorem Pj {l:Cs}{ps:List Part}(h:Dc l=some ps)(hl:l.length<=1000)(hs:l.all sgB=true):okL ps=true/\Da ps<=1000:=by
 unfold Dc at h;cases e:runS (tok l) ⟨[],[],[]⟩ with
 |none=>rw[e]at h;cases h
 |some st =>
  rw[e]at h;dsimp only at h;split at h
  ·cases h;have h1:=q6m _ _ _ e ⟨fun f hf=>by simp at hf,rfl,.inl rfl⟩ (j7p hl hs);have h2:=q9d _ _ _ e;have h3:=Nm l;simp only[szSt,Da,szF]at h2;exact⟨h1.cur,by omega⟩
  ·cases h
theorem j5m {ps:List Part}(h:okL ps=true):Dc (va [32] (wrL ps))=some ps:=by
 unfold Dc;rw[j9z h];simp
noncomputable def Kb (l:Cs):Option (List Part):=if l=[45] then some [] else match Dc l with
 |some ps=>if shR ps=l then some ps else none
 |none=>none
theorem j7o:∀(p:Part),ok1 p=true->∃c r,wr1 p=c::r/\c≠45
 |.txt s,_=>⟨34,_,rfl,by decide⟩
 |.tup n ps,h=>by
  by_cases hn:n = "*"
  ·subst hn;exact⟨42,[],by simp[wr1],by decide⟩
  ·simp only[ok1,hn,if_false,and_eq_true]at h;obtain⟨c,t,e,hc⟩:=Cj (r:=[]) (Ig h.1).1;rw[append_nil]at e;simp only[wr1,hn,if_false,e,cons_append];exact⟨c,_,rfl,by rintro rfl;exact absurd hc (by decide)⟩
theorem x7x {ps:List Part}(h:okL ps=true)(hne:ps≠[]):va [32] (wrL ps)≠[45]:=by
 cases ps with
 |nil=>exact absurd rfl hne
 |cons p ps =>
  simp only[okL,and_eq_true]at h;obtain⟨c,r,e,hc⟩:=j7o p h.1;intro z;cases ps with
  |nil=>rw[wrL,wrL,va,e]at z;exact hc (List.cons.inj z).1
  |cons q qs =>
   rw[gf [] p _ (by simp),e]at z;simp only[cons_append]at z;exact hc (List.cons.inj z).1
theorem ki {l:Cs}(hl:l.length<=1000)(hs:l.all sgB=true)(ps:List Part):Kb l=some ps↔okL ps=true/\shR ps=l:=by
 unfold Kb;constructor
 ·intro h;split at h
  ·rename_i h45;cases h;exact⟨rfl,by rw[h45];rfl⟩
  ·cases e:Dc l with
   |none=>rw[e]at h;cases h
   |some qs =>
    rw[e]at h;dsimp only at h;split at h
    ·rename_i hq;cases h;exact⟨(Pj e hl hs).1,hq⟩
    ·cases h
 ·rintro⟨ok,e⟩;by_cases hne:ps=[]
  ·subst hne;have:l=[45]:=by rw[<-e];rfl
   rw[if_pos this]
  ·have esh:shR ps=va [32] (wrL ps):=by simp[shR,hne]
   have e2:l=va [32] (wrL ps):=by rw[<-e,esh]
   rw[if_neg (by rw[e2];exact x7x ok hne)];rw[e2,j5m ok];dsimp only;rw[if_pos esh]
theorem y3v:∀l:Cs,(∀c∈escC l,sgB c=true)->l.all sgB=true
 | [],_=>rfl
 |k::r,h=>by
  rw[escC]at h;rw[all_cons,and_eq_true];refine⟨?_,y3v r fun c hc=>h c (mem_append_right _ hc)⟩;by_cases h1:k=34
  ·subst h1;decide
  ·by_cases h2:k=92
   ·subst h2;decide
   ·exact h k (mem_append_left _ (by rw[if_neg h1,if_neg h2];simp))
theorem q7k:∀l:Cs,l.length<=(escC l).length
 | []=>by simp
 |k::r=>by
  have:=q7k r;rw[escC,length_append,length_cons];split
  ·simp;omega
  ·split<;>simp<;>omega
mutual
theorem Gn (b:Bool):∀p:Part,gr1 b p=true->(wr1 p).length<=2000->(∀c∈wr1 p,sgB c=true)->ok1 p=true/\(b=false->st1 p=0)
 |.txt s,_,hl,hs=>by
  refine⟨?_,fun _=>rfl⟩;have h1:=q7k (csS s);have h2:=wb s;simp only[wr1,quoC,length_cons,length_append]at hl;show txB s=true;unfold txB;rw[decide_eq_true (by omega),y3v _ fun c hc=>hs c (by simp[wr1,quoC,hc])];rfl
 |.tup n ps,g,hl,hs=>by
  by_cases hn:n = "*"
  ·subst hn;simp only[gr1,if_true,and_eq_true]at g;exact⟨by simp only[ok1,if_true];exact g.2,fun z=>by rw[z]at g;cases g.1⟩
  ·simp only[gr1,hn,if_false,and_eq_true]at g;simp only[wr1,hn,if_false,length_append,length_cons]at hl;have hs2:∀c∈va [32] (wrL ps),sgB c=true:=fun c hc=>hs c (by simp[wr1,hn,hc]);obtain⟨k1,k2⟩:=Hn b ps g.2 (by omega) hs2;have h2:=wb n;refine⟨?_,fun z=>?_⟩
   ·simp only[ok1,hn,if_false,k1,Bool.and_true];unfold nmB;rw[g.1,decide_eq_true (by omega)];rfl
   ·simp only[st1,hn,if_false,k2 z]
theorem Hn (b:Bool):∀ps:List Part,grL b ps=true->(va [32] (wrL ps)).length<=2000->(∀c∈va [32] (wrL ps),sgB c=true)->okL ps=true/\(b=false->stL ps=0)
 | [],_,_,_=>⟨rfl,fun _=>rfl⟩
 |p::ps,g,hl,hs=>by
  simp only[grL,and_eq_true]at g;cases ps with
  |nil =>
   rw[wrL,wrL,va]at hl hs;obtain⟨k1,k2⟩:=Gn b p g.1 hl hs;exact⟨by simp[okL,k1],fun z=>by simp[stL,k2 z]⟩
  |cons q qs =>
   rw[gf [] p _ (by simp)]at hl hs;simp only[length_append]at hl;obtain⟨k1,k2⟩:=Gn b p g.1 (by omega) fun c hc=>hs c (by simp[hc]);obtain⟨j1,j2⟩:=Hn b (q::qs) g.2 (by omega) fun c hc=>hs c (by simp[hc]);exact⟨by rw[okL,k1,j1];rfl,fun z=>by rw[stL,k2 z,j2 z]⟩
end
mutual
theorem j8u (b:Bool):∀p:Part,ok1 p=true->(b=false->st1 p=0)->gr1 b p=true
 |.txt s,_,_=>rfl
 |.tup n ps,h,hst=>by
  by_cases hn:n = "*"
  ·subst hn;simp only[ok1,if_true]at h;simp only[gr1,if_true,h,Bool.and_true];cases b with
   |true=>rfl
   |false=>have:=hst rfl;simp[st1]at this
  ·simp only[ok1,hn,if_false,and_eq_true]at h;simp only[gr1,hn,if_false,and_eq_true];exact⟨(Ig h.1).1,Jn b ps h.2 fun z=>by have:=hst z;simpa[st1,hn] using this⟩
theorem Jn (b:Bool):∀ps:List Part,okL ps=true->(b=false->stL ps=0)->grL b ps=true
 | [],_,_=>rfl
 |p::ps,h,hst=>by
  simp only[okL,and_eq_true]at h;simp only[grL,and_eq_true];exact⟨j8u b p h.1 fun z=>by have:=hst z;simp only[stL]at this;omega,Jn b ps h.2 fun z=>by have:=hst z;simp only[stL]at this;omega⟩
end
noncomputable def li (l:Cs):Option (List Part):=if l=[45] then some [] else match rowF true l with
 |some x=>if x.2=[] then some x.1 else none
 |none=>none
theorem x4i {l:Cs}(hl:l.length<=1000)(hs:l.all sgB=true)(ps:List Part):li l=some ps↔okL ps=true/\shR ps=l:=by
 rw[all_eq_true]at hs;unfold li;constructor
 ·intro h;split at h
  ·rename_i h45;cases h;exact⟨rfl,by rw[h45];rfl⟩
  ·cases e:rowF true l with
   |none=>rw[e]at h;cases h
   |some x =>
    obtain⟨qs,r⟩:=x;rw[e]at h;dsimp only at h;split at h
    ·rename_i hr;cases h;subst hr;obtain⟨k1,k2,_,k4⟩:=(Kg (by omega) _ _).mp e;rw[append_nil]at k2;refine⟨(Hn true ps k4 (by rw[<-k2];omega) (by rw[<-k2];exact hs)).1,?_⟩;simp[shR,k1,k2]
    ·cases h
 ·rintro⟨ok,e⟩;by_cases hne:ps=[]
  ·subst hne;have:l=[45]:=by rw[<-e];rfl
   rw[if_pos this]
  ·have e2:l=va [32] (wrL ps):=by rw[<-e];simp[shR,hne]
   rw[if_neg (by rw[e2];exact x7x ok hne)];have:rowF true l=some (ps,[]):=(Kg (by omega) _ _).mpr ⟨hne,by rw[append_nil];exact e2,by simp,Jn true ps ok fun z=>by cases z⟩;rw[this];dsimp only;rw[if_pos rfl]
theorem q4n {l:Cs}(hl:l.length<=1000)(hs:l.all sgB=true):Kb l=li l:=by
 apply Option.ext;intro ps;show Kb l=some ps↔li l=some ps;rw[ki hl hs,x4i hl hs]
noncomputable def Wf:Part->Bool
 |.tup _ _=>true
 |.txt _=>false
noncomputable def Hb (l:Cs):Option Part:=match Kb l with
 |some [p]=>if Wf p=true/\stL [p]=0 then some p else none
 |_=>none
noncomputable def mi (l:Cs):Option Part:=match gc false l with
 |some x=>if Wf x.1=true/\x.2=[] then some x.1 else none
 |none=>none
theorem y2b {l:Cs}(hl:l.length<=1000)(hs:l.all sgB=true)(p:Part):Hb l=some p↔ok1 p=true/\Wf p=true/\st1 p=0/\wr1 p=l:=by
 unfold Hb;constructor
 ·intro h;split at h
  ·rename_i q e;split at h
   ·rename_i hq;cases h;obtain⟨k1,k2⟩:=(ki hl hs _).mp e;simp only[okL,Bool.and_true]at k1;refine⟨k1,hq.1,by have:=hq.2;simpa[stL] using this,?_⟩;rw[<-k2];simp[shR,wrL,va]
   ·cases h
  ·cases h
 ·rintro⟨h1,h2,h3,h4⟩;have:Kb l=some [p]:=(ki hl hs _).mpr ⟨by simp[okL,h1],by rw[<-h4];simp[shR,wrL,va]⟩;rw[this];dsimp only;rw[if_pos ⟨h2,by simp[stL,h3]⟩]
theorem x3x {l:Cs}(hl:l.length<=1000)(hs:l.all sgB=true)(p:Part):mi l=some p↔ok1 p=true/\Wf p=true/\st1 p=0/\wr1 p=l:=by
 rw[all_eq_true]at hs;unfold mi;constructor
 ·intro h;cases e:gc false l with
  |none=>rw[e]at h;cases h
  |some x =>
   obtain⟨q,r⟩:=x;rw[e]at h;dsimp only at h;split at h
   ·rename_i hq;cases h;obtain⟨hq1,rfl⟩:=hq;obtain⟨k1,k2⟩:=(Dj (lt_succ_self _) _ _).mp e;rw[append_nil]at k1;obtain⟨j1,j2⟩:=Gn false p k2 (by rw[<-k1];omega) (by rw[<-k1];exact hs);exact⟨j1,hq1,j2 rfl,k1.symm⟩
   ·cases h
 ·rintro⟨h1,h2,h3,h4⟩;have:gc false l=some (p,[]):=(Dj (lt_succ_self _) _ _).mpr ⟨by rw[append_nil];exact h4.symm,j8u false p h1 fun _=>h3⟩;rw[this];dsimp only;rw[if_pos ⟨h2,rfl⟩]
theorem q6g {l:Cs}(hl:l.length<=1000)(hs:l.all sgB=true):Hb l=mi l:=by
 apply Option.ext;intro p;show Hb l=some p↔mi l=some p;rw[y2b hl hs,x3x hl hs]
def x2m (n:Nat):RD:=fun δ Q=>∃ps:List Part,δ=[.fz (.lst (pDs ps))]/\dpL ps<n/\Q false (.int (stL ps)) [.no]
theorem x8x (u0l:Ent K mg "_law_stars" Cg ["_law_row"] f fd)(T:Zs K mg):∀n,FnOk P w K mg base CX0 (n+1) f fd ["_law_row"] (spD (x2m n)):=by
 intro n;induction n with
 |zero=>exact Og fun δ Q h=>by obtain⟨_,_,h,_⟩:=h;exact not_lt_zero _ h
 |succ n u5f =>
 refine VL.Fun.dok u0l.F oj (fun δ Qd h=>?_) (by decide) (fun cdv A outer s H E δ Qd hr h=>?_)
 ·obtain⟨_,rfl,_⟩:=h;rfl
 ·obtain⟨ps,rfl,hdp,q⟩:=h;refine⟨_,(ka (Aa (i:=1) oj.nd rfl (Or.inl rfl) ia)
   (ka (pd PassesOwn.never rfl (Ad (dv 0)) (Pb (i:=2) oj.nd rfl (Or.inl rfl)) (ma (Ia (jg (Vb (Ob (Ic T.kit) (yc (K:=K) rfl) rfl T.z_isinstance boot_isinstance (aa (dv 2) (aa (Hc rfl T.z_str boot_str) ba))))) (ma (Aa (i:=1) oj.nd rfl (Or.inl rfl) (ja La Ka (ja La Ka (dv 1) (Tk Kp yo rfl T.z_int boot_int (aa (gg cb Ra (Ha Eb ib (pv 2) ia (fun _ _=>rfl)) qa (za _)) ba))) (Va u5f (hr.mono (by omega)) rfl u0l.g u0l.F.kp u0l.b Ea (aa (Ha Eb ib (pv 2) ia (fun _ _=>rfl)) ba))))) Ma)))
   (ma (Ba (dm 1))))),?_⟩
  walk_at "vd";refine og [2] (fun r δ=>∃pre suf,ps=pre++suf/\r=pDs suf/\δ=[.fz (.lst (pDs ps)),.fz (.int (stL pre)),.no]) ⟨[],ps,rfl,rfl,rfl⟩ ?_ ?_
  ·rintro d r δ ⟨pre,suf,e1,e2,rfl⟩;cases suf with
   |nil=>cases e2
   |cons p suf =>
    cases e2;have e5:=congrArg dpL e1;rw[ci]at e5;simp only[dpL]at e5;cases p with
    |txt z =>
     simp only[pD];walk_at "vd";refine⟨pre++[.txt z],suf,by simp[e1],rfl,?_⟩;simp[Ng,stL,st1]
    |tup nm qs =>
     simp only[pD];simp only[dp1]at e5;walk_at "vd";refine⟨qs,rfl,by omega,?_⟩;walk_at "vd";refine⟨pre++[.tup nm qs],suf,by simp[e1],rfl,?_⟩;have z:((stL pre:Int)+(if nm = "*" then 1 else 0)+(stL qs:Int))=((stL (pre++[.tup nm qs]):Nat):Int):=by
      rw[Ng];simp only[stL,st1];split<;>omega
     rw[z]
  ·rintro δ ⟨pre,suf,e1,e2,rfl⟩;cases suf with
   |cons p suf=>cases e2
   |nil =>
    walk_at "vd";rw[append_nil]at e1;subst e1;exact q
def Dd:List Str->List (Str×List Part)->Option (Bool×Str)
 |_,[]=>none
 |met,r::fs=>if r.1∈met then some (true,r.1) else if 1<stL r.2 then some (false,r.1) else Dd (met++[r.1]) fs
abbrev dueF (fs:List (Str×List Part)):Option (Bool×Str):=Dd [] fs
noncomputable def dueS:Option (Bool×Str)->List Str
 |none=>[]
 |some (true,n)=>["twice",n]
 |some (false,n)=>["stars",n]
def j7:RD:=fun δ Q=>∃fs:List (Str×List Part),δ=[.fz (.lst (fs.map Ya))]/\fs.length<=1000/\(∀r∈fs,dpL r.2<50)/\Q true (.lst ((dueS (dueF fs)).map .str)) [.no]
theorem j8g {f1:Addr}{fd1:FuncData}(u0m:Ent K mg "_law_due_ferry" Jh ["_law_ferry_here"] f fd)(T:Zs K mg)(u0l:Ent K mg "_law_stars" Cg ["_law_row"] f1 fd1):FnOk P w K mg base CX0 52 f fd ["_law_ferry_here"] (spD j7):=by
 have u5f:=x8x (P:=P) (w:=w) (base:=base) u0l T 50;refine VL.Fun.dok u0m.F pj (fun δ Qd h=>?_) (by decide) (fun cdv A outer s H E δ Qd hr h=>?_)
 ·obtain⟨_,rfl,_⟩:=h;rfl
 ·obtain⟨fs,rfl,hl,hdp,q⟩:=h;have hu:=Qb hr;refine⟨_,(ka (Aa (i:=1) pj.nd rfl (Or.inl rfl) (Pa ba))
   (ka (pd PassesOwn.never rfl (Ad (dv 0)) (ng (n:=2) rfl (Xc (Pb (i:=2) pj.nd rfl (Or.inl rfl)) (Xc (Pb (i:=3) pj.nd rfl (Or.inl rfl)) lg))) (ka (Ia (j1i j8s x8p (dv 2) (pv 1) rfl) (ma (Ba (Pa (aa qa (aa (dv 2) ba))))) Ma)
   (ka (Ia (Ga Ep Wg (Va u5f (hr.mono (by decide)) rfl u0l.g u0l.F.kp u0l.b Ea (aa (dv 3) ba)) ia (za _)) (ma (Ba (Pa (aa qa (aa (dv 2) ba))))) Ma)
   (ma (Tb (Sb ac PySem.F.slot_list_append PySem.F.type_list_append zb (pv 1) (aa (dv 2) ba)))))))
   (ma (Ba (Pa ba))))),?_⟩
  have sz:=Sa;walk_at "vd";refine⟨by omega,og [2,3] (fun r δ=>∃pre suf,fs=pre++suf/\r=suf.map Ya/\Dd (pre.map (·.1)) suf=dueF fs/\δ=[.fz (.lst (fs.map Ya)),.ob false (.lst ((pre.map (·.1)).map .str)),.no,.no]) ⟨[],fs,rfl,rfl,rfl,rfl⟩ ?_ ?_⟩
  ·rintro d r δ ⟨pre,suf,e1,e2,e3,rfl⟩;cases suf with
   |nil=>cases e2
   |cons r0 suf =>
    obtain⟨nm,row⟩:=r0;cases e2;simp only[Ya];have o1:=hdp (nm,row) (by rw[e1];simp);have hpre:pre.length<=fs.length:=by rw[e1];simp
    rw[show Dd (pre.map (·.1)) ((nm,row)::suf)=(if nm∈pre.map (·.1) then some (true,nm) else if 1<stL row then some (false,nm) else Dd (pre.map (·.1)++[nm]) suf) from rfl]at e3;walk_at "vd";refine ite2 (fun hn=>⟨by omega,?_⟩) fun hn=>⟨row,rfl,o1,?_⟩
    ·rw[if_pos hn]at e3;rw[<-e3]at q;exact q
    ·rw[if_neg hn]at e3;walk_at "vd";refine ite2 (fun h=>⟨by omega,?_⟩) fun h=>⟨by simp;omega,pre++[(nm,row)],suf,by simp[e1],rfl,?_,?_⟩
     ·rw[if_pos (show 1<stL row by omega)]at e3;rw[<-e3]at q;exact q
     ·rw[if_neg (show ¬1<stL row by omega)]at e3;rw[map_append];exact e3
     ·simp
  ·rintro δ ⟨pre,suf,e1,e2,e3,rfl⟩;cases suf with
   |cons p suf=>cases e2
   |nil =>
    walk_at "vd";have z:dueF fs=none:=by rw[<-e3];rfl
    rw[z]at q;exact⟨by omega,q⟩
theorem hu1 {n:Nat}(h:n+100<cLine):n+1<cLine:=by omega
theorem j4v:bootBuiltins "ValueError" = some (.type "ValueError"):=by decide +kernel
inductive Kd where
 |tw|ss|tx
noncomputable def Kd.str:Kd->Str
 |.tw=>"twice"
 |.ss=>"stars"
 |.tx=>"text"
noncomputable def Kd.cls (CT CS Ct:Addr):Kd->Addr
 |.tw=>CT
 |.ss=>CS
 |.tx=>Ct
noncomputable def isK:Option Kd->Kd->Bool
 |some .tw,.tw=>true
 |some .ss,.ss=>true
 |some .tx,.tx=>true
 |_,_=>false
noncomputable def tyK (CT CS Ct:Addr):Option Kd->Value
 |none=>.type "NoneType"
 |some c=>.ref (c.cls CT CS Ct)
noncomputable def Kd.att:Kd->Str
 |.tw=>"name"
 |.ss=>"name"
 |.tx=>"row"
def Kd.pay:Kd->V->Prop
 |.tx,z=>∃i,z=.int i
 |_,z=>∃s,z=.str s
noncomputable def dueV:Option (Kd×V)->List V
 |none=>[]
 |some (c,z)=>[.str c.str,z]
structure XR (K:W.Frag)(mg:Str->Option Value)(CF CT CN CS Ct Cp Ck:Addr):Prop where
 z_ValueError:mg "ValueError" = none
 g_FerryError:mg "FerryError" = some (.ref CF)
 q_FerryError:fxIn K CF=true
 g_Twice:mg "Twice" = some (.ref CT)
 g_NoName:mg "NoName" = some (.ref CN)
 g_Stars:mg "Stars" = some (.ref CS)
 g_NoText:mg "NoText" = some (.ref Ct)
 g_NoPort:mg "NoPort" = some (.ref Cp)
 g_Taken:mg "Taken" = some (.ref Ck)
 i_Twice:∃fI fd od osl,xcIn K CT (.ref CF::mroV) fI=true/\Fun K "__init__" "Twice.__init__" i_Twice fI fd/\Binds K fd ["self","name"] []/\K.lookup fI=some ⟨.type "function",od,.func fd,osl⟩
 i_Stars:∃fI fd od osl,xcIn K CS (.ref CF::mroV) fI=true/\Fun K "__init__" "Stars.__init__" i_Stars fI fd/\Binds K fd ["self","name"] []/\K.lookup fI=some ⟨.type "function",od,.func fd,osl⟩
 i_NoText:∃fI fd od osl,xcIn K Ct (.ref CF::mroV) fI=true/\Fun K "__init__" "NoText.__init__" i_NoText fI fd/\Binds K fd ["self","row"] []/\K.lookup fI=some ⟨.type "function",od,.func fd,osl⟩
 k_Twice:keepIn K (.ref CT)=true
 k_Stars:keepIn K (.ref CS)=true
 k_NoText:keepIn K (.ref Ct)=true
 n_Twice:∀t:Option Kd,kitOne K (tyK CT CS Ct t) (.ref CT)=some (isK t .tw)
 n_NoName:∀t:Option Kd,kitOne K (tyK CT CS Ct t) (.ref CN)=some (false)
 n_Stars:∀t:Option Kd,kitOne K (tyK CT CS Ct t) (.ref CS)=some (isK t .ss)
 n_NoText:∀t:Option Kd,kitOne K (tyK CT CS Ct t) (.ref Ct)=some (isK t .tx)
 n_NoPort:∀t:Option Kd,kitOne K (tyK CT CS Ct t) (.ref Cp)=some (false)
 n_Taken:∀t:Option Kd,kitOne K (tyK CT CS Ct t) (.ref Ck)=some (false)
 n_ValueError:∀t:Option Kd,kitOne K (tyK CT CS Ct t) (.type "ValueError")=some (t.isSome)
variable {CF CT CN CS Ct Cp Ck:Addr}
theorem XR.x_Twice (Y:XR K mg CF CT CN CS Ct Cp Ck):XK1 P w K mg base "Twice" "name" CT:=by
 obtain⟨fI,fd,od,osl,q,F,b,lk⟩:=Y.i_Twice;exact⟨⟨_,fI,fd,q,gm F q5h rfl q (by simp),b,_,lk,rfl⟩,Y.g_Twice,Y.k_Twice⟩
theorem XR.x_Stars (Y:XR K mg CF CT CN CS Ct Cp Ck):XK1 P w K mg base "Stars" "name" CS:=by
 obtain⟨fI,fd,od,osl,q,F,b,lk⟩:=Y.i_Stars;exact⟨⟨_,fI,fd,q,gm F q3w rfl q (by simp),b,_,lk,rfl⟩,Y.g_Stars,Y.k_Stars⟩
theorem XR.x_NoText (Y:XR K mg CF CT CN CS Ct Cp Ck):XK1 P w K mg base "NoText" "row" Ct:=by
 obtain⟨fI,fd,od,osl,q,F,b,lk⟩:=Y.i_NoText;exact⟨⟨_,fI,fd,q,gm F x5w rfl q (by simp),b,_,lk,rfl⟩,Y.g_NoText,Y.k_NoText⟩
theorem _root_.L2.Fun.okX {x qual:Str}{st:Stmt}{f:Addr}{fd:FuncData}{N ps:List Str}{k:Nat}{sp:Sp}(F:Fun K x qual st f fd)(S:FnScope N ps (ya st))(len:∀vs H Q E,sp vs H Q E->vs.length=ps.length)
  (hbody:∀(cdv:Value)(A:Around)(outer:List Env)(s:Shared)(H:Hp)(vs:List V)(Q:VK)(E:XK),Room k (A.deeper (PyProof.Rows.envOfC qual (ya st) s.heap.objs.size f cdv))->sp vs H Q E ->
   ∃t,PSs (cxOf (CX1 P w) P w K mg base N qual (ya st) f cdv A outer s H E) (Yb st) t/\t { nx:=fun _ H'=>Q .non H',rt:=Q } (start N vs) H):FnOk P w K mg base (CX1 P w) (k+1) f fd ps sp:=by
 obtain⟨oc,od,kV,doc,pm,an,cdv,ct,osl,rfl,lk,hcd⟩:=F.ex;exact ik lk hcd S len fun A outer s H vs Q E hr hsp=>hbody cdv A outer s H vs Q E hr hsp
def XWish (C:Addr)(nm:Str)(H:Hp)(E:XK):Prop:=∀x dx H',Same H H'->H' x=some (XO C dx x)->H' dx=some (.xd [("name",.str nm)])->E (.ref x) (some dx) H'
def Kn (C:Addr)(k:Int)(H:Hp)(E:XK):Prop:=∀x dx H',Same H H'->H' x=some (XO C dx x)->H' dx=some (.xd [("row",.int k)])->E (.ref x) (some dx) H'
def XDue (CT CS:Addr)(o:Bool×Str)(H:Hp)(E:XK):Prop:=XWish (if o.1 then CT else CS) o.2 H E
def Xf (fs:List (Str×List Part)):List (Key×V):=fs.map fun r=>(Sum.inr r.1,.bl true)
theorem x9x (pre:List (Str×List Part))(nm:Str):(valV (Xf pre) (Sum.inr nm)).isSome=decide (nm∈pre.map (·.1)):=by
 unfold valV Xf;rw[isSome_map];by_cases h:nm∈pre.map (·.1)
 ·rw[decide_eq_true h,List.find?_isSome];obtain⟨r,hr,e⟩:=mem_map.mp h;exact⟨_,mem_map.mpr ⟨r,hr,rfl⟩,by simp[e]⟩
 ·rw[decide_eq_false h,Bool.eq_false_iff];intro z;rw[List.find?_isSome]at z;obtain⟨x,hx,hd⟩:=z;obtain⟨r,hr,rfl⟩:=mem_map.mp hx;exact h (mem_map.mpr ⟨r,hr,by simpa using hd⟩)
theorem q0c {pre:List (Str×List Part)}{nm:Str}{row:List Part}(h:nm∉pre.map (·.1)):putK (Xf pre) (Sum.inr nm) (.bl true)=Xf (pre++[(nm,row)]):=by
 unfold putK;rw[if_neg]
 ·simp[Xf]
 ·intro z;obtain⟨x,hx,hd⟩:=List.any_eq_true.mp z;obtain⟨r,hr,rfl⟩:=mem_map.mp hx;exact h (mem_map.mpr ⟨r,hr,by simpa using hd⟩)
theorem Qj {H H1:Hp}{x dx:Addr}{o1 o2:HO}(s:Same H H1)(n1:H1 x=none)(n2:H1 dx=none):Same H (upd (upd H1 dx o1) x o2):=fun b o e=>by
 have e1:=s b o e;rw[wa (qb e1 n1),wa (qb e1 n2)];exact e1
def x2o (CT CS:Addr):Sp:=fun vs H _ E=>∃(fs:List (Str×List Part))(vf:V)(o:Bool×Str),vs=[vf]/\Rep H (.lst (fs.map Ya)) vf/\fs.length<=1000/\(∀r∈fs,Da r.2<=1000000)/\dueF fs=some o/\XDue CT CS o H E
theorem q5f {f1 f2 f3:Addr}{fd1 fd2 fd3:FuncData}(Y:XR K mg CF CT CN CS Ct Cp Ck)(u0j:Ent K mg "look_ferry" ug ["ferry"] f fd)(T:Zs K mg)(u1r:Ent K mg "stars" Se ["row"] f1 fd1)(u0i:Ent K mg "all_parts" Qe ["row"] f2 fd2)(u1h:Ent K mg "sign_of" Re ["part"] f3 fd3):FnOk P w K mg base (CX1 P w) 4 f fd ["ferry"] (x2o CT CS):=by
 have u5r:=kn (P:=P) (w:=w) (base:=base) u1r T u0i u1h;refine u0j.F.okX af (fun vs H Q E h=>?_) (fun cdv A outer s H vs Q E hr h=>?_)
 ·obtain⟨_,_,_,rfl,_⟩:=h;rfl
 ·obtain⟨fs,vf,o,rfl,rep,hl,hsz,hdue,wish⟩:=h;have hu:=Qb hr;refine⟨_,(Ta (xb (i:=1) af.nd rfl (Or.inl rfl) ap)
   (Ua (zi PassesOwn.leaving rfl (xi (pv 0)) (vi rfl (Zf (uf (i:=2) af.nd rfl (Or.inl rfl)) (Zf (uf (i:=3) af.nd rfl (Or.inl rfl)) ui))) (Ta (Lb (Zn (Xo (hu1 hu) (pv 2) (pv 1)) rfl) (Ua (Zi Y.x_Twice (hr.mono (by omega)) rfl (xa (pv 2) Ca))) Xb)
   (Ta (Lb (Ab Wg (yb u5r (hr.mono (by omega)) rfl u1r.g u1r.F.kp u1r.b .nil Ea (xa (pv 3) Ca)) Ub (za _)) (Ua (Zi Y.x_Stars (hr.mono (by omega)) rfl (xa (pv 2) Ca))) Xb)
   (Ua (Yo (hu1 hu) (pv 1) (pv 2) Yf rfl))))))),?_⟩
  have sz:=Sa;obtain⟨a,us,rfl,ha,rs⟩:=rep;walk_at "rs";have hlen:us.length=fs.length:=by have:=rs.len;simpa using this.symm
  refine fun p hp=>⟨⟨us,SqL.of (by rw[wa (qb ha hp)];exact ha)⟩,qp (xs:=us) (fun i σ H'=>∃pre suf x2 x3,fs=pre++suf/\pre.length=i/\Dd (pre.map (·.1)) suf=some o/\σ=[some (.ref a),some (.ref p),x2,x3]/\Same H H'/\H' p=some (.dK (Xf pre))) ⟨[],fs,none,none,rfl,rfl,hdue,rfl,fun b ob e=>by rw[wa (qb e hp)];exact e,z0h⟩ (fun i σ H' _ h=>?_) (fun i x σ H' hx h=>?_) fun σ H' h=>?_⟩
  ·obtain⟨_,_,_,_,_,_,_,_,sm,_⟩:=h;exact SqL.of (sm _ _ ha)
  ·obtain⟨pre,suf,x2,x3,e1,e2,e3,rfl,sm,hd⟩:=h;have hi:=(List.getElem?_eq_some_iff.mp hx).1;cases suf with
   |nil=>rw[append_nil]at e1;rw[e1,e2]at hlen;omega
   |cons r0 suf =>
    obtain⟨nm,row⟩:=r0;obtain⟨v,hv,rv⟩:=rs.get (i:=i) (d:=Ya (nm,row)) (by rw[e1];simp[<-e2]);rw[hx]at hv;cases hv;obtain⟨t,vs2,rfl,ht,v1,r1,rfl,rv1,v2,r2,rfl,rv2,r3⟩:=rv;cases(show r2=[] from r3);cases(show v1=.str nm from rv1);have ht2:=sm _ _ ht;walk_at "rs";refine⟨_,.inl (.inl ht2),rfl,_,_,rfl,_,_,rfl,rfl,?_⟩;rw[show Dd (pre.map (·.1)) ((nm,row)::suf)=(if nm∈pre.map (·.1) then some (true,nm) else if 1<stL row then some (false,nm) else Dd (pre.map (·.1)++[nm]) suf) from rfl]at e3;walk_at "rd";refine⟨_,DGet.o hd,?_⟩;rw[x9x];simp only[decide_eq_true_eq];refine ite2 (fun hn=>?_) fun hn=>?_
    ·rw[if_pos hn]at e3;cases e3;exact fun x dx n1 n2 n3=>wish x dx _ (Qj sm n1 n2) z0h (by rw[wa n3,z0h])
    ·rw[if_neg hn]at e3;refine Zc (ds:=[.lst (pDs row)]) (Reps.one (Rep.mono sm _ _ rv2)) (Qd:=fun _ d _=>d=.int (stL row)) ⟨row,rfl,hsz (nm,row) (by rw[e1];simp),rfl⟩ fun b d δ' v H2 s2 qd r2=>?_;cases qd;cases(show v=.int (stL row) from r2);refine⟨_,rfl,ite2 (fun h=>?_) fun h=>?_⟩
     ·rw[if_pos (show 1<stL row by omega)]at e3;cases e3;exact fun x dx n1 n2 n3=>wish x dx _ (Qj (sm.trans s2) n1 n2) z0h (by rw[wa n3,z0h])
     ·rw[if_neg (show ¬1<stL row by omega)]at e3;have hpl:pre.length<=fs.length:=by rw[e1];simp
      refine⟨_,DPut.s (s2 _ _ hd) (by simp[Xf];omega),pre++[(nm,row)],suf,by simp[e1],by simp[e2],by rw[map_append];exact e3,fun b o e=>?_,by rw[z0h,q0c hn]⟩;have e4:=(sm.trans s2) b o e;rw[wa]
      ·exact e4
      ·intro z;subst z;rw[hp]at e;cases e
  ·obtain⟨pre,suf,x2,x3,e1,e2,e3,rfl,sm,hd⟩:=h;rw[hlen]at e2;have:suf=[]:=by
    have:=congrArg List.length e1;rw[length_append]at this;exact eq_nil_of_length_eq_zero (by omega)
   subst this;cases e3
theorem ifS {c:TT}{t u:TS}{D:Ends}{σ:L2.St}{H:Hp}(h:c σ H fun b H1=>if b=true then t D σ H1 else u D σ H1):tIfS c t u D σ H:=h
theorem XR.xc (Y:XR K mg CF CT CN CS Ct Cp Ck)(c:Kd):∃fI,xcIn K (c.cls CT CS Ct) (.ref CF::mroV) fI=true:=by
 cases c with
 |tw=>obtain⟨fI,_,_,_,q,_⟩:=Y.i_Twice;exact⟨fI,q⟩
 |ss=>obtain⟨fI,_,_,_,q,_⟩:=Y.i_Stars;exact⟨fI,q⟩
 |tx=>obtain⟨fI,_,_,_,q,_⟩:=Y.i_NoText;exact⟨fI,q⟩
theorem Fb {v c:V}{cv ty:Value}{b:Bool}{t u:TS}{D:Ends}{σ:L2.St}{H:Hp}(h0:σ[0]? = some (some v))(hc:(∃T,c=.ty T/\cv=.type T) \/ ∃C2,c=.ref C2/\cv=.ref C2)
  (hx:(v=.non/\ty=.type "NoneType") \/ ∃y C dx bm fI,v=.ref y/\H y=some (XO C dx y)/\xcIn K C bm fI=true/\ty=.ref C)(hk:kitOne K ty cv=some b)(h:if b=true then t D σ H else u D σ H):tIfS (tB (tCB (rIsX K) (y2i (tVar 0) (y2i (tC c) tNil)))) t u D σ H :=
 ifS ⟨v,h0,v,c,cv,ty,b,rfl,hc,hx,hk,b,rfl,h⟩
def q0l (CT CS Ct:Addr):Sp:=fun vs H Q _=>∃(v:V)(o:Option (Kd×V)),vs=[v]/\(match o with|none=>v=.non|some (c,z)=>∃x dx,v=.ref x/\H x=some (XO (c.cls CT CS Ct) dx x)/\H dx=some (.xd [(c.att,z)])/\c.pay z) /\
 ∀l H',H l=none->Same H H'->H' l=some (.lst (dueV o))->Q (.ref l) H'
theorem j2y (Y:XR K mg CF CT CN CS Ct Cp Ck)(u1x:Ent K mg "_law_kind" Lh ["_law_error"] f fd)(T:Zs K mg):FnOk P w K mg base CX0 1 f fd ["_law_error"] (q0l CT CS Ct):=by
 refine u1x.F.ok ef (fun vs H Q E h=>?_) (fun cdv A outer s H vs Q E hr h=>?_)
 ·obtain⟨_,_,rfl,_⟩:=h;rfl
 ·obtain⟨v,o,rfl,hv,q⟩:=h;have hu:=Qb hr;refine⟨_,(Ta (xb (i:=1) ef.nd rfl (Or.inl rfl) (Fc Ca))
   (Ta (Lb (qc (Nc Jf rfl T.z_isinstance boot_isinstance (xa (pv 0) (xa (rg rfl Y.g_Twice) Ca)))) (Ua (xb (i:=1) ef.nd rfl (Or.inl rfl) (wf Cb (pv 1) (Fc (xa Gb (xa (xh (by simp) (pv 0) rfl) Ca)))))) Xb)
   (Ta (Lb (qc (Nc Jf rfl T.z_isinstance boot_isinstance (xa (pv 0) (xa (rg rfl Y.g_NoName) Ca)))) (Ua (xb (i:=1) ef.nd rfl (Or.inl rfl) (wf Cb (pv 1) (Fc (xa Gb (xa (xh (by simp) (pv 0) rfl) Ca)))))) Xb)
   (Ta (Lb (qc (Nc Jf rfl T.z_isinstance boot_isinstance (xa (pv 0) (xa (rg rfl Y.g_Stars) Ca)))) (Ua (xb (i:=1) ef.nd rfl (Or.inl rfl) (wf Cb (pv 1) (Fc (xa Gb (xa (xh (by simp) (pv 0) rfl) Ca)))))) Xb)
   (Ta (Lb (qc (Nc Jf rfl T.z_isinstance boot_isinstance (xa (pv 0) (xa (rg rfl Y.g_NoText) Ca)))) (Ua (xb (i:=1) ef.nd rfl (Or.inl rfl) (wf Cb (pv 1) (Fc (xa Gb (xa (q4r (by simp) (pv 0) rfl) Ca)))))) Xb)
   (Ta (Lb (qc (Nc Jf rfl T.z_isinstance boot_isinstance (xa (pv 0) (xa (rg rfl Y.g_NoPort) Ca)))) (Ua (xb (i:=1) ef.nd rfl (Or.inl rfl) (wf Cb (pv 1) (Fc (xa Gb (xa (xh (by simp) (pv 0) rfl) Ca)))))) Xb)
   (Ta (Lb (qc (Nc Jf rfl T.z_isinstance boot_isinstance (xa (pv 0) (xa (rg rfl Y.g_Taken) Ca)))) (Ua (xb (i:=1) ef.nd rfl (Or.inl rfl) (wf Cb (pv 1) (Fc (xa Gb (xa (xh (by simp) (pv 0) rfl) Ca)))))) Xb)
   (Ta (Lb (PW.pt (Jd (Ab fk (pv 0) wd (za _)) (ce (qi (qc (Nc Jf rfl T.z_isinstance boot_isinstance (xa (pv 0) (xa (Yj (v:=.ty "ValueError") rfl Y.z_ValueError j4v rfl) Ca)))))))) (Ua (Ld (zf PySem.F.slot_list_append PySem.F.type_list_append zb (pv 1) (xa Gb Ca)))) Xb)
   (Ua (uc (pv 1))))))))))),?_⟩
  have sz:=Sa;have cr:∀C:Addr,(∃T,V.ref C=.ty T/\Value.ref C=.type T) \/ ∃C2,V.ref C=.ref C2/\Value.ref C=.ref C2:=fun C=>.inr ⟨C,rfl,rfl⟩;cases o with
  |none =>
   subst hv;have hx:∀H1:Hp,((V.non=.non/\tyK CT CS Ct none=.type "NoneType") \/ ∃y C dx bm fI,V.non=.ref y/\H1 y=some (XO C dx y)/\xcIn K C bm fI=true/\tyK CT CS Ct none=.ref C):=fun _=>.inl ⟨rfl,rfl⟩;walk_at "rs";refine⟨by omega,fun l hl=>Fb rfl (cr _) (hx _) (Y.n_Twice _) (iteF ?_)⟩;walk_at "rs";refine Fb rfl (cr _) (hx _) (Y.n_NoName _) (iteF ?_);walk_at "rs";refine Fb rfl (cr _) (hx _) (Y.n_Stars _) (iteF ?_);walk_at "rs";refine Fb rfl (cr _) (hx _) (Y.n_NoText _) (iteF ?_);walk_at "rs";refine Fb rfl (cr _) (hx _) (Y.n_NoPort _) (iteF ?_);walk_at "rs";refine Fb rfl (cr _) (hx _) (Y.n_Taken _) (iteF ?_);walk_at "rs";refine ifS ?_;walk_at "rd";exact⟨false,by simp,iteF (q l _ hl (Same.of_new hl) z0h)⟩
  |some o =>
   obtain⟨c,z⟩:=o;obtain⟨x,dx,rfl,hx,hdx,hz⟩:=hv;obtain⟨fI,hxc⟩:=Y.xc c;have sx:∀{l:Addr},H l=none->Same H (upd H l (.lst [])):=fun h=>Same.of_new h;have ix:∀H1:Hp,Same H H1->((V.ref x=.non/\tyK CT CS Ct (some c)=.type "NoneType") \/ ∃y C dx bm fI,V.ref x=.ref y/\H1 y=some (XO C dx y)/\xcIn K C bm fI=true/\tyK CT CS Ct (some c)=.ref C):=fun H1 s=>.inr ⟨x,_,dx,_,fI,rfl,s _ _ hx,hxc,rfl⟩;cases c with
   |tw =>
    obtain⟨nm,rfl⟩:=hz;walk_at "rs";refine⟨by omega,fun l hl=>Fb rfl (cr _) (ix _ (sx hl)) (Y.n_Twice _) (iteT ?_)⟩;walk_at "rs";refine⟨_,dx,sx hl _ _ hx,_,sx hl _ _ hdx,_,fI,hxc,⟨nm,rfl⟩,by omega,fun p np hp=>⟨[],by rw[wa (Ne.symm np),z0h],by show 0+2<=sizeLine;omega,fun p1 n1 n2 hp1=>?_⟩⟩;have s3:∀{a b:HO},Same H (upd (upd (upd H l (.lst [])) p a) p1 b):=((sx hl).upd hp).upd hp1;refine Fb rfl (cr _) (ix _ s3) (Y.n_NoName _) (iteF ?_);walk_at "rs";refine Fb rfl (cr _) (ix _ s3) (Y.n_Stars _) (iteF ?_);walk_at "rs";refine Fb rfl (cr _) (ix _ s3) (Y.n_NoText _) (iteF ?_);walk_at "rs";refine Fb rfl (cr _) (ix _ s3) (Y.n_NoPort _) (iteF ?_);walk_at "rs";refine Fb rfl (cr _) (ix _ s3) (Y.n_Taken _) (iteF ?_);walk_at "rs";refine ifS ?_;walk_at "rd";exact⟨true,by simp,iteT ⟨_,⟨_,dx,s3 _ _ hx,_,fI,hxc,rfl⟩,_,Y.n_ValueError (some _),by rw[if_neg (by simp)];exact q p1 _ hp1 s3 z0h⟩⟩
   |ss =>
    obtain⟨nm,rfl⟩:=hz;walk_at "rs";refine⟨by omega,fun l hl=>Fb rfl (cr _) (ix _ (sx hl)) (Y.n_Twice _) (iteF ?_)⟩;walk_at "rs";refine Fb rfl (cr _) (ix _ (sx hl)) (Y.n_NoName _) (iteF ?_);walk_at "rs";refine Fb rfl (cr _) (ix _ (sx hl)) (Y.n_Stars _) (iteT ?_);walk_at "rs";refine⟨_,dx,sx hl _ _ hx,_,sx hl _ _ hdx,_,fI,hxc,⟨nm,rfl⟩,by omega,fun p np hp=>⟨[],by rw[wa (Ne.symm np),z0h],by show 0+2<=sizeLine;omega,fun p1 n1 n2 hp1=>?_⟩⟩;have s3:∀{a b:HO},Same H (upd (upd (upd H l (.lst [])) p a) p1 b):=((sx hl).upd hp).upd hp1;refine Fb rfl (cr _) (ix _ s3) (Y.n_NoText _) (iteF ?_);walk_at "rs";refine Fb rfl (cr _) (ix _ s3) (Y.n_NoPort _) (iteF ?_);walk_at "rs";refine Fb rfl (cr _) (ix _ s3) (Y.n_Taken _) (iteF ?_);walk_at "rs";refine ifS ?_;walk_at "rd";exact⟨true,by simp,iteT ⟨_,⟨_,dx,s3 _ _ hx,_,fI,hxc,rfl⟩,_,Y.n_ValueError (some _),by rw[if_neg (by simp)];exact q p1 _ hp1 s3 z0h⟩⟩
   |tx =>
    obtain⟨nm,rfl⟩:=hz;walk_at "rs";refine⟨by omega,fun l hl=>Fb rfl (cr _) (ix _ (sx hl)) (Y.n_Twice _) (iteF ?_)⟩;walk_at "rs";refine Fb rfl (cr _) (ix _ (sx hl)) (Y.n_NoName _) (iteF ?_);walk_at "rs";refine Fb rfl (cr _) (ix _ (sx hl)) (Y.n_Stars _) (iteF ?_);walk_at "rs";refine Fb rfl (cr _) (ix _ (sx hl)) (Y.n_NoText _) (iteT ?_);walk_at "rs";refine⟨_,dx,sx hl _ _ hx,_,sx hl _ _ hdx,_,fI,hxc,⟨nm,rfl⟩,by omega,fun p np hp=>⟨[],by rw[wa (Ne.symm np),z0h],by show 0+2<=sizeLine;omega,fun p1 n1 n2 hp1=>?_⟩⟩;have s3:∀{a b:HO},Same H (upd (upd (upd H l (.lst [])) p a) p1 b):=((sx hl).upd hp).upd hp1;refine Fb rfl (cr _) (ix _ s3) (Y.n_NoPort _) (iteF ?_);walk_at "rs";refine Fb rfl (cr _) (ix _ s3) (Y.n_Taken _) (iteF ?_);walk_at "rs";refine ifS ?_;walk_at "rd";exact⟨true,by simp,iteT ⟨_,⟨_,dx,s3 _ _ hx,_,fI,hxc,rfl⟩,_,Y.n_ValueError (some _),by rw[if_neg (by simp)];exact q p1 _ hp1 s3 z0h⟩⟩
noncomputable def wtF:List (List Part×Str)->Nat
 | []=>0
 |f::fs=>wtL f.1+f.2.length+4+wtF fs
noncomputable def wtSt (st:Sc):Nat:=wtL st.cur+wtF st.fs+st.nm.length
theorem j1v {st st':Sc}{t:Cs}(h:Oa st t=some st'):wtSt st' <= wtSt st+2 * t.length+5:=by
 obtain⟨fs,cur,nm⟩:=st;unfold Oa at h;dsimp only at h;split at h
 ·split at h
  ·cases h;simp only[wtSt,wtL,wtF,Na,length_nil];omega
  ·cases h
 ·rename_i hn;have hn:nm=[]:=Classical.byContradiction hn;subst hn;split at h
  ·cases h;simp only[wtSt,length_nil];omega
  ·split at h
   ·cases h;have h1:=yr ((t.drop 1).take (t.length - 2));rw[length_take,length_drop]at h1;simp only[wtSt,Om,wtL,wt1,unqF,Na,length_nil];omega
   ·split at h
    ·cases h;have:("*":Str).length=1:=by decide
     simp only[wtSt,Om,wtL,wt1,length_nil];omega
    ·split at h
     ·cases fs with
      |nil=>cases h
      |cons f fs =>
       obtain⟨ps,n⟩:=f;cases h;simp only[wtSt,Om,wtL,wtF,wt1,length_nil];omega
     ·cases h
theorem q7d:∀(ts:List Cs)(st st':Sc),runS ts st=some st'->wtSt st' <= wtSt st+2 * (ts.map List.length).sum+5 * ts.length
 | [],st,st',h=>by cases h;simp
 |t::ts,st,st',h=>by
  rw[runS]at h;cases e:Oa st t with
  |none=>rw[e]at h;cases h
  |some s1 =>
   rw[e]at h;have h1:=q7d ts s1 st' h;have h2:=j1v e;simp only[map_cons,sum_cons,length_cons];omega
theorem Rj:∀(n:Nat)(l:Cs),((tokR n l).map List.length).sum<=l.length
 |0,l=>by simp[tokR]
 |n+1,[]=>by simp[tokR]
 |n+1,k::r=>by
  rw[Rf];have tdl:∀p:Nat->Bool,(r.takeWhile p).length+(r.dropWhile p).length=r.length:=fun p=>by
   have:=congrArg List.length (takeWhile_append_dropWhile (p:=p) (l:=r));rwa [length_append]at this
  split
  ·split
   ·rename_i hm;obtain⟨r',e1,e2⟩:=Mj hm;have h1:=Rj n ((r.dropWhile (· ≠ 34)).tail);have h2:=tdl (· ≠ 34);rw[e1]at h1 h2 ⊢;simp only[List.tail_cons,length_cons,map_cons,sum_cons,length_append,length_nil]at h1 h2 ⊢;omega
   ·simp
  ·split
   ·have h1:=Rj n (r.dropWhile isL);have h2:=tdl isL;simp only[map_cons,sum_cons,length_cons];omega
   ·have h1:=Rj n r;simp only[map_cons,sum_cons,length_cons,length_nil];omega
theorem y3q (p:Cs->Bool):∀l:List Cs,((l.filter p).map List.length).sum<=(l.map List.length).sum
 | []=>by simp
 |x::r=>by
  have:=y3q p r;rw[filter_cons];split<;>simp<;>omega
theorem q9i {l:Cs}{ps:List Part}(h:Dc l=some ps)(hl:l.length<=1000):wtL ps<=7000:=by
 unfold Dc at h;cases e:runS (tok l) ⟨[],[],[]⟩ with
 |none=>rw[e]at h;cases h
 |some st =>
  rw[e]at h;dsimp only at h;split at h
  ·cases h;have h1:=q7d _ _ _ e;have h2:=Nm l;have h4:((tok l).map List.length).sum<=l.length:=le_trans (y3q (fun t=>decide (t≠[32])) (rawT l)) (Rj l.length l);simp only[wtSt,wtL,wtF,length_nil]at h1;omega
  ·cases h
structure LnG (l:Cs):Prop where
 len:l.length<=1000
 sg:l.all sgB=true
theorem LnG.sub {l m:Cs}(h:LnG l)(hl:m.length<=l.length)(hs:∀c∈m,c∈l):LnG m:=⟨le_trans hl h.len,by have:=h.sg;rw[all_eq_true]at this ⊢;exact fun c hc=>this c (hs c hc)⟩
def Ln:Sp:=fun vs H Q _=>∃l:Cs,vs=[.str (strC l)]/\LnG l/\(Kb l=none->∀H',Same H H'->Q .non H')/\∀ps:List Part,Kb l=some ps ->
 ∀(a:Addr)(us o:List V)(F:List Addr)(H':Hp),Same H H'->H' a=some (.lst us)->RepL H' us ps o F->(a::F).Nodup->(∀b∈a::F,H b=none)->Q (.ref a) H'
theorem j1t {f1 f2 f3 f4 f5 f6 f7 f8 f9 f10 f11 f12 f13:Addr}{fd1 fd2 fd3 fd4 fd5 fd6 fd7 fd8 fd9 fd10 fd11 fd12 fd13:FuncData}(u0n:Ent K mg "read_row" Qf ["line"] f fd)(T:Zs K mg)(u0y:Ent K mg "scanned_row" yh ["line"] f7 fd7)(u1u:Ent K mg "lay_part" wg ["holders","token"] f1 fd1)(u1g:Ent K mg "unquoted" Ue ["token"] f2 fd2)(u0w:Ent K mg "is_name" Te ["text"] f3 fd3)(u0c:Ent K mg "is_letter" Vd ["sign"] f4 fd4)(u1j:Ent K mg "tokens_of" Mf ["line"] f5 fd5)(u0q:Ent K mg "token_end" Lf ["line","begin"] f6 fd6)
  (u3b:Ent K mg "is_text" vg ["line"] f8 fd8)(u2j:Ent K mg "show_row" zh ["row"] f9 fd9)(u2g:Ent K mg "written" xg ["row"] f10 fd10)(u2i:Ent K mg "pieces" Nf ["row"] f11 fd11)(u1w:Ent K mg "quoted" Ve ["text"] f12 fd12)(u4u:Ent K mg "glue" Pf ["left","right"] f13 fd13):FnOk P w K mg base CX0 5 f fd ["line"] Ln:=by
 have u5y:=j2j (P:=P) (w:=w) (base:=base) u0y T u1u u1g u0w u0c u1j u0q;have u7d:=q1s (P:=P) (w:=w) (base:=base) u3b T;have u6r:=x4b (P:=P) (w:=w) (base:=base) u2j T u2g u2i u1w u4u;obtain⟨tn,h_NOTHING⟩:=T.g_NOTHING;refine u0n.F.ok Sq (fun vs H Q E h=>?_) (fun cdv A outer s H vs Q E hr h=>?_)
 ·obtain⟨_,rfl,_⟩:=h;rfl
 ·obtain⟨l,rfl,ln,qn,q⟩:=h;have hu:=Qb hr;refine⟨_,(Ta (xb (i:=1) Sq.nd rfl (Or.inl rfl) (Ug (Ab Ra (pv 0) (tf (v:=.str "-") rfl h_NOTHING ⟨_,rfl⟩) (za _)) (Fc Ca) (yb u5y (hr.mono (by decide)) rfl u0y.g u0y.F.kp u0y.b .nil Ea (xa (pv 0) Ca))))
   (Ua (uc (Ug (PW.pt (Jd (qc (yb u7d (hr.mono (by decide)) rfl u3b.g u3b.F.kp u3b.b .nil Ea (xa (pv 0) Ca))) (Jd (Ab fk (pv 1) wd (za _)) (ce (Ab Ra (yb u6r (hr.mono (by decide)) rfl u2j.g u2j.F.kp u2j.b .nil Ea (xa (pv 1) Ca)) (pv 0) (za _)))))) (pv 1) wd)))),?_⟩
  have sz:=Sa;have hjl:=ln.len;have hsg:∀c∈l,sgOk c:=fun c hc=>zr (by have:=ln.sg;rw[all_eq_true]at this;exact this c hc);walk_at "rs";by_cases h45:l=[45]
  ·have er:Kb l=some []:=by unfold Kb;rw[if_pos h45]
   rw[if_pos (by rw[h45];decide +kernel)];refine⟨by omega,fun p hp=>?_⟩;have s1:Same H (upd H p (.lst [])):=Same.of_new hp;have hl:upd H p (.lst []) p=some (.lst []):=z0h;refine Zc (ds:=[cD l]) (Qd:=fun _ d _=>d=.bl true) ⟨_,_,rfl,rfl,rfl⟩ ⟨_,rfl,by omega,hsg,rfl⟩ fun b d δ' v H2 s2 ed rv=>?_;subst ed;cases(show v=.bl true from rv);refine⟨true,rfl,?_⟩;rw[if_pos rfl];refine⟨true,by simp,?_⟩;rw[if_pos rfl];refine Zc (ds:=[.lst (pDs [])]) (Qd:=fun _ d _=>d=cD (shR [])) ⟨_,_,rfl,⟨_,_,rfl,s2 _ _ hl,rfl⟩,rfl⟩ ⟨[],rfl,rfl,by simp[wtL],rfl⟩ fun b d δ' v H3 s3 ed rv=>?_;subst ed;cases(show v=.str (strC (shR [])) from rv);refine⟨rfl,?_⟩;rw[if_pos (by rw[h45];rfl)];exact q [] er p [] [] [] H3 (s1.trans (s2.trans s3)) (s3 _ _ (s2 _ _ hl)) .nil (by simp) fun b hb=>by cases mem_singleton.mp hb;exact hp
  ·rw[if_neg (fun z=>h45 (Yd (by rw[An]at z;exact z)))];refine⟨l,rfl,hjl,fun hsc H1 s1=>?_,fun ps hsc a us o F H1 s1 ha rep nd fr=>?_⟩
   ·have er:Kb l=none:=by unfold Kb;rw[if_neg h45,hsc]
    refine Zc (ds:=[cD l]) (Qd:=fun _ d _=>d=.bl true) ⟨_,_,rfl,rfl,rfl⟩ ⟨_,rfl,by omega,hsg,rfl⟩ fun b d δ' v H2 s2 ed rv=>?_;subst ed;cases(show v=.bl true from rv);refine⟨true,rfl,?_⟩;rw[if_pos rfl];refine⟨false,by simp,?_⟩;rw[if_neg (by simp)];exact qn er _ (s1.trans s2)
   ·have er:Kb l=if shR ps=l then some ps else none:=by unfold Kb;rw[if_neg h45,hsc]
    obtain⟨ok,_⟩:=Pj hsc ln.len ln.sg;have hw:=q9i hsc ln.len;refine Zc (ds:=[cD l]) (Qd:=fun _ d _=>d=.bl true) ⟨_,_,rfl,rfl,rfl⟩ ⟨_,rfl,by omega,hsg,rfl⟩ fun b d δ' v H2 s2 ed rv=>?_;subst ed;cases(show v=.bl true from rv);refine⟨true,rfl,?_⟩;rw[if_pos rfl];refine⟨true,by simp,?_⟩;rw[if_pos rfl];have rep2:=rep.same s2;have hl2:=s2 _ _ ha;refine Zc (ds:=[.lst (pDs ps)]) (Qd:=fun _ d _=>d=cD (shR ps)) ⟨_,_,rfl,⟨_,_,rfl,hl2,RepL.reps rep2⟩,rfl⟩ ⟨ps,rfl,ok,by omega,rfl⟩ fun b d δ' v H3 s3 ed rv=>?_;subst ed;cases(show v=.str (strC (shR ps)) from rv);refine⟨rfl,?_⟩;by_cases hq:shR ps=l
    ·rw[if_pos hq]at er;rw[if_pos (by rw[hq])];exact q ps er a us o F H3 (s1.trans (s2.trans s3)) (s3 _ _ hl2) (rep2.same s3) nd fr
    ·rw[if_neg hq]at er;rw[if_neg (fun z=>hq (Yd (V.str.inj z)))];exact qn er _ (s1.trans (s2.trans s3))
def Qc (s:Str):Option (Str×List Part):=if isNm (csS (partition s " -> ").1)=true then(Kb (csS (partition s " -> ").2.2)).map fun ps=>((partition s " -> ").1,ps) else none
def kb:Nat->List Str->Sum Nat (List (Str×List Part))
 |_,[]=>.inr []
 |i,s::r=>match Qc s with
  |none=>.inl i
  |some x=>match kb (i+1) r with
   |.inl k=>.inl k
   |.inr xs=>.inr (x::xs)
noncomputable def preR (rules:List (Str×List Part)):Sum Nat (List (Str×List Part))->Sum Nat (List (Str×List Part))
 |.inl k=>.inl k
 |.inr xs=>.inr (rules++xs)
theorem x1o (o:Sum Nat (List (Str×List Part))):preR [] o=o:=by cases o<;>rfl
theorem y7j (rules:List (Str×List Part))(x:Str×List Part)(o:Sum Nat (List (Str×List Part))):preR (rules++[x]) o=preR rules (match o with | .inl k=>.inl k | .inr xs=>.inr (x::xs)):=by
 cases o with
 |inl k=>rfl
 |inr xs=>simp[preR]
theorem Mn {s:Str}(h:LnG (csS s)):LnG (csS (partition s " -> ").1)/\LnG (csS (partition s " -> ").2.2):=by
 have hs:=partition_sum s " -> ";generalize partition s " -> " = t at hs;obtain⟨a,m,c⟩:=t;dsimp only at hs ⊢;have e:csS s=csS a++csS m++csS c:=by rw[<-ae,<-ae,hs]
 rw[e]at h;exact⟨h.sub (by simp only[length_append];omega) fun x hx=>by simp[hx],h.sub (by simp only[length_append];omega) fun x hx=>by simp[hx]⟩
theorem q4e {s:Str}{r:Str×List Part}(h:Qc s=some r)(ln:LnG (csS s)):Da r.2<=1000:=by
 unfold Qc at h;split at h
 ·obtain⟨ps,e,rfl⟩:=map_eq_some_iff.mp h;have l2:=(Mn ln).2;unfold Kb at e;split at e
  ·cases e;simp[Da]
  ·cases e2:Dc (csS (partition s " -> ").2.2) with
   |none=>rw[e2]at e;cases e
   |some qs =>
    rw[e2]at e;dsimp only at e;split at e
    ·cases e;exact(Pj e2 l2.len l2.sg).2
    ·cases e
 ·cases h
theorem Sj:∀{i:Nat}{lines:List Str}{rules:List (Str×List Part)},kb i lines=.inr rules->(∀s∈lines,LnG (csS s))->rules.length=lines.length/\∀r∈rules,Da r.2<=1000
 |i,[],rules,h,_=>by cases h;exact⟨rfl,fun r hr=>by simp at hr⟩
 |i,s::lines,rules,h,ok=>by
  rw[kb]at h;cases e:Qc s with
  |none=>rw[e]at h;cases h
  |some x =>
   rw[e]at h;cases e2:kb (i+1) lines with
   |inl k=>rw[e2]at h;cases h
   |inr xs =>
    rw[e2]at h;cases h;obtain⟨a,b⟩:=Sj e2 fun s hs=>ok s (mem_cons_of_mem _ hs);refine⟨by simp[a],fun r hr=>?_⟩;rcases mem_cons.mp hr with rfl|hr
    ·exact q4e e (ok s mem_cons_self)
    ·exact b r hr
noncomputable def tupP (r:Str×List Part):Part:=.tup r.1 r.2
theorem Nn (fs:List (Str×List Part)):pDs (fs.map tupP)=fs.map Ya:=by
 rw[Yc,List.map_map];rfl
theorem XWish.mono {C:Addr}{nm:Str}{H H1:Hp}{E:XK}(s:Same H H1)(h:XWish C nm H E):XWish C nm H1 E:=fun x dx H' s'=>h x dx H' (s.trans s')
theorem x2p:∀{fs:List (Str×List Part)}{met:List Str},Dd met fs=none->(fs.map (·.1)).Nodup/\∀r∈fs,r.1∉met/\stL r.2<=1
 | [],_,_=>⟨nodup_nil,fun r h=>by cases h⟩
 |a::fs,met,h=>by
  rw[show Dd met (a::fs)=(if a.1∈met then some (true,a.1) else if 1<stL a.2 then some (false,a.1) else Dd (met++[a.1]) fs) from rfl]at h;split at h
  ·cases h
  ·rename_i h1;split at h
   ·cases h
   ·rename_i h2;obtain⟨k1,k2⟩:=x2p h;refine⟨?_,fun r hr=>?_⟩
    ·rw[map_cons,nodup_cons];refine⟨fun hm=>?_,k1⟩;obtain⟨r,hr,e⟩:=mem_map.mp hm;exact(k2 r hr).1 (by rw[e];simp)
    ·rcases mem_cons.mp hr with rfl|hr
     ·exact⟨h1,by omega⟩
     ·exact⟨fun z=>(k2 r hr).1 (mem_append_left _ z),(k2 r hr).2⟩
theorem noX {k:Nat}{ps:List Str}{sp sp0:Sp}(G:FnOk P w K mg base (CX1 P w) k f fd ps sp)(h:∀vs H Q E,sp0 vs H Q E->sp vs H Q (fun _ _ _=>False)):FnOk P w K mg base CX0 k f fd ps sp0 :=
 ⟨fun vs H Q E q=>G.len _ _ _ _ (h _ _ _ _ q),fun A outer s H args us vs Q E hr he hb hv hs=>codeAny_mono (G.run A outer s H args us vs Q _ hr he hb hv (h _ _ _ _ hs)) fun r s' q=>by
  cases r with
  |ok fl=>cases fl<;>exact q
  |error e =>
   obtain⟨_,_,_,_,_,_,_,_,_,_,_,_,_,_,_,_,z,_⟩:=q;exact z.elim⟩
def j6d (fr:Addr):Sp:=fun vs H Q _=>∃s:Str,vs=[.str s,.str " -> ",.ref fr]/\LnG (csS s)/\(Qc s=none->∀H',Same H H'->Q .non H')/\∀r,Qc s=some r ->
 ∀(t l:Addr)(us o:List V)(F:List Addr)(H':Hp),Same H H'->H' t=some (.tup [.str r.1,.ref l])->H' l=some (.lst us)->RepL H' us r.2 o F->(l::F).Nodup->(∀b∈l::F,H b=none)->Q (.ref t) H'
theorem p0p {f1 f2 f3:Addr}{fd1 fd2 fd3:FuncData}(u1y:Ent K mg "read_rule" Bh ["line","middle","reader"] f fd)(T:Zs K mg)(u0n:Ent K mg "read_row" Qf ["line"] f1 fd1)(u4e:FnOk P w K mg base CX0 5 f1 fd1 ["line"] Ln)(u0w:Ent K mg "is_name" Te ["text"] f2 fd2)(u0c:Ent K mg "is_letter" Vd ["sign"] f3 fd3):FnOk P w K mg base CX0 6 f fd ["line","middle","reader"] (j6d f1):=by
 have u5s:=q6l (P:=P) (w:=w) (base:=base) u0w T u0c;refine u1y.F.ok km (fun vs H Q E h=>?_) (fun cdv A outer s H vs Q E hr h=>?_)
 ·obtain⟨_,rfl,_⟩:=h;rfl
 ·obtain⟨s0,rfl,ln,qn,q⟩:=h;have hu:=Qb hr;refine⟨_,(Ta (xb (i:=3) km.nd rfl (Or.inl rfl) (yf plainAttrs_str PySem.F.slot_str_partition PySem.F.type_str_partition uq (pv 0) (xa (pv 1) Ca)))
   (Ta (xb (i:=4) km.nd rfl (Or.inl rfl) (q4f 2 u4e (hr.mono (by decide)) u0n.F.kp u0n.b .nil Ea (xa (bd ib (pv 3) Ub (fun _ _=>rfl)) Ca)))
   (Ua (uc (Ug (PW.pt (Jd (qc (yb u5s (hr.mono (by decide)) rfl u0w.g u0w.F.kp u0w.b .nil Ea (xa (bd ib (pv 3) Ub (fun _ _=>rfl)) Ca))) (ce (Ab fk (pv 4) wd (za _))))) (Ci (xa (bd ib (pv 3) Ub (fun _ _=>rfl)) (xa (pv 4) Ca))) wd))))),?_⟩
  have sz:=Sa;have hl0:=ln.len;rw[wb]at hl0;obtain⟨lnA,lnC⟩:=Mn ln;walk_at "rs";refine⟨by trivial,by decide,by omega,fun p hp=>?_⟩;unfold Qc at qn q;have ePt:partition s0 (Str.ofString " -> ")=partition s0 " -> ":=rfl;rw[ePt];generalize partition s0 " -> " = pt at lnA lnC qn q ⊢;obtain⟨a,m,c⟩:=pt;dsimp only at lnA lnC qn q ⊢;have hla:=lnA.len;rw[wb]at hla;have hp1:upd H p (.tup [.str a,.str m,.str c]) p=some (.tup [.str a,.str m,.str c]):=z0h;have s1:Same H (upd H p (.tup [.str a,.str m,.str c])):=Same.of_new hp;generalize upd H p (.tup [.str a,.str m,.str c])=H1 at hp1 s1;refine⟨csS c,by rw[bc],lnC,fun hr0 H2 s2=>?_,fun ps hr0 l us o F H2 s2 hl rep nd fr=>?_⟩
  ·refine⟨_,s2 _ _ hp1,_,rfl,?_⟩;refine Zc (ds:=[.str a]) (Qd:=fun _ d _=>d=.bl (isNm (csS a))) ⟨_,[],rfl,rfl,rfl⟩ ⟨a,rfl,by omega,rfl⟩ fun b d δ' v H3 s3 ed r3=>?_;subst ed;cases(show v=.bl (isNm (csS a)) from r3);refine⟨_,rfl,?_⟩;have e0:(if isNm (csS a)=true then(Kb (csS c)).map (fun ps=>(a,ps)) else none)=none:=by rw[hr0];split<;>rfl
   have fin:=qn e0 H3 (s1.trans (s2.trans s3));cases hN:isNm (csS a) with
   |true =>
    rw[if_pos rfl];refine⟨false,by simp,?_⟩;rw[if_neg (by simp)];exact fin
   |false =>
    rw[if_neg (by simp)];exact fin
  ·refine⟨_,s2 _ _ hp1,_,rfl,?_⟩;refine Zc (ds:=[.str a]) (Qd:=fun _ d _=>d=.bl (isNm (csS a))) ⟨_,[],rfl,rfl,rfl⟩ ⟨a,rfl,by omega,rfl⟩ fun b d δ' v H3 s3 ed r3=>?_;subst ed;cases(show v=.bl (isNm (csS a)) from r3);refine⟨_,rfl,?_⟩;cases hN:isNm (csS a) with
   |true =>
    rw[if_pos rfl];refine⟨true,by simp,?_⟩;rw[if_pos rfl];refine⟨_,s3 _ _ (s2 _ _ hp1),_,rfl,by omega,fun t ht=>?_⟩;have nt:H t=none:=(s1.trans (s2.trans s3)).free ht;have hl3:=s3 _ _ hl;exact q (a,ps) (by rw[hN,hr0];rfl) t l us o F _ ((s1.trans (s2.trans s3)).upd nt) z0h (by rw[wa (qb hl3 ht)];exact hl3) ((rep.same s3).same (Same.of_new ht)) nd fun b hb=>s1.free (fr b hb)
   |false =>
    rw[if_neg (by simp)];exact qn (by rw[hN];rfl) H3 (s1.trans (s2.trans s3))
theorem y3p {l:Cs}{ps:List Part}(h:Kb l=some ps)(ln:LnG l):Da ps<=1000:=by
 unfold Kb at h;split at h
 ·cases h;simp[Da]
 ·cases e2:Dc l with
  |none=>rw[e2]at h;cases h
  |some qs =>
   rw[e2]at h;dsimp only at h;split at h
   ·cases h;exact(Pj e2 ln.len ln.sg).2
   ·cases h
def GotF (fs:List (Str×List Part))(H:Hp)(Q:VK):Prop:=∀(a:Addr)(us o:List V)(F:List Addr)(H':Hp),H a=none->Same H H'->H' a=some (.lst us)->RepL H' us (fs.map tupP) o F->(a::F).Nodup->(∀b∈F,H b=none)->Q (.ref a) H'
def q1e (fr Ct:Addr):Sp:=fun vs H Q E=>∃(lines:List Str)(l:Addr),vs=[.ref l,.str " -> ",.ref fr,.int 0]/\H l=some (.lst (lines.map .str))/\lines.length<=20/\(∀s∈lines,LnG (csS s))/\(∀rules,kb 0 lines=.inr rules->GotF rules H Q)/\∀k:Nat,kb 0 lines=.inl k->Kn Ct k H E
theorem j2f {f1 f2:Addr}{fd1:FuncData}(Y:XR K mg CF CT CN CS Ct Cp Ck)(u0o:Ent K mg "read_rules" Ch ["lines","middle","reader","first"] f fd)(T:Zs K mg)(u1y:Ent K mg "read_rule" Bh ["line","middle","reader"] f1 fd1)(u6l:FnOk P w K mg base CX0 6 f1 fd1 ["line","middle","reader"] (j6d f2)):FnOk P w K mg base (CX1 P w) 7 f fd ["lines","middle","reader","first"] (q1e f2 Ct):=by
 refine u0o.F.okX Sh (fun vs H Q E h=>?_) (fun cdv A outer s H vs Q E hr h=>?_)
 ·obtain⟨_,_,rfl,_⟩:=h;rfl
 ·obtain⟨lines,l,rfl,hl,hn,ok,qq,q2⟩:=h;have hu:=Qb hr;refine⟨_,(Ta (xb (i:=4) Sh.nd rfl (Or.inl rfl) (Fc Ca))
   (Ta (zi PassesOwn.leaving rfl (q2o rfl T.z_enumerate (xa (pv 0) Ca) (pv 3)) (vi rfl (Zf (uf (i:=5) Sh.nd rfl (Or.inl rfl)) (Zf (uf (i:=6) Sh.nd rfl (Or.inl rfl)) ui))) (Ta (xb (i:=7) Sh.nd rfl (Or.inl rfl) (yb u6l (hr.mono (by omega)) rfl u1y.g u1y.F.kp u1y.b .nil Ea (xa (pv 6) (xa (pv 1) (xa (pv 2) Ca)))))
   (Ta (Lb (Ab Ee (pv 7) wd (za _)) (Ua (Zi Y.x_NoText (hr.mono (by omega)) rfl (xa (pv 5) Ca))) Xb)
   (Ua (Ld (zf PySem.F.slot_list_append PySem.F.type_list_append zb (pv 4) (xa (pv 7) Ca)))))))
   (Ua (uc (pv 4))))),?_⟩
  have sz:=Sa;walk_at "rs";refine⟨by omega,fun a ha=>⟨by decide,_,by rw[wa (qb hl ha)];exact hl,loopE (xs:=lines.map V.str) (fun i σ H'=>∃us o F x5 x6 x7,∃rules:List (Str×List Part),σ=[some (.ref l),some (.str " -> "),some (.ref f2),some (.int 0),some (.ref a),x5,x6,x7]/\Same H H'/\H' a=some (.lst us)/\RepL H' us (rules.map tupP) o F/\(a::F).Nodup/\(∀b∈F,H b=none)/\rules.length=i/\kb 0 lines=preR rules (kb (0+i) (lines.drop i))) ⟨[],[],[],none,none,none,[],rfl,Same.of_new ha,z0h,.nil,by simp,by simp,rfl,by rw[x1o];rfl⟩ (fun i σ H' h=>?_) (fun i x σ H' t hx h ht=>?_) fun σ H' h=>?_⟩⟩
  ·obtain⟨us,o,F,x5,x6,x7,rules,rfl,s1,h1,_⟩:=h;exact s1 _ _ hl
  ·obtain⟨us,o,F,x5,x6,x7,rules,rfl,s1,h1,r1,nd,fr,rl,er⟩:=h;rw[getElem?_map]at hx;obtain⟨s0,hs0,rfl⟩:=map_eq_some_iff.mp hx;have hi:=(List.getElem?_eq_some_iff.mp hs0).1;have oks:=ok s0 (mem_of_getElem? hs0);have hlu:us.length=i:=by have:=r1.heads.1;simp at this;omega
   have ed:lines.drop i=s0::lines.drop (i+1):=by
    rw[drop_eq_getElem_cons hi];have:=getElem?_eq_getElem hi;rw[hs0]at this;rw[Option.some.inj this]
   rw[ed,kb]at er;have st:Same H' (upd H' t (.tup [.int (0+(i:Int)),.str s0])):=Same.of_new ht;have ht1:upd H' t (.tup [.int (0+(i:Int)),.str s0]) t=some (.tup [.int (0+(i:Int)),.str s0]):=z0h;generalize upd H' t (.tup [.int (0+(i:Int)),.str s0])=H1 at st ht1;walk_at "rs";refine⟨_,.inl (.inl ht1),rfl,_,_,rfl,_,_,rfl,rfl,s0,rfl,oks,fun ers H2 s2=>?_,fun r ers t2 l2 us2 o2 F2 H2 s2 ht2 hl2 rep2 nd2 fr2=>?_⟩
   ·rw[ers]at er;unfold tIfS;walk_at "rd";intro x dx n1 n2 n3;have wx:=q2 (0+i) er;have ei:(((0+i:Nat)):Int)=0+(i:Int):=by omega
    rw[ei]at wx;exact wx x dx _ (Qj (s1.trans (st.trans s2)) n1 n2) z0h (by rw[wa n3,z0h])
   ·rw[ers]at er;unfold tIfS;walk_at "rd";have hs12:=st.trans s2;have ha2:H2 a=some (.lst us):=hs12 _ _ h1;have na:H a=none:=ha;have rall:=(r1.same hs12).append (.tup ht2 hl2 rep2 .nil);have inF:∀b∈F,∃o,H1 b=some o:=fun b hb=>by obtain⟨xs,e⟩:=r1.lsts b hb;exact⟨_,st _ _ e⟩
    have nin:∀b∈l2::(F2++[]),¬∃o,H1 b=some o:=fun b hb ⟨o,e⟩=>by
     rw[append_nil]at hb;rw[fr2 b hb]at e;cases e
    obtain⟨nd0,ndF⟩:=nodup_cons.mp nd;have naF:a∉F++(l2::(F2++[])):=fun hb=>by
     rcases mem_append.mp hb with hb|hb
     ·exact nd0 hb
     ·exact nin a hb ⟨_,st _ _ h1⟩
    refine⟨⟨_,ha2⟩,us,ha2,by omega,fun b o e=>?_,_,_,rules++[r],by rw[map_append];exact rall.frame (fun b hb=>wa fun z=>naF (z ▸ hb)) (fun b xs e=>by rw[wa (oi e ha2 (by intro z;cases z))];exact e),?_,fun b hb=>?_,by simp[rl],by rw[y7j];exact er⟩
    ·have nb:b≠a:=fun z=>by rw[z,na]at e;cases e
     rw[wa nb];exact hs12 _ _ (s1 _ _ e)
    ·refine nodup_cons.mpr ⟨naF,List.nodup_append.mpr ⟨ndF,by rw[append_nil];exact nd2,fun x hx y hy e=>?_⟩⟩;subst e;exact nin x hy (inF x hx)
    ·rcases mem_append.mp hb with hb|hb
     ·exact fr b hb
     ·rw[append_nil]at hb;exact(s1.trans st).free (fr2 b hb)
  ·obtain⟨us,o,F,x5,x6,x7,rules,rfl,s1,h1,r1,nd,fr,rl,er⟩:=h;rw[length_map,drop_length,kb,preR,append_nil]at er;walk_at "rd";exact qq rules er a us o F H' ha s1 h1 r1 nd fr
theorem x4y {fs:List (Str×List Part)}{vf:V}{H:Hp}{Q:VK}{E:XK}(hl:fs.length<=20)(hz:∀r∈fs,Da r.2<=1000)(hd:dueF fs=none)(rf:Rep H (.lst (fs.map Ya)) vf)(k:∀v H',Same H H'->Q v H'):spD mn [vf] H Q E:=by
 obtain⟨k1,k2⟩:=x2p hd;exact Zc (ds:=[.lst (fs.map Ya)]) (Qd:=fun b d _=>True) ⟨_,_,rfl,rf,rfl⟩ ⟨fs,rfl,by omega,k1,fun r hr=>⟨by have:=hz r hr;omega,(k2 r hr).2⟩,trivial⟩ fun b d δ' v H' s _ _=>k v H' s
noncomputable def dueR (lines:List Str):Option (Kd×V):=match kb 0 lines with
 |.inl k=>some (.tx,.int k)
 |.inr fs=>(dueF fs).map fun o=>(if o.1 then .tw else .ss,.str o.2)
def XW (CT CS Ct:Addr)(o:Kd×V)(H:Hp)(E:XK):Prop:=∀x dx H',Same H H'->H' x=some (XO (o.1.cls CT CS Ct) dx x)->H' dx=some (.xd [(o.1.att,o.2)])->E (.ref x) (some dx) H'
def q7w (CT CS Ct:Addr):Sp:=fun vs H Q E=>∃(lines:List Str)(l:Addr),vs=[.ref l]/\H l=some (.lst (lines.map .str))/\lines.length<=20/\(∀s∈lines,LnG (csS s))/\(∀fs,kb 0 lines=.inr fs->dueF fs=none->∀v H',Same H H'->Rep H' (.lst (fs.map Ya)) v->Q v H')/\∀o,dueR lines=some o->XW CT CS Ct o H E
theorem j6k {f1 f2 f3:Addr}{fd1 fd2 fd3:FuncData}(u1n:Ent K mg "read_ferry" Dh ["rows"] f fd)(T:Zs K mg)(u0o:Ent K mg "read_rules" Ch ["lines","middle","reader","first"] f1 fd1)(u4a:FnOk P w K mg base (CX1 P w) 7 f1 fd1 ["lines","middle","reader","first"] (q1e f2 Ct))(u0n:Ent K mg "read_row" Qf ["line"] f2 fd2)(u0j:Ent K mg "look_ferry" ug ["ferry"] f3 fd3)(u5g:FnOk P w K mg base CX0 3 f3 fd3 ["ferry"] (spD mn))(u5z:FnOk P w K mg base (CX1 P w) 4 f3 fd3 ["ferry"] (x2o CT CS)):FnOk P w K mg base (CX1 P w) 8 f fd ["rows"] (q7w CT CS Ct):=by
 refine u1n.F.okX lm (fun vs H Q E h=>?_) (fun cdv A outer s H vs Q E hr h=>?_)
 ·obtain⟨_,_,rfl,_⟩:=h;rfl
 ·obtain⟨lines,l,rfl,hl,hn,ok,q1,q2⟩:=h;have tx:∀k:Nat,kb 0 lines=.inl k->Kn Ct k H E:=fun k e=>q2 (.tx,.int k) (by unfold dueR;rw[e]);cases hb:((match kb 0 lines with | .inr fs=>dueF fs | .inl _=>none):Option (Bool×Str)) with
  |none =>
   refine⟨_,(Ta (xb (i:=1) lm.nd rfl (Or.inl rfl) (yb u4a (hr.mono (by omega)) rfl u0o.g u0o.F.kp u0o.b .nil vh (xa (pv 0) (xa Gb (xa (tf (v:=.ref _) rfl u0n.g rfl) (xa Ub Ca))))))
   (Ta (Ld (yb u5g (hr.mono (by omega)) rfl u0j.g u0j.F.kp u0j.b .nil Ea (xa (pv 1) Ca)))
   (Ua (uc (pv 1))))),?_⟩
   walk_at "rs";refine⟨lines,l,rfl,hl,hn,ok,fun fs er a us o F H1 na s1 ha rep nd fr=>?_,tx⟩;obtain⟨k1,k2⟩:=Sj er ok;rw[er]at hb;have rp:Rep H1 (.lst (fs.map Ya)) (.ref a):=⟨a,us,rfl,ha,by rw[<-Nn];exact RepL.reps rep⟩;exact x4y (by omega) k2 hb rp fun v H2 s2=>q1 fs er hb _ _ (s1.trans s2) (Rep.mono s2 _ _ rp)
  |some o =>
   refine⟨_,(Ta (xb (i:=1) lm.nd rfl (Or.inl rfl) (yb u4a (hr.mono (by omega)) rfl u0o.g u0o.F.kp u0o.b .nil vh (xa (pv 0) (xa Gb (xa (tf (v:=.ref _) rfl u0n.g rfl) (xa Ub Ca))))))
   (Ta (Ld (yb u5z (hr.mono (by omega)) rfl u0j.g u0j.F.kp u0j.b .nil vh (xa (pv 1) Ca)))
   x9m)),?_⟩
   walk_at "rs";refine⟨lines,l,rfl,hl,hn,ok,fun fs er a us o' F H1 na s1 ha rep nd fr=>?_,tx⟩;obtain⟨k1,k2⟩:=Sj er ok;rw[er]at hb;have rp:Rep H1 (.lst (fs.map Ya)) (.ref a):=⟨a,us,rfl,ha,by rw[<-Nn];exact RepL.reps rep⟩;refine⟨fs,_,o,rfl,rp,by omega,fun r hr=>by have:=k2 r hr;omega,hb,?_⟩;have q3:=q2 (if o.1 then .tw else .ss,.str o.2) (by unfold dueR;rw[er];simp[show dueF fs=some o from hb]);unfold XDue;refine XWish.mono s1 ?_;obtain⟨b,n⟩:=o;cases b<;>exact q3
def q7q (Ct:Addr):Sp:=fun vs H Q E=>∃l:Cs,vs=[.str (strC l)]/\LnG l/\(∀p,Hb l=some p->∀v H',Same H H'->Rep H' (pD p) v->Q v H')/\(Hb l=none->Kn Ct 0 H E)
theorem j8i {f1 f2 f3 f4:Addr}{fd1 fd2 fd3 fd4:FuncData}(Y:XR K mg CF CT CN CS Ct Cp Ck)(u1o:Ent K mg "read_paper" Ah ["line"] f fd)(T:Zs K mg)(kts:kitOne K (.type "tuple") (.type "str")=some false)(u0n:Ent K mg "read_row" Qf ["line"] f1 fd1)(u4e:FnOk P w K mg base CX0 5 f1 fd1 ["line"] Ln)(u1r:Ent K mg "stars" Se ["row"] f2 fd2)(u0i:Ent K mg "all_parts" Qe ["row"] f3 fd3)(u1h:Ent K mg "sign_of" Re ["part"] f4 fd4):FnOk P w K mg base (CX1 P w) 8 f fd ["line"] (q7q Ct):=by
 have u5r:=kn (P:=P) (w:=w) (base:=base) u1r T u0i u1h;refine u1o.F.okX Tq (fun vs H Q E h=>?_) (fun cdv A outer s H vs Q E hr h=>?_)
 ·obtain⟨_,rfl,_⟩:=h;rfl
 ·obtain⟨l,rfl,ln,q,qx⟩:=h;have hu:=Qb hr;refine⟨_,(Ta (xb (i:=1) Tq.nd rfl (Or.inl rfl) (yb u4e (hr.mono (by omega)) rfl u0n.g u0n.F.kp u0n.b .nil Ea (xa (pv 0) Ca)))
   (Ta (Lb (PW.pt (Tg (Ab Ee (pv 1) wd (za _)) (Tg (Ab vc (Nc Gc rfl T.z_len PySem.boot_len (xa (pv 1) Ca)) Ub (za _)) (Tg (qc (Nc (yc (K:=K) rfl) rfl T.z_isinstance boot_isinstance (xa (bd gb (pv 1) Ub (fun _ _=>rfl)) (xa (Yj (v:=.ty "str") rfl T.z_str boot_str rfl) Ca)))) (Zj (Ab Wg (yb u5r (hr.mono (by omega)) rfl u1r.g u1r.F.kp u1r.b .nil Ea (xa (pv 1) Ca)) Ub (za _))))))) (Ua (Zi Y.x_NoText (hr.mono (by omega)) rfl (xa Ub Ca))) Xb)
   (Ua (uc (bd gb (pv 1) Ub (fun _ _=>rfl)))))),?_⟩
  have sz:=Sa;walk_at "rs";have bad:∀{H1:Hp},Same H H1->Hb l=none->∀x dx,H1 x=none->H1 dx=none->¬dx=x->E (.ref x) (some dx) (upd (upd H1 dx (.xd [("row",.int 0)])) x (XO Ct dx x)):=fun s1 e x dx n1 n2 n3=>qx e x dx _ (Qj s1 n1 n2) z0h (by rw[wa n3,z0h]);refine⟨l,rfl,ln,fun er H1 s1=>?_,fun ps er a us o F H1 s1 ha rep nd fr=>?_⟩
  ·have e0:Hb l=none:=by unfold Hb;rw[er]
   unfold tIfS;walk_at "rd";exact bad s1 e0
  ·unfold tIfS;walk_at "rs";have hsz:=y3p er ln;have rl:=rep.heads.1;cases ps with
   |nil =>
    have e0:Hb l=none:=by unfold Hb;rw[er]
    refine⟨_,ha,true,by rw[rl];rfl,?_⟩;rw[if_pos rfl];exact bad s1 e0
   |cons p ps =>
    cases ps with
    |cons p2 ps =>
     have e0:Hb l=none:=by unfold Hb;rw[er]
     refine⟨_,ha,true,by rw[rl,decide_eq_false (by simp only[length_cons];omega)];rfl,?_⟩;rw[if_pos rfl];exact bad s1 e0
    |nil =>
     have e1:Hb l=if Wf p=true/\stL [p]=0 then some p else none:=by unfold Hb;rw[er]
     refine⟨_,ha,false,by rw[rl];rfl,?_⟩;rw[if_neg (by simp)];have rr:=RepL.reps rep;obtain⟨u,us',rfl,ru,z⟩:=rr;cases(show us' = [] from z);refine⟨_,ha,u,atI0,?_⟩;cases p with
     |txt z =>
      cases(show u=.str z from ru);refine⟨_,.str _,true,rfl,?_⟩;rw[if_pos rfl];exact bad s1 (by rw[e1,if_neg (by simp[Wf])])
     |tup n qs =>
      obtain⟨t,vs,rfl,ht,rv⟩:=id ru;refine⟨_,.tup ht,false,kts,?_⟩;rw[if_neg (by simp)];refine Zc (ds:=[.lst (pDs [.tup n qs])]) (Qd:=fun _ d _=>d=.int (stL [.tup n qs])) ⟨_,_,rfl,⟨a,_,rfl,ha,RepL.reps rep⟩,rfl⟩ ⟨[.tup n qs],rfl,by omega,rfl⟩ fun b d δ' v H2 s2 ed rv=>?_;subst ed;cases(show v=.int (stL [.tup n qs]) from rv);refine⟨_,rfl,?_⟩;by_cases h0:stL [.tup n qs]=0
      ·rw[if_pos ⟨rfl,h0⟩]at e1;rw[h0,if_neg (by decide)];exact⟨_,s2 _ _ ha,_,atI0,q _ e1 _ _ (s1.trans s2) (Rep.mono s2 _ _ ru)⟩
      ·rw[if_neg (fun z=>h0 z.2)]at e1;rw[if_pos (by omega)];exact bad (s1.trans s2) e1
noncomputable def dueA (pap:Bool)(lines:List Str):Option (Kd×V):=if pap=true then(match Hb (csS (lines.headD "")) with|some _=>none|none=>some (.tx,.int 0)) else dueR lines
def gotA (pap:Bool)(lines:List Str)(d:D):Prop:=if pap=true then ∃p,Hb (csS (lines.headD ""))=some p/\d=pD p else ∃fs,kb 0 lines=.inr fs/\dueF fs=none/\d=.lst (fs.map Ya)
def Pn (CT CS Ct:Addr):Sp:=fun vs H Q E=>∃(lines:List Str)(l:Addr)(pap:Bool),vs=[.ref l,.bl pap]/\H l=some (.lst (lines.map .str))/\lines.length<=20/\(pap=true->lines≠[])/\(∀s∈lines,LnG (csS s))/\(∀d,gotA pap lines d->∀v H',Same H H'->Rep H' d v->Q v H')/\∀o,dueA pap lines=some o->XW CT CS Ct o H E
theorem j0u {f1 f2:Addr}{fd1 fd2:FuncData}(u0p:Ent K mg "_law_asked" Nh ["_law_rows","_law_papers"] f fd)(T:Zs K mg)(u1o:Ent K mg "read_paper" Ah ["line"] f1 fd1)(u6a:FnOk P w K mg base (CX1 P w) 8 f1 fd1 ["line"] (q7q Ct))(u1n:Ent K mg "read_ferry" Dh ["rows"] f2 fd2)(u6b:FnOk P w K mg base (CX1 P w) 8 f2 fd2 ["rows"] (q7w CT CS Ct)):FnOk P w K mg base (CX1 P w) 9 f fd ["_law_rows","_law_papers"] (Pn CT CS Ct):=by
 refine u0p.F.okX y4r (fun vs H Q E h=>?_) (fun cdv A outer s H vs Q E hr h=>?_)
 ·obtain⟨_,_,_,rfl,_⟩:=h;rfl
 ·obtain⟨lines,l,pap,rfl,hl,hn,hne,ok,q1,q2⟩:=h;have hu:=Qb hr;refine⟨_,(Ta (Lb (qc (pv 1)) (Ua (uc (yb u6a (hr.mono (by omega)) rfl u1o.g u1o.F.kp u1o.b .nil vh (xa (bd gb (pv 0) Ub (fun _ _=>rfl)) Ca)))) Xb)
   (Ua (uc (yb u6b (hr.mono (by omega)) rfl u1n.g u1n.F.kp u1n.b .nil vh (xa (pv 0) Ca))))),?_⟩
  walk_at "rd";cases pap with
  |true =>
   rw[if_pos rfl];cases lines with
   |nil=>exact absurd rfl (hne rfl)
   |cons s0 r =>
    refine⟨_,hl,.str s0,atI0,csS s0,by rw[bc],ok s0 mem_cons_self,fun p ep v H' s rv=>q1 _ (by unfold gotA;rw[if_pos rfl];exact⟨p,ep,rfl⟩) v H' s rv,fun e=>q2 (.tx,.int 0) (by unfold dueA;rw[if_pos rfl];show(match Hb (csS s0) with|some _=>none|none=>some (Kd.tx,V.int 0))=_;rw[e])⟩
  |false =>
   rw[if_neg (by simp)];exact⟨lines,l,rfl,hl,hn,ok,fun fs er hd v H' s rv=>q1 _ (by unfold gotA;rw[if_neg (by simp)];exact⟨fs,er,hd,rfl⟩) v H' s rv,fun o e=>q2 o (by unfold dueA;rw[if_neg (by simp)];exact e)⟩
theorem Qn {pap:Bool}{lines:List Str}{o:Kd×V}(h:dueA pap lines=some o):o.1.pay o.2:=by
 unfold dueA at h;split at h
 ·split at h
  ·cases h
  ·cases h;exact⟨_,rfl⟩
 ·unfold dueR at h;split at h
  ·cases h;exact⟨_,rfl⟩
  ·obtain⟨⟨b,n⟩,_,rfl⟩:=map_eq_some_iff.mp h;cases b<;>exact⟨_,rfl⟩
theorem x1m {pap:Bool}{lines:List Str}{d:D}(h:gotA pap lines d):dueA pap lines=none:=by
 unfold gotA at h;unfold dueA;split at h
 ·rename_i hp;obtain⟨p,e,_⟩:=h;rw[if_pos hp,e]
 ·rename_i hp;obtain⟨fs,e,e2,_⟩:=h;rw[if_neg hp];unfold dueR;rw[e];simp[e2]
def y4a:Sp:=fun vs H Q _=>∃(lines:List Str)(l:Addr)(pap:Bool),vs=[.ref l,.bl pap]/\H l=some (.lst (lines.map .str))/\lines.length<=20/\(pap=true->lines≠[])/\(∀s∈lines,LnG (csS s)) /\
 ∀l H',H l=none->Same H H'->H' l=some (.lst (dueV (dueA pap lines)))->Q (.ref l) H'
theorem x3k {f1 f2:Addr}{fd1 fd2:FuncData}(Y:XR K mg CF CT CN CS Ct Cp Ck)(u1t:Ent K mg "_law_refused" fj ["_law_rows","_law_papers"] f fd)(T:Zs K mg)(u0p:Ent K mg "_law_asked" Nh ["_law_rows","_law_papers"] f1 fd1)(u1x:Ent K mg "_law_kind" Lh ["_law_error"] f2 fd2)(u4b:FnOk P w K mg base (CX1 P w) 9 f1 fd1 ["_law_rows","_law_papers"] (Pn CT CS Ct)):FnOk P w K mg base CX0 10 f fd ["_law_rows","_law_papers"] y4a:=by
 have u6m:=j2y (P:=P) (w:=w) (base:=base) Y u1x T;refine u1t.F.ok om (fun vs H Q E h=>?_) (fun cdv A outer s H vs Q E hr h=>?_)
 ·obtain⟨_,_,_,rfl,_⟩:=h;rfl
 ·obtain⟨lines,l,pap,rfl,hl,hn,hne,ok,q⟩:=h;refine⟨_,(Ta (xb (i:=2) om.nd rfl (Or.inl rfl) wd)
   (Ta (j8h (ie:=3) (iy:=2) u4b (hr.mono (by decide)) rfl u0p.g u0p.F.kp u0p.b (xa (pv 0) (xa (pv 1) Ca)) ⟨rfl,rfl⟩ rfl om.nd rfl rfl rfl (Or.inl rfl) (Or.inl rfl) rfl Y.g_FerryError Y.q_FerryError)
   (Ua (uc (yb u6m (hr.mono (by decide)) rfl u1x.g u1x.F.kp u1x.b .nil Ea (xa (pv 2) Ca)))))),?_⟩
  walk_at "rs";refine⟨lines,l,pap,rfl,hl,hn,hne,ok,fun d gd v H1 s1 _=>?_,fun o he x dx H1 s1 hx hdx=>?_⟩
  ·exact⟨.non,none,rfl,rfl,fun l H' n s e=>q l H' (s1.free n) (s1.trans s) (by rw[x1m gd];exact e)⟩
  ·obtain⟨fI,hxc⟩:=Y.xc o.1;refine⟨x,rfl,?_⟩;refine⟨_,dx,rfl,hx,⟨_,fI,hxc,by simp⟩,.ref x,some o,rfl,⟨x,dx,rfl,hx,hdx,Qn he⟩,fun l H' n s e=>q l H' (s1.free n) (s1.trans s) (by rw[he];exact e)⟩
theorem q2v (r:Cs):txtP (34::r)=some ([],r):=by cases r<;>simp[txtP]
theorem x3j {c:Nat}(h1:c≠34)(h2:c≠92)(r:Cs):txtP (c::r)=(txtP r).map fun x=>(c::x.1,x.2):=by
 cases r with
 |nil=>simp[txtP,h1]
 |cons d r=>rw[txtP,if_neg h1,if_neg h2]
theorem j1c (d:Nat)(r:Cs):txtP (92::d::r)=if d=113 then(txtP r).map (fun x=>(34::x.1,x.2)) else if d=92 then(txtP r).map (fun x=>(92::x.1,x.2)) else none:=by
 rw[txtP,if_neg (by decide),if_pos rfl]
theorem j6z (l:Cs)(b:Nat):Txt.slice (strC l) (some (b:Int)) (some ((b:Int)+2))=strC ((l.drop b).take 2):=by
 have:=Uf (l:=l) (b:=b) (e:=b+2) (by omega);rw[show b+2 - b=2 by omega]at this
 exact_mod_cast this
noncomputable def txtD (n:Nat):Option (Cs×Cs)->D
 |none=>.non
 |some x=>.tup [.str (strC x.1),.int ((n - x.2.length:Nat):Int)]
def x4o:RD:=fun δ Q=>∃(l:Cs)(b:Nat),δ=[.fz (cD l),.fz (.int b)]/\b<l.length/\l.length<=1000/\Q false (txtD l.length (txtP (l.drop (b+1)))) [.no,.no]
theorem q3h (u0f:Ent K mg "_law_text_in" We ["_law_line","_law_at"] f fd)(T:Zs K mg):FnOk P w K mg base CX0 1 f fd ["_law_line","_law_at"] (spD x4o):=by
 refine VL.Fun.dok u0f.F df (fun δ Qd h=>?_) (by decide) (fun cdv A outer s H E δ Qd hr h=>?_)
 ·obtain⟨_,_,rfl,_⟩:=h;rfl
 ·obtain⟨l,b,rfl,hb,hl,q⟩:=h;have hu:=Qb hr;refine⟨_,(ka (Aa (i:=2) df.nd rfl (Or.inl rfl) qa)
   (ka (Aa (i:=1) df.nd rfl (Or.inl rfl) (ja La Ka (dv 1) ia))
   (ka (Cf PassesOwn.never (Ga q1c y9l (vb (dv 0) (Fa (dv 1)) (Fa (ja La Ka (dv 1) ia))) (Rb (aa qa (aa qa ba))) rfl) (ka (Aa (i:=3) df.nd rfl (Or.inl rfl) (vb (dv 0) (Fa (dv 1)) (Fa (ja La Ka (dv 1) ia))))
   (ka (Ia (Ga cb Ra (dv 3) qa (za _)) (ka (Aa (i:=3) df.nd rfl (Or.inl rfl) (j0s hu (q4t Gb Gb Gb Gb) (by decide) (vb (dv 0) (Fa (dv 1)) (Fa (ja La Ka (dv 1) ia))) Gb ⟨rfl,rfl,rfl,rfl⟩))
   (ka (Aa (i:=1) df.nd rfl (Or.inl rfl) (ja La Ka (dv 1) ia))
   (ma (Ia (Ga cb Ra (dv 3) qa (za _)) (ma (Ba Ac)) Ma)))) Ma)
   (ka (Aa (i:=2) df.nd rfl (Or.inl rfl) (ja Db Bb (dv 2) (dv 3)))
   (ma (Aa (i:=1) df.nd rfl (Or.inl rfl) (ja La Ka (dv 1) ia)))))))
   (ka (Ia (Ga cb Ra (vb (dv 0) (Fa (dv 1)) (Fa (ja La Ka (dv 1) ia))) qa (za _)) (ma (Ba Ac)) Ma)
   (ma (Ba (Rb (aa (dv 2) (aa (ja La Ka (dv 1) ia) ba))))))))),?_⟩
  have sz:=Sa;unfold cD;walk_at "vd";refine⟨[3],fun δ=>∃(k:Nat)(fo:Cs),b+1<=k/\k<=l.length/\fo.length<=k/\txtP (l.drop (b+1))=(txtP (l.drop k)).map (fun x=>(fo++x.1,x.2))/\δ=[.fz (.str (strC l)),.fz (.int (k:Int)),.fz (.str (strC fo)),.no],fun δ=>l.length - inAt 1 δ,⟨b+1,[],le_refl _,hb,zero_le _,by simp,by simp[fgt];decide⟩,?_⟩;rintro δ ⟨k,fo,hk0,hk,hfo,er,rfl⟩;walk_at "vd";have ll:=Na l;have lf:=Na fo;rw[Vf,j6z];simp only[show Str.ofString "\"" = strC [34] from by decide +kernel,show Str.ofString "" = strC [] from by decide +kernel,show Str.ofString "\\" = strC [92] from by decide +kernel,ym,Yh,Qg];refine⟨by omega,by omega,?_⟩;cases ed:l.drop k with
  |nil =>
   rw[ed]at er;rw[if_neg (by simp)];refine⟨by omega,?_⟩;rw[if_pos (show take 1 ([]:Cs)=[] from rfl)];rw[er]at q;exact q
  |cons c r =>
   have hk1:k<l.length:=by
    have:=congrArg List.length ed;rw[length_drop,length_cons]at this;omega
   have ed1:l.drop (k+1)=r:=by rw[<-drop_drop,ed];rfl
   have hrl:r.length=l.length - (k+1):=by rw[<-ed1,length_drop]
   rw[ed]at er;have e1:(c::r).take 1=[c]:=rfl;rw[e1];by_cases h34:c=34
   ·subst h34;rw[if_neg (by simp)];refine⟨by omega,?_⟩;rw[if_neg (by simp)];refine⟨by omega,?_⟩;rw[er,q2v]at q;have e2:l.length - r.length=k+1:=by omega
    simp only[map_some,txtD,e2,append_nil]at q
    exact_mod_cast q
   ·rw[if_pos (by simp[h34])];refine⟨by omega,?_⟩;by_cases h92:c=92
    ·subst h92;rw[if_pos rfl];refine⟨by omega,?_⟩;cases r with
     |nil =>
      have e3:(take 2 [92]:Cs)=[92]:=rfl;have e5:(if ([92]:Cs)=[92,113] then strC [34] else if ([92]:Cs)=[92,92] then strC [92] else strC [])=strC []:=by rw[if_neg (by decide),if_neg (by decide)]
      rw[e3,e5,if_pos rfl];have e4:txtP [92]=none:=by decide
      rw[er,e4]at q;exact q
     |cons d r =>
      have e3:(92::d::r).take 2=[92,d]:=rfl;have ed2:l.drop (k+1+1)=r:=by rw[<-drop_drop,ed1];rfl
      have hk2:k+2<=l.length:=by rw[length_cons]at hrl;omega
      rw[e3];rw[j1c]at er;by_cases h113:d=113
      ·subst h113;rw[if_pos rfl]at er;have e5:(if ([92,113]:Cs)=[92,113] then strC [34] else if ([92,113]:Cs)=[92,92] then strC [92] else strC [])=strC [34]:=if_pos rfl;rw[e5,if_neg (by decide +kernel)];refine⟨by rw[lf];show fo.length+1<=_;omega,⟨k+1+1,fo++[34],by omega,by omega,by simp;omega,by rw[er,ed2,Option.map_map];congr 1;funext x;simp,?_⟩,by omega⟩;rw[Kc];push_cast;rfl
      ·rw[if_neg h113]at er;by_cases hd:d=92
       ·subst hd;rw[if_pos rfl]at er;have e5:(if ([92,92]:Cs)=[92,113] then strC [34] else if ([92,92]:Cs)=[92,92] then strC [92] else strC [])=strC [92]:=by rw[if_neg (by decide),if_pos rfl]
        rw[e5,if_neg (by decide +kernel)];refine⟨by rw[lf];show fo.length+1<=_;omega,⟨k+1+1,fo++[92],by omega,by omega,by simp;omega,by rw[er,ed2,Option.map_map];congr 1;funext x;simp,?_⟩,by omega⟩;rw[Kc];push_cast;rfl
       ·rw[if_neg hd]at er;have e5:(if ([92,d]:Cs)=[92,113] then strC [34] else if ([92,d]:Cs)=[92,92] then strC [92] else strC [])=strC []:=by rw[if_neg (by simp[h113]),if_neg (by simp[hd])]
        rw[e5,if_pos rfl];rw[er]at q;exact q
    ·rw[if_neg (by simp[h92])];rw[x3j h34 h92]at er;refine⟨by rw[lf,Na];simp;omega,⟨k+1,fo++[c],by omega,by omega,by simp;omega,by rw[er,ed1,Option.map_map];congr 1;funext x;simp,?_⟩,by omega⟩;rw[Kc];push_cast;rfl
def c40 (l:Cs):Nat:=(l.filter fun c=>decide (c=40)).length
theorem Tj (l:Cs)(i j:Nat)(h:i<=j):c40 (l.drop j)<=c40 (l.drop i):=by
 have e:l.drop j=(l.drop i).drop (j - i):=by rw[drop_drop];congr 1;omega
 rw[e];exact((List.drop_sublist _ _).filter _).length_le
theorem j8l {l:Cs}{b:Nat}(h:(l.drop b).take 1=[40]):c40 (l.drop (b+1))+1=c40 (l.drop b):=by
 cases e:l.drop b with
 |nil=>rw[e]at h;cases h
 |cons c r =>
  rw[e]at h;have hc:c=40:=by simpa using h
  have e2:l.drop (b+1)=r:=by rw[<-drop_drop,e];rfl
  rw[e2,hc];simp[c40]
def Gd (n:Nat):Option (Part×Cs)->D
 |none=>.non
 |some x=>.tup [pD x.1,.int ((n - x.2.length:Nat):Int)]
noncomputable def rowD (n:Nat):Option (List Part×Cs)->D
 |none=>.non
 |some x=>.tup [.lst (pDs x.1),.int ((n - x.2.length:Nat):Int)]
theorem q5c (n:Nat)(o:Option (Cs×Cs)):txtD n o=Gd n (o.map fun x=>(.txt (strC x.1),x.2)):=by cases o<;>rfl
theorem x2v {l x r:Cs}(h:l=x++r):l.drop (l.length - r.length)=r:=by
 subst h;rw[length_append,Nat.add_sub_cancel,List.drop_left]
theorem cut2 {a b c:TSd}{E:EndsD}{δ:List VL.Slot}(h:∀R,R=c->dSeq a (dSeq b R) E δ):dSeq a (dSeq b c) E δ:=h c rfl
theorem cut1 {a c:TSd}{E:EndsD}{δ:List VL.Slot}(h:∀R,R=c->dSeq a R E δ):dSeq a c E δ:=h c rfl
def y5n (n:Nat):RD:=fun δ Q=>∃(l:Cs)(b:Nat)(st:Bool),δ=[.fz (cD l),.fz (.int b),.fz (.bl st)]/\b<=l.length/\l.length<=1000/\c40 (l.drop b)<n/\Q false (Gd l.length (gc st (l.drop b))) [.no,.no,.no]
def Rn (n:Nat):RD:=fun δ Q=>∃(l:Cs)(b:Nat)(st:Bool),δ=[.fz (cD l),.fz (.int b),.fz (.bl st)]/\b<=l.length/\l.length<=1000/\c40 (l.drop b)<n/\Q false (rowD l.length (rowF st (l.drop b))) [.no,.no,.no]
theorem y7 {n:Nat}{f1 f2 f3:Addr}{fd1 fd2 fd3:FuncData}(u0b:Ent K mg "_law_part_in" Ye ["_law_line","_law_at","_law_starred_here"] f fd)(T:Zs K mg)(u0f:Ent K mg "_law_text_in" We ["_law_line","_law_at"] f1 fd1)(u0a:Ent K mg "_law_name_end" Xe ["_law_line","_law_at"] f2 fd2)(u0e:Ent K mg "_law_row_in" Ze ["_law_line","_law_at","_law_starred_here"] f3 fd3)(u4z:FnOk P w K mg base CX0 (2 * n+2) f3 fd3 ["_law_line","_law_at","_law_starred_here"] (spD (Rn n))):FnOk P w K mg base CX0 (2 * n+3) f fd ["_law_line","_law_at","_law_starred_here"] (spD (y5n (n+1))):=by
 have u5u:=q3h (P:=P) (w:=w) (base:=base) u0f T;have u4h:=q0b (P:=P) (w:=w) (base:=base) u0a T;refine VL.Fun.dok u0b.F qj (fun δ Qd h=>?_) (by decide) (fun cdv A outer s H E δ Qd hr h=>?_)
 ·obtain⟨_,_,_,rfl,_⟩:=h;rfl
 ·obtain⟨l,b,st,rfl,hb,hl,hc,q⟩:=h;have hu:=Qb hr;refine⟨_,(ka (Ia (Ga cb Ra (vb (dv 0) (Fa (dv 1)) (Fa (ja La Ka (dv 1) ia))) qa (za _)) (ma (Ba (Va u5u (hr.mono (by omega)) rfl u0f.g u0f.F.kp u0f.b Ea (aa (dv 0) (aa (dv 1) ba))))) Ma)
   (ka (Ia (dt_w (kg (Vb (dv 2)) (jh (Ga cb Ra (vb (dv 0) (Fa (dv 1)) (Fa (ja La Ka (dv 1) ia))) qa (za _))))) (ma (Ba (Rb (aa (Rb (aa qa (aa (Pa ba) ba))) (aa (ja La Ka (dv 1) ia) ba))))) Ma)
   (ka (Aa (i:=3) qj.nd rfl (Or.inl rfl) (Va u4h (hr.mono (by omega)) rfl u0a.g u0a.F.kp u0a.b Ea (aa (dv 0) (aa (dv 1) ba))))
   (ka (Ia (dt_w (yd (Ga cb Ra (dv 3) (dv 1) (za _)) (je (Ga Vc vc (vb (dv 0) (Fa (dv 3)) (Fa (ja La Ka (dv 3) ia))) qa (za _))))) (ma (Ba Ac)) Ma)
   (ka (Aa (i:=4) qj.nd rfl (Or.inl rfl) (Rb (aa (Pa ba) (aa (ja La Ka (dv 3) ia) ba))))
   (ka (Ia (Ga Vc vc (vb (dv 0) (Fa (ja La Ka (dv 3) ia)) (Fa (ja La Ka (dv 3) ia))) qa (za _)) (ma (Aa (i:=4) qj.nd rfl (Or.inl rfl) (Va u4z (hr.mono (by omega)) rfl u0e.g u0e.F.kp u0e.b Ea (aa (dv 0) (aa (ja La Ka (dv 3) ia) (aa (dv 2) ba)))))) Ma)
   (ka (Ia (dt_w (yd (Ga ig Ee (dv 4) Ac (za _)) (je (Ga Vc vc (vb (dv 0) (Fa (Ha Eb ib (pv 4) ia (fun _ _=>rfl))) (Fa (ja La Ka (Ha Eb ib (pv 4) ia (fun _ _=>rfl)) ia))) qa (za _))))) (ma (Ba Ac)) Ma)
   (ma (Ba (Rb (aa (Rb (aa (vb (dv 0) (Fa (dv 1)) (Fa (dv 3))) (aa (Ha Eb ib (pv 4) ia (fun _ _=>rfl)) ba))) (aa (ja La Ka (Ha Eb ib (pv 4) ia (fun _ _=>rfl)) ia) ba)))))))))))),?_⟩
  have sz:=Sa;have ll:=Na l;unfold cD;have h34:(l.drop b).head? = some 34↔(l.drop b).take 1=[34]:=by cases l.drop b<;>simp
  refine cut2 fun R eR=>?_;walk_at "vd";rw[Vf];simp only[show Str.ofString "\"" = strC [34] from by decide +kernel,gi,Qg];have hq:=q;rw[q3z]at hq;have tl:¬(l.drop b).head? = some 34->¬(st=true/\(l.drop b).head? = some 42)->R { nx:=fun δ'=>Qd false D.non (outS 3 δ'),rt:=fun b d δ'=>Qd b d (outS 3 δ') } [.fz (.str (strC l)),.fz (.int (b:Int)),.fz (.bl st),.no,.no]:=by
   intro n34 n42;rw[if_neg n34,if_neg n42]at hq;subst eR;have ed:(l.drop b).takeWhile isL++(l.drop b).dropWhile isL=l.drop b:=takeWhile_append_dropWhile;have edl:=congrArg List.length ed;rw[length_append,length_drop]at edl;have hed:l.drop (Cd l b)=(l.drop b).dropWhile isL:=take_tw.2;have hen:Cd l b=b+((l.drop b).takeWhile isL).length:=rfl;have hnm:(l.drop b).take (Cd l b - b)=(l.drop b).takeWhile isL:=by rw[hen,Nat.add_sub_cancel_left];exact take_tw.1
   have hel:Cd l b<=l.length:=by rw[hen];omega
   refine cut1 fun R2 eR2=>?_;walk_at "vd";refine⟨l,b,rfl,hb,by omega,?_⟩;walk_at "vd";subst eR2;generalize Cd l b=e at hed hen hnm hel ⊢;refine cut2 fun R3 eR3=>?_;walk_at "vd";by_cases hne:(l.drop b).takeWhile isL=[]
   ·have e0:e=b:=by rw[hen,hne];rfl
    rw[if_pos (by exact_mod_cast e0)];rw[if_pos (.inl hne)]at hq;exact hq
   ·have hpos:0<((l.drop b).takeWhile isL).length:=List.length_pos_iff.mpr hne;rw[if_neg (by omega)];refine⟨by omega,?_⟩;rw[Vf,hed];simp only[Ij,Qg];by_cases h40:((l.drop b).dropWhile isL).head? = some 40
    ·have e40:((l.drop b).dropWhile isL).take 1=[40]:=by rw[lc h40];rfl
     rw[if_neg (by simp[e40])];rw[if_neg (fun z=>z.elim hne (fun y=>y h40))]at hq;refine⟨by omega,by omega,?_⟩;subst eR3;have c1:=j8l (l:=l) (b:=e) (by rw[hed];exact e40);have c2:=Tj l b e (by omega);have ht:l.drop (e+1)=((l.drop b).dropWhile isL).tail:=by rw[<-drop_drop,hed,drop_one]
     have he1:e+1<=l.length:=by
      have:=congrArg List.length (lc h40);rw[<-hed,length_drop,length_cons]at this;omega
     have htl:=congrArg List.length ht;rw[length_drop]at htl;generalize ((l.drop b).dropWhile isL).tail=T at hq ht htl;refine cut1 fun R4 eR4=>?_;have i1:((e:Int)+1)=((e+1:Nat):Int):=by push_cast;rfl
     have i2:((e:Int)+2)=((e+1:Nat):Int)+1:=by push_cast;omega
     walk_at "vd";rw[i1,i2,Vf,ht];simp only[Pg,Qg];refine⟨by omega,?_⟩;have fin:∀X:Option (List Part×Cs),(∀x,X=some x->∃y,T=y++x.2)->Qd false (Gd l.length (match X with|none=>none|some x=>if x.2.head? = some 41 then some (.tup (strC ((l.drop b).takeWhile isL)) x.1,x.2.tail) else none)) [.no,.no,.no] ->
       R4 { nx:=fun δ'=>Qd false D.non (outS 3 δ'),rt:=fun b d δ'=>Qd b d (outS 3 δ') } [.fz (.str (strC l)),.fz (.int (b:Int)),.fz (.bl st),.fz (.int (e:Int)),.fz (rowD l.length X)]:=by
      intro X hX hq;subst eR4;cases X with
      |none =>
       unfold rowD;walk_at "vd";exact hq
      |some x =>
       obtain⟨ps,r⟩:=x;obtain⟨y,hy⟩:=hX _ rfl;unfold rowD;walk_at "vd";have hsuf:l.drop (l.length - r.length)=r:=x2v (x:=l.take (e+1)++y) (by rw[append_assoc,<-hy,<-ht,take_append_drop]);have hrl:r.length<=l.length:=by
        have:=congrArg List.length hy;rw[length_append]at this;dsimp only at this;omega
       rw[Vf,hsuf];simp only[Pg,Qg];refine⟨by omega,?_⟩;dsimp only at hq;by_cases h41:r.head? = some 41
       ·rw[if_pos h41]at hq;rw[if_neg (by rw[lc h41];simp)];refine⟨by omega,by omega,by omega,?_⟩;rw[Uf (by omega),hnm];have hr1:=congrArg List.length (lc h41);rw[length_cons]at hr1;have e9:l.length - r.tail.length=(l.length - r.length)+1:=by omega
        simp only[Gd,pD,e9]at hq
        exact_mod_cast hq
       ·rw[if_neg h41]at hq;rw[if_pos (decide_eq_false fun z=>h41 (by
         cases r with
         |nil=>cases z
         |cons a r=>cases z;rfl))]
        exact hq
     by_cases h41:T.head? = some 41
     ·rw[if_pos h41]at hq;rw[if_neg (by rw[lc h41];simp)];have e9:l.length - T.length=e+1:=by omega
      have:=fin (some ([],T)) (fun x hx=>by cases hx;exact⟨[],rfl⟩) hq;unfold rowD at this;dsimp only at this;rw[e9]at this;exact this
     ·rw[if_neg h41]at hq;rw[if_pos (decide_eq_false fun z=>h41 (by
       cases T with
       |nil=>cases z
       |cons a r=>cases z;rfl))]
      refine⟨l,e+1,st,rfl,he1,hl,by omega,?_⟩;rw[ht];walk_at "vd";refine fin (rowF st T) (fun x hx=>?_) hq;obtain⟨ps,r⟩:=x;obtain⟨_,k2,_⟩:=(Kg (by omega) _ _).mp hx;exact⟨_,k2⟩
    ·rw[if_pos (decide_eq_false fun z=>h40 (by
      cases hx:(l.drop b).dropWhile isL with
      |nil=>rw[hx]at z;cases z
      |cons a r=>rw[hx]at z;cases z;rfl))]
     rw[if_pos (.inr h40)]at hq;exact hq
  refine⟨by omega,?_⟩;by_cases g34:(l.drop b).head? = some 34
  ·rw[if_pos (h34.mp g34)];rw[if_pos g34]at hq;have hlt:b<l.length:=by
    have:=congrArg List.length (lc g34);rw[length_drop,length_cons]at this;omega
   refine⟨l,b,rfl,hlt,hl,?_⟩;have e1:l.drop (b+1)=(l.drop b).tail:=by rw[<-drop_drop,drop_one]
   rw[q5c,e1];exact hq
  ·rw[if_neg (fun z=>g34 (h34.mpr z))];have h42:(l.drop b).head? = some 42↔(l.drop b).take 1=[42]:=by cases l.drop b<;>simp
   cases st with
   |false=>exact tl g34 (by simp)
   |true =>
    rw[if_pos rfl];refine⟨by omega,?_⟩;by_cases g42:(l.drop b).head? = some 42
    ·rw[if_pos (h42.mp g42)];rw[if_neg g34,if_pos ⟨rfl,g42⟩]at hq;refine⟨by omega,by omega,by omega,?_⟩;have hlt:l.length - (l.drop b).tail.length=b+1:=by
      have:=congrArg List.length (lc g42);rw[length_drop,length_cons]at this;omega
     simp only[Gd,pD,pDs,hlt]at hq;rw[<-gi]
     exact_mod_cast hq
    ·rw[if_neg (fun z=>g42 (h42.mpr z))];exact tl g34 (fun z=>g42 z.2)
noncomputable def be (st:Bool)(acc:List Part)(r:Cs):Option (List Part×Cs):=if r.head? = some 32 then(match rowF st r.tail with|none=>none|some y=>some (acc++y.1,y.2)) else some (acc,r)
theorem Sn (st:Bool)(l:Cs):rowF st l=match gc st l with|none=>none|some x=>be st [x.1] x.2:=by
 rw[j5h];cases gc st l with
 |none=>rfl
 |some x=>rfl
theorem x8w {st:Bool}{acc:List Part}{r:Cs}(h:r.head? = some 32):be st acc r=match gc st r.tail with|none=>none|some x=>be st (acc++[x.1]) x.2:=by
 unfold be;rw[if_pos h,Sn];cases gc st r.tail with
 |none=>rfl
 |some x =>
  dsimp only;unfold be;by_cases h2:x.2.head? = some 32
  ·rw[if_pos h2,if_pos h2];cases rowF st x.2.tail with
   |none=>rfl
   |some y=>simp
  ·rw[if_neg h2,if_neg h2]
theorem q6d {n:Nat}{f1:Addr}{fd1:FuncData}(u0e:Ent K mg "_law_row_in" Ze ["_law_line","_law_at","_law_starred_here"] f fd)(T:Zs K mg)(u0b:Ent K mg "_law_part_in" Ye ["_law_line","_law_at","_law_starred_here"] f1 fd1)(u4o:FnOk P w K mg base CX0 (2 * n+3) f1 fd1 ["_law_line","_law_at","_law_starred_here"] (spD (y5n (n+1)))):FnOk P w K mg base CX0 (2 * (n+1)+2) f fd ["_law_line","_law_at","_law_starred_here"] (spD (Rn (n+1))):=by
 refine VL.Fun.dok u0e.F rj (fun δ Qd h=>?_) (by decide) (fun cdv A outer s H E δ Qd hr h=>?_)
 ·obtain⟨_,_,_,rfl,_⟩:=h;rfl
 ·obtain⟨l,b,st,rfl,hb,hl,hc,q⟩:=h;have hu:=Qb hr;refine⟨_,(ka (Aa (i:=3) rj.nd rfl (Or.inl rfl) (Pa ba))
   (ka (Cf PassesOwn.never (dt_w (yd (gh (fh hu) cg (pv 3) (Pa ba) (za _)) (je (Ga cb Ra (vb (dv 0) (Fa (dv 1)) (Fa (ja La Ka (dv 1) ia))) qa (za _))))) (ka (Aa (i:=4) rj.nd rfl (Or.inl rfl) (Va u4o (hr.mono (by omega)) rfl u0b.g u0b.F.kp u0b.b Ea (aa (dv 0) (aa (ja La Ka (dv 1) (Tk Kp yo rfl T.z_int boot_int (aa (Bp (Gp hu) Dk (pv 3) (Pa ba) (za _)) ba))) (aa (dv 2) ba)))))
   (ka (Ia (Ga ig Ee (dv 4) Ac (za _)) (ma (Ba Ac)) Ma)
   (ka (Tb (Sb ac PySem.F.slot_list_append PySem.F.type_list_append zb (pv 3) (aa (Ha Eb ib (pv 4) ia (fun _ _=>rfl)) ba)))
   (ma (Aa (i:=1) rj.nd rfl (Or.inl rfl) (Ha Eb ib (pv 4) ia (fun _ _=>rfl))))))))
   (ma (Ba (Rb (aa (dv 3) (aa (dv 1) ba))))))),?_⟩
  have sz:=Sa;have ll:=Na l;unfold cD;walk_at "vd";refine⟨by omega,[4],fun δ=>∃(k:Nat)(acc:List Part),b<=k/\k<=l.length/\acc.length<=k/\((acc=[]/\k=b)\/(acc≠[]/\rowF st (l.drop b)=be st acc (l.drop k)))/\δ=[.fz (.str (strC l)),.fz (.int (k:Int)),.fz (.bl st),.ob false (.lst (pDs acc)),.no],fun δ=>l.length - inAt 1 δ,⟨b,[],le_refl _,hb,zero_le _,.inl ⟨rfl,rfl⟩,by simp[fgt];rfl⟩,?_⟩;rintro δ ⟨k,acc,hk0,hk,hac,hinv,rfl⟩;have pl:=Lg acc;have cc:=Tj l b k hk0;have go:∀(m:Nat)(p:Part)(r:Cs),k<=m->m<=l.length->gc st (l.drop m)=some (p,r)->rowF st (l.drop b)=be st (acc++[p]) r->(pDs acc).length<sizeLine/\(∃(k_1:Nat)(acc_1:List Part),b<=k_1/\k_1<=l.length/\acc_1.length<=k_1/\((acc_1=[]/\k_1=b)\/(acc_1≠[]/\rowF st (l.drop b)=be st acc_1 (l.drop k_1)))/\([.fz (.str (strC l)),.fz (.int ((l.length - r.length:Nat):Int)),.fz (.bl st),.ob false (.lst (pDs acc++[pD p])),.no]:List VL.Slot)=[.fz (.str (strC l)),.fz (.int (k_1:Int)),.fz (.bl st),.ob false (.lst (pDs acc_1)),.no])/\l.length - (l.length - r.length)<l.length - k:=by
   intro m p r hkm hml hp hro;have h1:=Rm hp;rw[length_drop]at h1;obtain⟨e1,_⟩:=(Dj (lt_succ_self _) p r).mp hp;have hsuf:l.drop (l.length - r.length)=r:=x2v (x:=l.take m++wr1 p) (by rw[append_assoc,<-e1,take_append_drop]);refine⟨by omega,⟨l.length - r.length,acc++[p],by omega,by omega,by simp;omega,.inr ⟨by simp,by rw[hsuf];exact hro⟩,by rw[dn];rfl⟩,by omega⟩
  walk_at "vd";refine⟨by omega,?_⟩;rcases hinv with ⟨rfl,rfl⟩|⟨hne,hro⟩
  ·rw[if_pos (show(pDs []).isEmpty=true from rfl)];refine⟨by omega,l,k,st,by simp[pDs,cD],hk,hl,by omega,?_⟩;cases hp:gc st (l.drop k) with
   |none =>
    have hr0:rowF st (l.drop k)=none:=by rw[Sn,hp]
    unfold Gd;walk_at "vd";rw[hr0]at q;exact q
   |some x =>
    obtain⟨p,r⟩:=x;have hr0:rowF st (l.drop k)=be st ([]++[p]) r:=by rw[Sn,hp];rfl
    have g1:=go k p r (le_refl _) hk hp hr0;unfold Gd;walk_at "vd";exact g1
  ·have hie:(pDs acc).isEmpty=false:=by
    cases acc with
    |nil=>exact absurd rfl hne
    |cons a r=>rfl
   rw[if_neg (by rw[hie];simp)];refine⟨by omega,?_⟩;rw[Vf];simp only[Jj,Qg];by_cases h32:(l.drop k).head? = some 32
   ·have ht:l.drop (k+1)=(l.drop k).tail:=by rw[<-drop_drop,drop_one]
    have hk1:k+1<=l.length:=by
     have:=congrArg List.length (lc h32);rw[length_drop,length_cons]at this;omega
    have c3:=Tj l k (k+1) (by omega);rw[if_pos (by rw[lc h32];rfl)];refine⟨by omega,l,k+1,st,by rw[if_pos hie];push_cast;rfl,hk1,hl,by omega,?_⟩;rw[x8w h32,<-ht]at hro;cases hp:gc st (l.drop (k+1)) with
    |none =>
     rw[hp]at hro;unfold Gd;walk_at "vd";rw[hro]at q;exact q
    |some x =>
     obtain⟨p,r⟩:=x;rw[hp]at hro;have g1:=go (k+1) p r (by omega) hk1 hp hro;unfold Gd;walk_at "vd";exact g1
   ·rw[if_neg (fun z=>h32 (by
     cases hx:l.drop k with
     |nil=>rw[hx]at z;cases z
     |cons a r=>rw[hx]at z;cases z;rfl))]
    have hro2:rowF st (l.drop b)=some (acc,l.drop k):=by rw[hro];unfold be;rw[if_neg h32]
    rw[hro2]at q;have e9:l.length - (l.drop k).length=k:=by rw[length_drop];omega
    simp only[rowD,e9]at q;exact⟨by omega,q⟩
theorem q8y {f1 f2 f3 f4:Addr}{fd1 fd2 fd3 fd4:FuncData}(u0b:Ent K mg "_law_part_in" Ye ["_law_line","_law_at","_law_starred_here"] f1 fd1)(T:Zs K mg)(u0f:Ent K mg "_law_text_in" We ["_law_line","_law_at"] f2 fd2)(u0a:Ent K mg "_law_name_end" Xe ["_law_line","_law_at"] f3 fd3)(u0e:Ent K mg "_law_row_in" Ze ["_law_line","_law_at","_law_starred_here"] f4 fd4):∀n,FnOk P w K mg base CX0 (2 * n+2) f4 fd4 ["_law_line","_law_at","_law_starred_here"] (spD (Rn n)):=by
 intro n;induction n with
 |zero=>exact Og fun δ Q h=>by obtain⟨_,_,_,_,_,_,h,_⟩:=h;exact not_lt_zero _ h
 |succ n ih=>exact q6d u0e T u0b (y7 u0b T u0f u0a u0e ih)
structure LnC (l:Cs):Prop where
 g:LnG l
 c:c40 l<=45
theorem Wb (a b:Cs):c40 (a++b)=c40 a+c40 b:=by simp[c40]
theorem q4a (x y:Str):(partition x y).2.1=y\/((partition x y).2.1 = ""/\(partition x y).2.2 = ""):=by
 unfold partition;split
 ·exact .inl rfl
 ·exact .inr ⟨rfl,rfl⟩
theorem tw_len (l:Cs):(l.takeWhile isL).length=l.length↔l.all isL=true:=by
 induction l with
 |nil=>simp
 |cons c l ih =>
  rw[takeWhile_cons,all_cons];cases h:isL c with
  |true=>rw[if_pos rfl,Bool.true_and,<-ih];simp
  |false=>rw[if_neg (by simp)];simp
theorem j1a (l:Cs)(h:l≠[]):(Cd l 0=l.length)↔isNm l=true:=by
 unfold Cd isNm;rw[drop_zero,Nat.zero_add,decide_eq_true h,Bool.true_and];exact tw_len l
theorem y9s:Kb []=none:=by decide +kernel
theorem q6n {s:Str}(h:LnC (csS s)):LnC (csS (partition s " -> ").1)/\LnC (csS (partition s " -> ").2.2):=by
 obtain⟨k1,k2⟩:=Mn h.g;have hs:=partition_sum s " -> ";generalize partition s " -> " = t at hs k1 k2;obtain⟨a,m,c⟩:=t;dsimp only at hs k1 k2 ⊢;have e:csS s=csS a++csS m++csS c:=by rw[<-ae,<-ae,hs]
 have hc:=h.c;rw[e,Wb,Wb]at hc;exact⟨⟨k1,by omega⟩,⟨k2,by omega⟩⟩
theorem y8n (s:Str):Qc s=if (partition s " -> ").1 = "" \/ Cd (csS (partition s " -> ").1) 0≠(partition s " -> ").1.length\/(partition s " -> ").2.1 = "" then none else(Kb (csS (partition s " -> ").2.2)).map fun p=>((partition s " -> ").1,p):=by
 have hp:=q4a s " -> ";unfold Qc;generalize partition s " -> " = t at hp;obtain⟨a,m,c⟩:=t;dsimp only at hp ⊢;by_cases ha:a = ""
 ·subst ha;rw[if_pos (Or.inl rfl),if_neg (by decide +kernel)]
 ·have hn:csS a≠[]:=fun z=>ha (uj (by rw[z];rfl));have hi:=j1a _ hn;rw[wb]at hi;by_cases h1:isNm (csS a)=true
  ·rw[if_pos h1];split
   ·next h =>
    rcases h with h|h|h
    ·exact(ha h).elim
    ·exact(h (hi.mpr h1)).elim
    ·rcases hp with e|⟨_,e⟩
     ·rw[e]at h;exact absurd h (by decide)
     ·rw[e,show csS "" = [] from rfl,y9s];rfl
   ·rfl
  ·rw[if_neg h1,if_pos (.inr (.inl fun z=>h1 (hi.mp z)))]
mutual
theorem dpc1:∀p:Part,ok1 p=true->dp1 p<=c40 (wr1 p)+1
 |.txt s,_=>by simp[dp1]
 |.tup n ps,h=>by
  by_cases hn:n = "*"
  ·subst hn;simp only[ok1,if_true,isEmpty_iff]at h;subst h;simp[dp1,dpL]
  ·simp only[ok1,hn,if_false,and_eq_true]at h;have:=dpcL ps h.2;have e:wr1 (.tup n ps)=csS n++(40::(va [32] (wrL ps)++[41])):=by simp[wr1,hn]
   have e2:c40 (40::(va [32] (wrL ps)++[41]))=1+c40 (va [32] (wrL ps)):=by simp[c40];omega
   rw[e,Wb,e2];simp only[dp1];omega
theorem dpcL:∀ps:List Part,okL ps=true->dpL ps<=c40 (va [32] (wrL ps))+1
 | [],_=>by simp[dpL]
 |p::ps,h=>by
  simp only[okL,and_eq_true]at h;have h1:=dpc1 p h.1;have h2:=dpcL ps h.2;cases ps with
  |nil=>rw[wrL,wrL,va];simp only[dpL];omega
  |cons q qs =>
   rw[gf [] p _ (by simp),Wb,Wb];simp only[dpL]at h2 ⊢;omega
end
theorem q5b {s:Str}{r:Str×List Part}(h:Qc s=some r)(ln:LnC (csS s)):dpL r.2<=46:=by
 unfold Qc at h;split at h
 ·obtain⟨ps,e,rfl⟩:=map_eq_some_iff.mp h;have l2:=(q6n ln).2;obtain⟨k1,k2⟩:=(ki l2.g.len l2.g.sg _).mp e;by_cases hne:ps=[]
  ·subst hne;simp[dpL]
  ·have e2:va [32] (wrL ps)=csS (partition s " -> ").2.2:=by rw[<-k2];simp[shR,hne]
   have h1:=dpcL ps k1;rw[e2]at h1;have h2:=l2.c;dsimp only;omega
 ·cases h
theorem Tn:∀{i:Nat}{lines:List Str}{rules:List (Str×List Part)},kb i lines=.inr rules->(∀s∈lines,LnC (csS s))->∀r∈rules,dpL r.2<=46
 |i,[],rules,h,_=>by cases h;exact fun r hr=>by simp at hr
 |i,s::lines,rules,h,ok=>by
  rw[kb]at h;cases e:Qc s with
  |none=>rw[e]at h;cases h
  |some x =>
   rw[e]at h;cases e2:kb (i+1) lines with
   |inl k=>rw[e2]at h;cases h
   |inr xs =>
    rw[e2]at h;cases h;have b:=Tn e2 fun s hs=>ok s (mem_cons_of_mem _ hs);intro r hr;rcases mem_cons.mp hr with rfl|hr
    ·exact q5b e (ok s mem_cons_self)
    ·exact b r hr
noncomputable def optR:Option (Str×List Part)->D
 |none=>.non
 |some r=>Ya r
def x2d:RD:=fun δ Q=>∃s:Str,δ=[.fz (.str s)]/\LnC (csS s)/\Q false (optR (Qc s)) [.no]
theorem x7e {f1 f2 f3 f4:Addr}{fd1 fd2 fd3 fd4:FuncData}(u0t:Ent K mg "_law_rule_in" Mh ["_law_row"] f fd)(T:Zs K mg)(u0b:Ent K mg "_law_part_in" Ye ["_law_line","_law_at","_law_starred_here"] f1 fd1)(u0f:Ent K mg "_law_text_in" We ["_law_line","_law_at"] f2 fd2)(u0a:Ent K mg "_law_name_end" Xe ["_law_line","_law_at"] f3 fd3)(u0e:Ent K mg "_law_row_in" Ze ["_law_line","_law_at","_law_starred_here"] f4 fd4):FnOk P w K mg base CX0 103 f fd ["_law_row"] (spD x2d):=by
 have u4z:=q8y (P:=P) (w:=w) (base:=base) u0b T u0f u0a u0e 50;have u4h:=q0b (P:=P) (w:=w) (base:=base) u0a T;refine VL.Fun.dok u0t.F Th (fun δ Qd h=>?_) (by decide) (fun cdv A outer s H E δ Qd hr h=>?_)
 ·obtain⟨_,rfl,_⟩:=h;rfl
 ·obtain⟨s,rfl,ln,q⟩:=h;have hu:=Qb hr;refine⟨_,(ka (Pp (j5g (dv 0) qa) (ng (n:=3) rfl (Xc (Pb (i:=1) Th.nd rfl (Or.inl rfl)) (Xc (Pb (i:=2) Th.nd rfl (Or.inl rfl)) (Xc (Pb (i:=3) Th.nd rfl (Or.inl rfl)) lg)))))
   (ka (Ia (dt_w (yd (Ga cb Ra (dv 1) qa (za _)) (yd (Ga Vc vc (Va u4h (hr.mono (by decide)) rfl u0a.g u0a.F.kp u0a.b Ea (aa (dv 1) (aa ia ba))) (Ib ke de rfl T.z_len PySem.boot_len (pv 1)) (za _)) (je (Ga cb Ra (dv 2) qa (za _)))))) (ma (Ba Ac)) Ma)
   (ka (Ia (Ga cb Ra (dv 3) qa (za _)) (ma (Ba (Rb (aa (dv 1) (aa (Pa ba) ba))))) Ma)
   (ka (Aa (i:=4) Th.nd rfl (Or.inl rfl) (Va u4z (hr.mono (by decide)) rfl u0e.g u0e.F.kp u0e.b Ea (aa (dv 3) (aa ia (aa Je ba)))))
   (ka (Ia (dt_w (yd (Ga ig Ee (dv 4) Ac (za _)) (je (Ga Vc vc (Ha Eb ib (pv 4) ia (fun _ _=>rfl)) (Ib ke de rfl T.z_len PySem.boot_len (pv 3)) (za _))))) (ma (Ba Ac)) Ma)
   (ma (Ba (Rb (aa (dv 1) (aa (Ha Eb ib (pv 4) ia (fun _ _=>rfl)) ba)))))))))),?_⟩
  have sz:=Sa;have hls:=ln.g.len;rw[wb]at hls;obtain⟨lnA,lnC⟩:=q6n ln;rw[y8n]at q;refine cut1 fun R eR=>?_;walk_at "vd";have ePt:partition s (Str.ofString " -> ")=partition s " -> ":=rfl;rw[ePt];generalize partition s " -> " = pt at lnA lnC q ⊢;obtain⟨a,m,c⟩:=pt;dsimp only at lnA lnC q ⊢;have hla:=lnA.g.len;have hla2:=wb a;have hlc:=lnC.g.len;have hlc2:=wb c;refine⟨by decide,by omega,?_⟩;subst eR;refine cut2 fun R2 eR2=>?_;walk_at "vd";by_cases ha:a = ""
  ·rw[if_pos ha];rw[if_pos (.inl ha)]at q;exact q
  rw[if_neg ha];refine⟨csS a,0,by rw[bc];rfl,zero_le _,by omega,?_⟩;walk_at "vd";refine⟨by omega,?_⟩;by_cases hn:Cd (csS a) 0=a.length
  ·rw[if_neg (by rw[decide_eq_true (by rw[hn])];simp)];by_cases hm:m = ""
   ·rw[if_pos hm];rw[if_pos (.inr (.inr hm))]at q;exact q
   ·rw[if_neg hm];rw[if_neg (by rintro(z|z|z);exact ha z;exact z hn;exact hm z),q4n lnC.g.len lnC.g.sg]at q;unfold li at q;by_cases h45:csS c=[45]
    ·rw[if_pos (uj (by rw[h45];decide +kernel))];rw[if_pos h45]at q;exact⟨by omega,by omega,q⟩
    ·rw[if_neg (fun z=>h45 (by rw[z];decide +kernel))];rw[if_neg h45]at q;subst eR2;refine cut1 fun R3 eR3=>?_;walk_at "vd";have hc:=lnC.c;refine⟨csS c,0,true,by unfold cD;rw[bc];rfl,zero_le _,hlc,by rw[drop_zero];omega,?_⟩;rw[drop_zero];subst eR3;cases hrow:rowF true (csS c) with
     |none =>
      rw[hrow]at q;unfold rowD;walk_at "vd";exact q
     |some x =>
      obtain⟨ps,r⟩:=x;obtain⟨_,k2,_⟩:=(Kg (by omega) _ _).mp hrow;have hrl:=congrArg List.length k2;rw[length_append]at hrl;rw[hrow]at q;unfold rowD;walk_at "vd";refine⟨by omega,?_⟩;dsimp only at q;by_cases hr:r=[]
      ·subst hr;rw[if_neg (by rw[decide_eq_true (by simp[hlc2])];simp)];rw[if_pos rfl]at q;exact⟨by omega,q⟩
      ·have h0:r.length≠0:=fun z=>hr (eq_nil_of_length_eq_zero z);rw[if_pos (decide_eq_false (by omega))];rw[if_neg hr]at q;exact q
  ·rw[if_pos (decide_eq_false (by exact_mod_cast hn))];rw[if_pos (.inr (.inl hn))]at q;exact q
noncomputable def dueD:Option (Kd×V)->List D
 |none=>[]
 |some (c,.str n)=>[.str c.str,.str n]
 |some (c,.int n)=>[.str c.str,.int n]
 |some (c,_)=>[.str c.str]
def Hd (pap:Bool)(lines:List Str):D:=if pap=true then(match Hb (csS (lines.headD "")) with|some p=>pD p|none=>.non) else match kb 0 lines with
 |.inl _=>.non
 |.inr fs=>.lst (fs.map Ya)
def x8k:RD:=fun δ Q=>∃(lines:List Str)(pap:Bool),δ=[.fz (.lst (lines.map .str)),.fz (.bl pap)]/\lines.length<=20/\(pap=true->lines≠[])/\(∀s∈lines,LnC (csS s))/\Q false (.tup [.lst (dueD (dueA pap lines)),Hd pap lines]) [.no,.no]
theorem j3r {f1 f2 f3 f4 f5 f6 f7:Addr}{fd1 fd2 fd3 fd4 fd5 fd6 fd7:FuncData}(u2r:Ent K mg "_law_read" dj ["_law_rows","_law_papers"] f fd)(T:Zs K mg)(u0b:Ent K mg "_law_part_in" Ye ["_law_line","_law_at","_law_starred_here"] f1 fd1)(u0f:Ent K mg "_law_text_in" We ["_law_line","_law_at"] f2 fd2)(u0a:Ent K mg "_law_name_end" Xe ["_law_line","_law_at"] f3 fd3)(u0e:Ent K mg "_law_row_in" Ze ["_law_line","_law_at","_law_starred_here"] f4 fd4)(u0t:Ent K mg "_law_rule_in" Mh ["_law_row"] f5 fd5)(u0m:Ent K mg "_law_due_ferry" Jh ["_law_ferry_here"] f6 fd6)(u0l:Ent K mg "_law_stars" Cg ["_law_row"] f7 fd7):FnOk P w K mg base CX0 104 f fd ["_law_rows","_law_papers"] (spD x8k):=by
 have u4o:=y7 (P:=P) (w:=w) (base:=base) u0b T u0f u0a u0e (q8y u0b T u0f u0a u0e 50);have u5v:=x7e (P:=P) (w:=w) (base:=base) u0t T u0b u0f u0a u0e;have u5n:=j8g (P:=P) (w:=w) (base:=base) u0m T u0l;refine VL.Fun.dok u2r.F Uh (fun δ Qd h=>?_) (by decide) (fun cdv A outer s H E δ Qd hr h=>?_)
 ·obtain⟨_,_,rfl,_⟩:=h;rfl
 ·obtain⟨lines,pap,rfl,hn,hne,ok,q⟩:=h;have hu:=Qb hr;refine⟨_,(ka (Ia (Vb (dv 1)) (ka (Aa (i:=2) Uh.nd rfl (Or.inl rfl) (Va u4o (hr.mono (by decide)) rfl u0b.g u0b.F.kp u0b.b Ea (aa (Ha ub gb (pv 0) ia (fun _ _=>rfl)) (aa ia (aa Je ba)))))
   (ka (Ia (dt_w (yd (Ga ig Ee (dv 2) Ac (za _)) (yd (Vb (Ob (Ic T.kit) (yc (K:=K) rfl) rfl T.z_isinstance boot_isinstance (aa (Ha Eb ib (pv 2) ia (fun _ _=>rfl)) (aa (Hc rfl T.z_str boot_str) ba)))) (je (Ga Vc vc (Ha Eb ib (pv 2) ia (fun _ _=>rfl)) (Ob ke de rfl T.z_len PySem.boot_len (aa (Ha ub gb (pv 0) ia (fun _ _=>rfl)) ba)) (za _)))))) (ma (Ba (Rb (aa (Pa (aa qa (aa ia ba))) (aa Ac ba))))) Ma)
   (ma (Ba (Rb (aa (Pa ba) (aa (Ha Eb ib (pv 2) ia (fun _ _=>rfl)) ba))))))) Ma)
   (ka (Aa (i:=2) Uh.nd rfl (Or.inl rfl) (Pa ba))
   (ka (pd PassesOwn.never rfl (qe rfl T.z_range (aa (Ib md Gc rfl T.z_len PySem.boot_len (pv 0)) ba)) (Pb (i:=3) Uh.nd rfl (Or.inl rfl)) (ka (Aa (i:=4) Uh.nd rfl (Or.inl rfl) (Va u5v (hr.mono (by decide)) rfl u0t.g u0t.F.kp u0t.b Ea (aa (Ha ub gb (pv 0) (dv 3) (fun _ _=>rfl)) ba)))
   (ka (Ia (Ga ig Ee (dv 4) Ac (za _)) (ma (Ba (Rb (aa (Pa (aa qa (aa (dv 3) ba))) (aa Ac ba))))) Ma)
   (ma (Tb (Sb ac PySem.F.slot_list_append PySem.F.type_list_append zb (pv 2) (aa (dv 4) ba)))))))
   (ma (Ba (Rb (aa (Va u5n (hr.mono (by decide)) rfl u0m.g u0m.F.kp u0m.b Ea (aa (dv 2) ba)) (aa (dv 2) ba)))))))),?_⟩
  have sz:=Sa;refine cut1 fun R eR=>?_;cases pap with
  |true =>
   cases lines with
   |nil=>exact absurd rfl (hne rfl)
   |cons s0 r =>
    have ok0:=ok s0 mem_cons_self;have q1:Hb (csS s0)=none->Qd false (.tup [.lst [.str "text",.int 0],.non]) [.no,.no]:=fun e=>by
     unfold dueA Hd at q;simp only[if_true,List.headD_cons,e]at q;exact q
    have q2:∀p,Hb (csS s0)=some p->Qd false (.tup [.lst [],pD p]) [.no,.no]:=fun p e=>by
     unfold dueA Hd at q;simp only[if_true,List.headD_cons,e]at q;exact q
    have ep:=q6g ok0.g.len ok0.g.sg;unfold mi at ep;have hl0:=wb s0;have hl1:=ok0.g.len;walk_at "vd";refine⟨csS s0,0,false,by unfold cD;rw[bc];rfl,zero_le _,ok0.g.len,by rw[drop_zero];have:=ok0.c;omega,?_⟩;rw[drop_zero];cases hp:gc false (csS s0) with
    |none =>
     rw[hp]at ep;unfold Gd;walk_at "vd";exact⟨by omega,by omega,q1 ep⟩
    |some x =>
     obtain⟨p,r⟩:=x;have hlt:=Rm hp;rw[hp]at ep;dsimp only at ep;unfold Gd;cases p with
     |txt z =>
      rw[if_neg (by simp[Wf])]at ep;simp only[pD];walk_at "vd";exact⟨by omega,by omega,q1 ep⟩
     |tup n ps =>
      simp only[pD];walk_at "vd";refine⟨by omega,?_⟩;by_cases hr:r=[]
      ·subst hr;rw[if_pos ⟨rfl,rfl⟩]at ep;rw[if_neg (by rw[decide_eq_true (by simp[hl0])];simp)];have:=q2 _ ep;simp only[pD]at this;exact⟨by omega,by omega,this⟩
      ·have h0:r.length≠0:=fun z=>hr (eq_nil_of_length_eq_zero z);rw[if_neg (fun z=>hr z.2)]at ep;rw[if_pos (decide_eq_false (by omega))];exact⟨by omega,by omega,q1 ep⟩
  |false =>
   have q1:∀k,kb 0 lines=.inl k->Qd false (.tup [.lst [.str "text",.int k],.non]) [.no,.no]:=fun k e=>by
    unfold dueA Hd dueR at q;rw[if_neg (by simp),if_neg (by simp),e]at q;exact q
   have q2:∀fs,kb 0 lines=.inr fs->Qd false (.tup [.lst ((dueS (dueF fs)).map .str),.lst (fs.map Ya)]) [.no,.no]:=fun fs e=>by
    unfold dueA Hd dueR at q;rw[if_neg (by simp),if_neg (by simp),e]at q;dsimp only at q;cases hd:dueF fs with
    |none=>rw[hd]at q;exact q
    |some o =>
     obtain⟨b,n⟩:=o;rw[hd]at q;cases b<;>exact q
   walk_at "vd";subst eR;walk_at "vd";refine⟨by omega,by omega,by simp;omega,?_⟩;rw[length_map,toNat_natCast];refine Df [3,4] (fun i δ=>∃rules:List (Str×List Part),rules.length=i/\preR rules (kb (0+i) (lines.drop i))=kb 0 lines/\δ=[.fz (.lst (lines.map .str)),.fz (.bl false),.ob false (.lst (rules.map Ya)),.no,.no]) ⟨[],rfl,x1o _,rfl⟩ ?_ ?_
   ·rintro i δ hi ⟨rules,hrl2,hpr,rfl⟩;rw[drop_eq_getElem_cons hi]at hpr;have hat:atI (lines.map D.str) (i:Int)=some (.str lines[i]):=wc (by rw[getElem?_map,getElem?_eq_getElem hi];rfl);have oki:=ok _ (getElem_mem hi);generalize lines[i]=si at hpr hat oki;walk_at "vd";refine⟨_,hat,si,rfl,oki,?_⟩;rw[kb]at hpr;cases hru:Qc si with
    |none =>
     rw[hru]at hpr;unfold optR;walk_at "vd";have:=q1 (0+i) (by rw[<-hpr];rfl);rw[show(((0+i:Nat)):Int)=(i:Int) by omega]at this;exact⟨by omega,by omega,this⟩
    |some r =>
     rw[hru]at hpr;unfold optR Ya;walk_at "vd";refine⟨by rw[length_map];omega,rules++[r],by simp[hrl2],?_,by rw[map_append];rfl⟩;rw[<-hpr,y7j,show 0+(i+1)=0+i+1 by omega]
   ·rintro δ ⟨rules,hrl2,hpr,rfl⟩;rw[drop_length]at hpr;have hpr':kb 0 lines=.inr rules:=by rw[<-hpr];simp[kb,preR]
    have hdp:=Tn hpr' ok;walk_at "vd";refine⟨rules,rfl,by omega,fun r hr=>by have:=hdp r hr;omega,?_⟩;walk_at "vd";exact⟨by omega,q2 rules hpr'⟩
structure LnR (l:Cs):Prop where
 len:l.length<=995
 sg:l.all sgB=true
 c:c40 l<=43
theorem LnR.ok {l:Cs}(h:LnR l):LnC l:=⟨⟨by have:=h.len;omega,h.sg⟩,by have:=h.c;omega⟩
structure Bnt (l l':Cs):Prop where
 len:l'.length<=l.length+1
 cnt:c40 l' <= c40 l+1
 sg:(∀c∈l,sgB c=true)->∀c∈l',sgB c=true
theorem Bnt.ok {l l':Cs}(h:Bnt l l')(o:LnR l):LnC l':=⟨⟨by have:=h.len;have:=o.len;omega,by have:=o.sg;rw[all_eq_true]at this ⊢;exact h.sg this⟩,by have:=h.cnt;have:=o.c;omega⟩
theorem q1l (c:Nat):c40 [c]<=1:=by unfold c40;exact le_trans (List.length_filter_le _ _) (le_refl _)
theorem Rg (l:Cs)(i:Nat):c40 (l.take i)+c40 (l.drop i)=c40 l:=by rw[<-Wb,take_append_drop]
theorem x1u (l:Cs)(i:Nat):c40 (l.drop (i+1))<=c40 (l.drop i):=Tj l i (i+1) (by omega)
theorem q6e (s:Str)(e:Nat):Txt.slice s none (some (e:Int))=strC ((csS s).take e):=by
 have h:Txt.slice s none (some (e:Int))=Txt.slice (strC (csS s)) (some ((0:Nat):Int)) (some (e:Int)):=by
  rw[bc];unfold Txt.slice Builtin.Str.strSliceIndices;have h1:¬(((0:Nat):Int)<0):=by omega
  have h2:max (0:Int) (min ((0:Nat):Int) (s.length:Int))=0:=by omega
  simp only[gt_iff_lt,Int.zero_lt_one,if_true,if_neg h1,h2]
 rw[h,Uf (zero_le _),drop_zero,Nat.sub_zero]
theorem Vn (s:Str)(b:Nat):Txt.slice s (some (b:Int)) none=strC ((csS s).drop b):=by
 have hl:=wb s;have h:Txt.slice s (some (b:Int)) none=Txt.slice (strC (csS s)) (some (b:Int)) (some ((max b s.length:Nat):Int)):=by
  rw[bc];unfold Txt.slice Builtin.Str.strSliceIndices;have h1:¬(((max b s.length:Nat):Int)<0):=by omega
  have h2:max (0:Int) (min ((max b s.length:Nat):Int) (s.length:Int))=s.length:=by omega
  simp only[gt_iff_lt,Int.zero_lt_one,if_true,if_neg h1,h2]
 rw[h,Uf (by omega),take_of_length_le (by rw[length_drop];omega)]
theorem bnt0 (l:Cs)(i c:Nat)(hc:sgB c=true):Bnt l (l.take i++[c]++l.drop i):=by
 have h1:=Rg l i;have h2:=q1l c;refine⟨by simp only[length_append,length_take,length_drop,length_singleton];omega,by rw[Wb,Wb];omega,fun h x hx=>?_⟩;rcases mem_append.mp hx with hx|hx
 ·rcases mem_append.mp hx with hx|hx
  ·exact h x (mem_of_mem_take hx)
  ·rw[mem_singleton.mp hx];exact hc
 ·exact h x (mem_of_mem_drop hx)
theorem bnt1 (l:Cs)(i c:Nat)(hc:sgB c=true):Bnt l (l.take i++[c]++l.drop (i+1)):=by
 have h1:=Rg l i;have h2:=q1l c;have h3:=x1u l i;refine⟨by simp only[length_append,length_take,length_drop,length_singleton];omega,by rw[Wb,Wb];omega,fun h x hx=>?_⟩;rcases mem_append.mp hx with hx|hx
 ·rcases mem_append.mp hx with hx|hx
  ·exact h x (mem_of_mem_take hx)
  ·rw[mem_singleton.mp hx];exact hc
 ·exact h x (mem_of_mem_drop hx)
theorem bnt2 (l:Cs)(i:Nat):Bnt l (l.take i++l.drop (i+1)):=by
 have h1:=Rg l i;have h3:=x1u l i;refine⟨by simp only[length_append,length_take,length_drop];omega,by rw[Wb];omega,fun h x hx=>?_⟩;rcases mem_append.mp hx with hx|hx
 ·exact h x (mem_of_mem_take hx)
 ·exact h x (mem_of_mem_drop hx)
theorem bnt3 (l:Cs)(i:Nat):Bnt l (l.take i++((l.drop (i+1)).take 1++(l.drop i).take 1)++l.drop (i+2)):=by
 have h1:=Rg l i;have h2:=Rg (l.drop i) 1;have h3:=Rg (l.drop (i+1)) 1;rw[drop_drop]at h2 h3;rw[show i+1+1=i+2 by omega]at h3;refine⟨by simp only[length_append,length_take,length_drop];omega,by rw[Wb,Wb,Wb];omega,fun h x hx=>?_⟩;rcases mem_append.mp hx with hx|hx
 ·rcases mem_append.mp hx with hx|hx
  ·exact h x (mem_of_mem_take hx)
  ·rcases mem_append.mp hx with hx|hx
   ·exact h x (mem_of_mem_drop (mem_of_mem_take hx))
   ·exact h x (mem_of_mem_drop (mem_of_mem_take hx))
 ·exact h x (mem_of_mem_drop hx)
noncomputable def chkD:D->Bool
 |.str s=>decide ((csS s).length<=1000)&&decide (c40 (csS s)<=45)&&(csS s).all sgB
 |_=>false
theorem q8n {xs:List D}{i:Int}{Q:D->Prop}(hx:xs.all chkD=true)(h0:0<=i)(h1:i<xs.length)(q:∀s,LnC (csS s)->Q (.str s)):∃d,atI xs i=some d/\Q d:=by
 obtain⟨d,hd,e⟩:=Me h0 h1;have hc:=all_eq_true.mp hx d hd;refine⟨d,e,?_⟩;cases d with
 |str s =>
  simp only[chkD,and_eq_true,decide_eq_true_eq]at hc;exact q s ⟨⟨hc.1.1,hc.2⟩,hc.1.2⟩
 |_=>cases hc
theorem q0w (s:Str){b e:Nat}(h:b<=e):Txt.slice s (some (b:Int)) (some (e:Int))=strC (((csS s).drop b).take (e - b)):=by
 have:=Uf (l:=csS s) h;rwa [bc]at this
def j8z:RD:=fun δ Q=>∃n:Int,δ=[.fz (.int n)]/\∀s:Str,LnC (csS s)->Q false (.str s) [.no]
theorem j6y (u2k:Ent K mg "_law_odd" Oh ["_law_number"] f fd)(T:Zs K mg):FnOk P w K mg base CX0 1 f fd ["_law_number"] (spD j8z):=by
 refine VL.Fun.dok u2k.F Gg (fun δ Qd h=>?_) (by decide) (fun cdv A outer s H E δ Qd hr h=>?_)
 ·obtain⟨_,rfl,_⟩:=h;rfl
 ·obtain⟨n,rfl,q⟩:=h;refine⟨_,(ka (Aa (i:=1) Gg.nd rfl (Or.inl rfl) (Pa (aa qa (aa qa (aa qa (aa qa (aa qa (aa qa (aa qa (aa qa (aa qa (aa qa (aa qa ba)))))))))))))
   (ka (Aa (i:=1) Gg.nd rfl (Or.inl rfl) (ja Zb Cb (dv 1) (Pa (aa qa (aa qa (aa qa (aa qa (aa qa (aa qa (aa qa (aa qa (aa qa (aa qa (aa qa ba))))))))))))))
   (ka (Aa (i:=1) Gg.nd rfl (Or.inl rfl) (ja Zb Cb (dv 1) (Pa (aa qa (aa qa (aa qa (aa qa (aa qa (aa qa (aa qa (aa qa (aa qa ba))))))))))))
   (ka (Aa (i:=1) Gg.nd rfl (Or.inl rfl) (ja Zb Cb (dv 1) (Pa (aa qa (aa qa (aa qa (aa qa (aa qa (aa qa (aa qa (aa qa ba)))))))))))
   (ka (Aa (i:=1) Gg.nd rfl (Or.inl rfl) (ja Zb Cb (dv 1) (Pa (aa qa (aa qa (aa qa (aa qa (aa qa (aa qa (aa qa ba))))))))))
   (ma (Ba (Ha ub gb (pv 1) (ja Xa Wa (dv 0) (Ib md Gc rfl T.z_len PySem.boot_len (pv 1))) (fun _ _=>rfl))))))))),?_⟩
  have sz:=Sa;walk_at "vd";exact⟨by omega,by omega,by omega,by omega,by omega,by omega,by omega,by omega,by omega,by decide,q8n (by decide +kernel) (emod_nonneg _ (by decide)) (emod_lt_of_pos n (by decide)) q⟩
def x1k:RD:=fun δ Q=>∃(s:Str)(n:Int),δ=[.fz (.str s),.fz (.int n)]/\s.length<=1000/\∀l',Bnt (csS s) l'->Q false (.str (strC l')) [.no,.no]
theorem x8d (u0z:Ent K mg "_law_signed" Ph ["_law_row","_law_number"] f fd)(T:Zs K mg):FnOk P w K mg base CX0 1 f fd ["_law_row","_law_number"] (spD x1k):=by
 refine VL.Fun.dok u0z.F Vh (fun δ Qd h=>?_) (by decide) (fun cdv A outer s H E δ Qd hr h=>?_)
 ·obtain⟨_,_,rfl,_⟩:=h;rfl
 ·obtain⟨s,n,rfl,hs,q⟩:=h;refine⟨_,(ka (Aa (i:=2) Vh.nd rfl (Or.inl rfl) qa)
   (ka (Aa (i:=3) Vh.nd rfl (Or.inl rfl) (Ha Af He (pv 2) (ja Xa Wa (ja Pc Oc (dv 1) ia) (Ib ke de rfl T.z_len PySem.boot_len (pv 2))) (fun _ _=>rfl)))
   (ka (Aa (i:=4) Vh.nd rfl (Or.inl rfl) (ja Xa Wa (ja Pc Oc (dv 1) ia) (ja La Ka (Ib ke de rfl T.z_len PySem.boot_len (pv 0)) ia)))
   (ka (Ia (Ga cb Ra (ja Xa Wa (dv 1) ia) ia (za _)) (ma (Ba (ja Db Bb (ja Db Bb (vb (dv 0) jb (Fa (dv 4))) (dv 3)) (vb (dv 0) (Fa (dv 4)) jb)))) Ma)
   (ka (Ia (Ga cb Ra (ja Xa Wa (dv 1) ia) ia (za _)) (ma (Ba (ja Db Bb (ja Db Bb (vb (dv 0) jb (Fa (dv 4))) (dv 3)) (vb (dv 0) (Fa (ja La Ka (dv 4) ia)) jb)))) Ma)
   (ka (Ia (Ga cb Ra (ja Xa Wa (dv 1) ia) ia (za _)) (ma (Ba (ja Db Bb (vb (dv 0) jb (Fa (dv 4))) (vb (dv 0) (Fa (ja La Ka (dv 4) ia)) jb)))) Ma)
   (ka (Aa (i:=5) Vh.nd rfl (Or.inl rfl) (ja Db Bb (vb (dv 0) (Fa (ja La Ka (dv 4) ia)) (Fa (ja La Ka (dv 4) ia))) (vb (dv 0) (Fa (dv 4)) (Fa (ja La Ka (dv 4) ia)))))
   (ma (Ba (ja Db Bb (ja Db Bb (vb (dv 0) jb (Fa (dv 4))) (dv 5)) (vb (dv 0) (Fa (ja La Ka (dv 4) ia)) jb))))))))))),?_⟩
  have sz:=Sa;walk_at "vd";have hl:=wb s;have h0:(0:Int)<(s.length:Int)+1:=by omega
  have hlit:(Str.ofString "\"\\()*- >qab~1A").length=14:=by decide +kernel
  obtain⟨c,hc,ec⟩:=Me (xs:=(Str.ofString "\"\\()*- >qab~1A").cps.toList) (i:=n / 3 % ((Str.ofString "\"\\()*- >qab~1A").length:Int)) (emod_nonneg _ (by rw[hlit];decide)) (by
   have h1:(Str.ofString "\"\\()*- >qab~1A").cps.toList.length=14:=by decide +kernel
   rw[h1,hlit];exact emod_lt_of_pos _ (by decide))
  have hc34:sgB c=true:=(by decide +kernel:∀c∈(Str.ofString "\"\\()*- >qab~1A").cps.toList,sgB c=true) c hc;have hsC:({ cps:=#[c] }:Str)=strC [c]:=rfl;obtain⟨i,hi⟩:∃i:Nat,n / 48 % ((s.length:Int)+1)=(i:Int):=⟨_,(Int.toNat_of_nonneg (emod_nonneg _ (by omega))).symm⟩;have hiL:i<=s.length:=by have:=emod_lt_of_pos (n / 48) h0;omega
  refine⟨⟨by decide,by decide⟩,by omega,by omega,by omega,c,ec,?_⟩;rw[hi,hsC,show(i:Int)+1=((i+1:Nat):Int) by push_cast;rfl,show(i:Int)+2=((i+2:Nat):Int) by push_cast;rfl,q6e,Vn,Vn,Vn,q0w s (show i+1<=i+2 by omega),q0w s (show i<=i+1 by omega),show i+2 - (i+1)=1 by omega,show i+1 - i=1 by omega];simp only[Kc,Na,length_append,length_take,length_drop,length_singleton];refine⟨⟨by decide,by decide⟩,by omega,by omega,by decide,ite2 (fun _=>⟨by omega,by omega,by omega,by omega,q _ (bnt0 _ _ _ hc34)⟩) fun _=>⟨by decide,ite2 (fun _=>⟨by omega,by omega,by omega,by omega,q _ (bnt1 _ _ _ hc34)⟩) fun _=>⟨by decide,ite2 (fun _=>⟨by omega,by omega,by omega,q _ (bnt2 _ _)⟩) fun _=>⟨by omega,by omega,by omega,by omega,by omega,by omega,by omega,q _ (bnt3 _ _)⟩⟩⟩⟩
def x5z:RD:=fun δ Q=>∃(rows:List Str)(a b c:Int),δ=[.fz (.lst (rows.map .str)),.fz (.lst [.int a,.int b,.int c])]/\rows.length<=10/\(∀s∈rows,LnR (csS s))/\∀(bb:Bool)(rows':List Str),rows'.length<=11->(∀s∈rows',LnC (csS s))->(0<=a->a<6->rows≠[]->rows' ≠ [])->Q bb (.lst (rows'.map .str)) [.no,.no]
theorem q5j {f1 f2:Addr}{fd1 fd2:FuncData}(u0x:Ent K mg "_law_bent_rows" gj ["_law_rows","_law_draws_here"] f fd)(T:Zs K mg)(u0z:Ent K mg "_law_signed" Ph ["_law_row","_law_number"] f1 fd1)(u2k:Ent K mg "_law_odd" Oh ["_law_number"] f2 fd2):FnOk P w K mg base CX0 2 f fd ["_law_rows","_law_draws_here"] (spD x5z):=by
 have u6c:=x8d (P:=P) (w:=w) (base:=base) u0z T;have u6s:=j6y (P:=P) (w:=w) (base:=base) u2k T;refine VL.Fun.dok u0x.F mm (fun δ Qd h=>?_) (by decide) (fun cdv A outer s H E δ Qd hr h=>?_)
 ·obtain⟨_,_,_,_,rfl,_⟩:=h;rfl
 ·obtain⟨rows,a,b,c,rfl,hn,ok,q⟩:=h;have hu:=Qb hr;refine⟨_,(ka (Aa (i:=2) mm.nd rfl (Or.inl rfl) (ja Xa Wa (Ha ub gb (pv 1) ia (fun _ _=>rfl)) ia))
   (ka (Ia (dt_w (yd (gh (fh hu) cg (pv 0) (Pa ba) (za _)) (je (Ga cb Ra (dv 2) ia (za _))))) (ma (Ba (dm 0))) Ma)
   (ka (Aa (i:=3) mm.nd rfl (Or.inl rfl) (ja Xa Wa (Ha ub gb (pv 1) ia (fun _ _=>rfl)) (Ib md Gc rfl T.z_len PySem.boot_len (pv 0))))
   (ka (Ia (Ga dh Vg (dv 2) ia (za _)) (ma (Ba (ja Zb Cb (ja Zb Cb (Bc (pv 0) jb (Fa (dv 3))) (Pa (aa (Va u6c (hr.mono (by decide)) rfl u0z.g u0z.F.kp u0z.b Ea (aa (Ha ub gb (pv 0) (dv 3) (fun _ _=>rfl)) (aa (Ha ub gb (pv 1) ia (fun _ _=>rfl)) ba))) ba))) (Bc (pv 0) (Fa (ja La Ka (dv 3) ia)) jb)))) Ma)
   (ka (Ia (Ga cb Ra (dv 2) ia (za _)) (ma (Ba (ja Zb Cb (ja Zb Cb (Bc (pv 0) jb (Fa (dv 3))) (Pa (aa (Va u6s (hr.mono (by decide)) rfl u2k.g u2k.F.kp u2k.b Ea (aa (Ha ub gb (pv 1) ia (fun _ _=>rfl)) ba)) ba))) (Bc (pv 0) (Fa (ja La Ka (dv 3) ia)) jb)))) Ma)
   (ka (Ia (Ga cb Ra (dv 2) ia (za _)) (ma (Ba (ja Zb Cb (Bc (pv 0) jb (Fa (dv 3))) (Bc (pv 0) (Fa (ja La Ka (dv 3) ia)) jb)))) Ma)
   (ka (Ia (Ga cb Ra (dv 2) ia (za _)) (ma (Ba (ja Zb Cb (ja Zb Cb (Bc (pv 0) jb (Fa (dv 3))) (Pa (aa (Ha ub gb (pv 0) (dv 3) (fun _ _=>rfl)) ba))) (Bc (pv 0) (Fa (dv 3)) jb)))) Ma)
   (ma (Ba (ja Zb Cb (ja Zb Cb (Bc (pv 0) jb (Fa (dv 3))) (Pa (aa (Ji ub gb (Pa (aa qa (aa qa (aa qa ba)))) (ja Xa Wa (Ha ub gb (pv 1) ia (fun _ _=>rfl)) ia) (fun _ _=>rfl)) ba))) (Bc (pv 0) (Fa (dv 3)) jb))))))))))),?_⟩
  have sz:=Sa;walk_at "vd";have okk:∀s∈rows,LnC (csS s):=fun s hs=>(ok s hs).ok;have fin0:Qd false (D.lst (rows.map D.str)) [.no,.no]:=q _ rows (by omega) okk fun _ _ h=>h;refine⟨by decide,by omega,ite2 (fun _=>fin0) fun he=>ite2 (fun _=>fin0) fun _=>?_⟩;have hpos:0<rows.length:=by
   cases rows with
   |nil=>exact absurd rfl he
   |cons x r=>simp
  rw[length_map];obtain⟨i,hi⟩:∃i:Nat,b % (rows.length:Int)=(i:Int):=⟨_,(Int.toNat_of_nonneg (emod_nonneg _ (by omega))).symm⟩;have hiL:i<rows.length:=by have:=emod_lt_of_pos b (show(0:Int)<rows.length by omega);omega
  have hsi:atI (rows.map D.str) (i:Int)=some (.str rows[i]):=wc (by rw[getElem?_map,getElem?_eq_getElem hiL];rfl);have oki:=ok _ (getElem_mem hiL);generalize rows[i]=si at hsi oki;have hsl:=oki.len;rw[wb]at hsl;have tk:∀k,(rows.map D.str).take k=(rows.take k).map D.str:=fun k=>by rw[map_take]
  have dk:∀k,(rows.map D.str).drop k=(rows.drop k).map D.str:=fun k=>by rw[map_drop]
  have e1:((i:Int)+1)=((i+1:Nat):Int):=by push_cast;rfl
  have inn:∀(s:Str)(k:Nat),k=i\/k=i+1->LnC (csS s)->(rows.take i++[s]++rows.drop k).length<=11/\∀x∈rows.take i++[s]++rows.drop k,LnC (csS x):=fun s k hk hs=>⟨by simp only[length_append,length_take,length_drop,length_singleton];omega,fun x hx=>by
   rcases mem_append.mp hx with hx|hx
   ·rcases mem_append.mp hx with hx|hx
    ·exact okk x (mem_of_mem_take hx)
    ·rw[mem_singleton.mp hx];exact hs
   ·exact okk x (mem_of_mem_drop hx)⟩
  have fin1:∀(s:Str)(k:Nat),k=i\/k=i+1->LnC (csS s)->Qd true (D.lst ((rows.take i).map D.str++[D.str s]++(rows.drop k).map D.str)) [.no,.no]:=fun s k hk hs=>by
   have:=q true _ (inn s k hk hs).1 (inn s k hk hs).2 fun _ _ _=>by simp
   rw[map_append,map_append]at this;exact this
  rw[hi];refine⟨by omega,ite2 (fun _=>⟨_,hsi,si,c,rfl,by omega,fun l' hb=>?_⟩) fun _=>ite2 (fun _=>⟨c,rfl,fun s hs=>?_⟩) fun _=>ite2 (fun h6=>?_) fun _=>ite2 (fun _=>⟨_,hsi,by omega,?_⟩) fun _=>⟨by omega,by decide,q8n (by decide +kernel) (emod_nonneg _ (by decide)) (emod_lt_of_pos c (by decide)) fun s hs=>⟨by omega,?_⟩⟩⟩
  ·walk_at "vd";rw[e1,we,Oe,tk,dk];simp only[length_append,length_map,length_take,length_drop,length_singleton];exact⟨by omega,by omega,by omega,fin1 _ _ (.inr rfl) (by rw[fb];exact hb.ok oki)⟩
  ·walk_at "vd";rw[e1,we,Oe,tk,dk];simp only[length_append,length_map,length_take,length_drop,length_singleton];exact⟨by omega,by omega,by omega,fin1 _ _ (.inr rfl) hs⟩
  ·rw[e1,we,Oe,tk,dk];simp only[length_map,length_take,length_drop];refine⟨by omega,?_⟩;have:=q true (rows.take i++rows.drop (i+1)) (by simp only[length_append,length_take,length_drop];omega) fun x hx=>by
    rcases mem_append.mp hx with hx|hx
    ·exact okk x (mem_of_mem_take hx)
    ·exact okk x (mem_of_mem_drop hx)
   have:=this fun h0 h1 _=>by omega
   rw[map_append]at this;exact this
  ·rw[we,Oe,tk,dk];simp only[length_append,length_map,length_take,length_drop,length_singleton];exact⟨by omega,by omega,fin1 _ _ (.inl rfl) oki.ok⟩
  ·rw[we,Oe,tk,dk];simp only[length_append,length_map,length_take,length_drop,length_singleton];exact⟨by omega,by omega,fin1 _ _ (.inl rfl) hs⟩
variable {X:Cx}
theorem x5m {s1 s2:Stmt}{rest:List Stmt}{t1 t2:TS}{u:TSd}(V:TSd->TSd)(p1:PS X s1 t1)(p2:PS X s2 t2)(h:DSs X rest u)(hs:∀t,SimS t u->SimS (tSeq t1 (tSeq t2 t)) (V u)):DSs X (s1::s2::rest) (V u):=by
 obtain⟨t,p,s⟩:=h;exact⟨_,Ta p1 (Ta p2 p),hs t s⟩
theorem j7x {α:Type}{xs:List α}{a b:α->D}{te:TEd}{Q:Bool->D->List VL.Slot->Prop}{δ:List VL.Slot}(f:α->D)(hl:xs.length<=sizeLine)
  (h:∀x∈xs,∀P:D->List VL.Slot->Prop,P (f x) (.fz (a x)::.fz (b x)::δ)->te (.fz (a x)::.fz (b x)::δ) fun _ y δ'=>P y δ')(q:Q true (.lst (xs.map f)) δ):qh 2 (xs.map fun x=>.tup [a x,b x]) (oe 2 (me (dgN 0) (me (dgN 1) Bf))) dYes te Q δ:=by
 refine⟨fun r acc δ1=>δ1=δ/\∃pre suf,xs=pre++suf/\r=suf.map (fun x=>.tup [a x,b x])/\acc=pre.map f,⟨rfl,[],xs,rfl,rfl,rfl⟩,?_,?_⟩
 ·rintro d r acc δ1 ⟨rfl,pre,suf,e,er,rfl⟩;cases suf with
  |nil=>cases er
  |cons x suf =>
   cases er;have hm:x∈xs:=by rw[e];simp
   have hlen:pre.length<sizeLine:=by rw[e]at hl;simp at hl;omega
   refine⟨_,rfl,rfl,_,_,rfl,trivial,_,_,rfl,trivial,rfl,?_⟩;unfold dYes;dsimp only;rw[if_pos rfl];exact h x hm (fun y δ'=>(pre.map f).length<sizeLine/\δ'.drop 2=δ1/\∃pre' suf',xs=pre'++suf'/\suf.map (fun x=>D.tup [a x,b x])=suf'.map (fun x=>.tup [a x,b x])/\pre.map f++[y]=pre'.map f) ⟨by simpa using hlen,rfl,pre++[x],suf,by simp[e],rfl,by simp⟩
 ·rintro acc δ1 ⟨rfl,pre,suf,e,er,rfl⟩;cases suf with
  |cons x suf=>cases er
  |nil =>
   rw[append_nil]at e;subst e;exact q
theorem len3 {ms:List Int}(h:ms.length=3):∃a b c,ms=[a,b,c]:=by
 match ms,h with
 | [a,b,c],_=>exact⟨a,b,c,rfl⟩
theorem q2y (ss:List Str):eqbL (ss.map D.str)=true/\depL (ss.map D.str)<=1:=by
 induction ss with
 |nil=>exact⟨rfl,by simp[depL]⟩
 |cons a ss ih=>exact⟨by simp[eqbL,eqb,ih.1],by simp only[map_cons,depL,dep];omega⟩
theorem q7t {l:Cs}(h:∀c∈l,isL c=true):c40 l=0:=by
 unfold c40;rw[List.length_eq_zero_iff,List.filter_eq_nil_iff];intro c hc;have:=h c hc;simp only[decide_eq_true_eq];rintro rfl;exact absurd this (by decide)
theorem j9f:∀s∈txs,c40 (quoC s)<=1:=by decide +kernel
mutual
theorem q7u:∀p:Part,sm1 p=true->c40 (wr1 p)<=Qa p
 |.txt s,h=>j9f s (tx11 h)
 |.tup n ps,h=>by
  by_cases hn:n = "*"
  ·subst hn;simp[wr1,Qa,c40]
  ·simp only[sm1,hn,if_false,and_eq_true]at h;have h1:=Wn ps h.2;have h2:=(yj h.1).1;unfold isNm at h2;rw[and_eq_true,all_eq_true]at h2;have h3:=q7t h2.2;have e:wr1 (.tup n ps)=csS n++(40::(va [32] (wrL ps)++[41])):=by simp[wr1,hn]
   have e2:c40 (40::(va [32] (wrL ps)++[41]))=1+c40 (va [32] (wrL ps)):=by simp[c40];omega
   rw[e,Wb,e2,h3];simp only[Qa];omega
theorem Wn:∀ps:List Part,smL ps=true->c40 (va [32] (wrL ps))<=Da ps
 | [],_=>by simp[wrL,va,c40]
 |p::ps,h=>by
  simp only[smL,and_eq_true]at h;have h1:=q7u p h.1;have h2:=Wn ps h.2;cases ps with
  |nil=>rw[wrL,wrL,va];simp only[Da];omega
  |cons q qs =>
   rw[gf [] p _ (by simp),Wb,Wb];have e:c40 [32]=0:=by decide
   simp only[Da]at h2 ⊢;omega
end
theorem q8z {l:Cs}(h:∀c∈l,sgOk c):l.all sgB=true:=by
 rw[all_eq_true];exact fun c hc=>sg_to (h c hc)
theorem pap_r {p:Part}(h:sm1 p=true)(hz:Qa p<=40):LnR (wr1 p):=by
 have h1:=Br p h;have h2:=q7u p h;exact⟨by omega,q8z (Cr p (Ar p h)),by omega⟩
noncomputable def rowT (r:Str×List Part):Str:=r.1++" -> "++strC (shR r.2)
theorem shR_r {ps:List Part}(h:smL ps=true):(shR ps).length<=24 * Da ps+1/\(∀c∈shR ps,sgOk c)/\c40 (shR ps)<=Da ps:=by
 unfold shR;split
 ·refine⟨by simp,fun c hc=>?_,by simp[c40]⟩;cases mem_singleton.mp hc;exact⟨by decide,by decide,by decide⟩
 ·exact⟨by have:=Dr h;omega,Lm _ (Mm ps (Jm ps h)),Wn ps h⟩
theorem j6 {r:Str×List Part}(o:RuleOk r):LnR (csS (rowT r))/\r.1.length<=20/\(shR r.2).length<=961:=by
 obtain⟨h1,h2⟩:=yj (show nm20 r.1=true from o.nm);obtain⟨k1,k2,k3⟩:=shR_r o.se;have hz:=o.sz;unfold isNm at h1;rw[and_eq_true,all_eq_true]at h1;have e:csS (rowT r)=csS r.1++[32,45,62,32]++shR r.2:=by
  unfold rowT;rw[ae,ae,fb];rfl
 have e4:c40 [32,45,62,32]=0:=by decide
 have e0:=q7t h1.2;have hl:=wb r.1;refine⟨⟨?_,?_,?_⟩,h2,by omega⟩
 ·rw[e];simp only[length_append,length_cons,length_nil];omega
 ·rw[e];refine q8z fun c hc=>?_;rcases mem_append.mp hc with hc|hc
  ·rcases mem_append.mp hc with hc|hc
   ·have:=h1.2 c hc;unfold isL at this;rw[and_eq_true,decide_eq_true_eq,decide_eq_true_eq]at this;exact⟨by omega,by omega,by omega⟩
   ·simp at hc;rcases hc with rfl|rfl|rfl|rfl<;>exact⟨by decide,by decide,by decide⟩
  ·exact k2 c hc
 ·rw[e,Wb,Wb];omega
theorem q9y {pap:Bool}{lines:List Str}(h:dueA pap lines=none):gotA pap lines (Hd pap lines):=by
 unfold dueA at h;unfold gotA Hd;cases pap with
 |true =>
  simp only[if_true]at h ⊢;cases e:Hb (csS (lines.headD "")) with
  |none=>rw[e]at h;cases h
  |some p=>exact⟨p,rfl,rfl⟩
 |false =>
  rw[if_neg (by simp)]at h;rw[if_neg (by simp),if_neg (by simp)];unfold dueR at h;cases e:kb 0 lines with
  |inl k=>rw[e]at h;cases h
  |inr fs =>
   rw[e]at h;cases e2:dueF fs with
   |some o=>simp[e2]at h
   |none=>exact⟨fs,rfl,e2,rfl⟩
theorem j0f {pap:Bool}{lines:List Str}{d d':D}(h:gotA pap lines d)(h':gotA pap lines d'):d=d':=by
 unfold gotA at h h';split at h
 ·rename_i hp;rw[if_pos hp]at h';obtain⟨p,e,rfl⟩:=h;obtain⟨p',e',rfl⟩:=h';rw[e]at e';cases e';rfl
 ·rename_i hp;rw[if_neg hp]at h';obtain⟨fs,e,_,rfl⟩:=h;obtain⟨fs',e',_,rfl⟩:=h';rw[e]at e';cases e';rfl
theorem j8b {pap:Bool}{lines:List Str}{d:D}(h:gotA pap lines d)(hn:lines.length<=20)(hne:pap=true->lines≠[])(ok:∀s∈lines,LnC (csS s)):dep d<100/\okA d=true:=by
 unfold gotA at h;split at h
 ·rename_i hp;cases lines with
  |nil=>exact absurd rfl (hne hp)
  |cons s0 r =>
   obtain⟨p,e,rfl⟩:=h;have ok0:=ok s0 mem_cons_self;have e':Hb (csS s0)=some p:=e;obtain⟨k1,_,_,k4⟩:=(y2b ok0.g.len ok0.g.sg p).mp e';have h1:=dpc1 p k1;rw[k4]at h1;have h2:=ok0.c;have h3:=q8v p;have hrow:Kb (csS s0)=some [p]:=(ki ok0.g.len ok0.g.sg _).mpr ⟨by simp[okL,k1],by rw[<-k4];simp[shR,wrL,va]⟩;have h4:=y3p hrow ok0.g;simp only[Da]at h4;exact⟨by omega,q8e p (by omega)⟩
 ·obtain⟨fs,e,_,rfl⟩:=h;obtain⟨k1,k2⟩:=Sj e fun s hs=>(ok s hs).g;have k3:=Tn e ok;have hz:∀gs:List (Str×List Part),(∀r∈gs,Da r.2<=1000)->Da (gs.map tupP)<=1001 * gs.length:=by
   intro gs;induction gs with
   |nil=>intro _;simp[Da]
   |cons r gs ih =>
    intro h;have h1:=h r mem_cons_self;have h2:=ih fun x hx=>h x (mem_cons_of_mem _ hx);simp only[map_cons,Da,tupP,Qa,length_cons];omega
  have h1:=hz fs k2;have h2:dpL (fs.map tupP)<=47:=Hj _ fun p hp=>by
   obtain⟨r,hr,rfl⟩:=mem_map.mp hp;have:=k3 r hr;simp only[tupP,dp1];omega
  have h3:=rn (fs.map tupP);have h4:=vn (fs.map tupP) (by omega);rw[Nn]at h3 h4;refine⟨by simp only[dep];omega,?_⟩;simp only[okA,h4,Bool.and_true,decide_eq_true_eq,length_map];omega
theorem q3f {F:Hp}{pap:Bool}{lines:List Str}{us:List V}(h:Reps F (dueD (dueA pap lines)) us):us=dueV (dueA pap lines):=by
 cases e:dueA pap lines with
 |none=>rw[e]at h;exact h
 |some o =>
  have hp:=Qn e;rw[e]at h;obtain⟨c,z⟩:=o;have hz:(∃i,z=.int i) \/ ∃s,z=.str s:=by cases c<;>first|exact .inl hp|exact .inr hp
  rcases hz with ⟨i,rfl⟩|⟨s,rfl⟩
  ·obtain⟨_,_,rfl,h1,_,_,rfl,h2,h3⟩:=h;cases h1;cases h2;cases h3;rfl
  ·obtain⟨_,_,rfl,h1,_,_,rfl,h2,h3⟩:=h;cases h1;cases h2;cases h3;rfl
theorem x4q {pap:Bool}{lines:List Str}{x:V}(h:x∈dueV (dueA pap lines)):(∃s,x=.str s) \/ ∃k,x=.int k:=by
 cases e:dueA pap lines with
 |none=>rw[e]at h;simp[dueV]at h
 |some o =>
  have hp:=Qn e;rw[e]at h;obtain⟨c,z⟩:=o;have hz:(∃i,z=.int i) \/ ∃s,z=.str s:=by cases c<;>first|exact .inl hp|exact .inr hp
  simp only[dueV,mem_cons,not_mem_nil,or_false]at h;rcases h with rfl|rfl
  ·exact .inl ⟨_,rfl⟩
  ·rcases hz with ⟨i,rfl⟩|⟨s,rfl⟩
   ·exact .inr ⟨_,rfl⟩
   ·exact .inl ⟨_,rfl⟩
def dTwo (u:TSd):TSd:=fun E δ=>∃(K:W.Frag)(ns:List Int)(lines:List Str)(pap:Bool)(x1 x2 x3:VL.Slot),δ=[.sc K ns,x1,x2,x3,.fz (.bl pap),.fz (.lst (lines.map .str)),.fz (.lst (dueD (dueA pap lines))),.fz (Hd pap lines),.ob false (.lst (lines.map .str))]/\lines.length<=20/\(pap=true->lines≠[])/\(∀s∈lines,LnC (csS s)) /\
 u E [.sc K ns,x1,x2,x3,.fz (.bl pap),.fz (.lst (lines.map .str)),.fz (.lst (dueD (dueA pap lines))),.fz (Hd pap lines),.fz (.lst (lines.map .str))]
def x5b:Sp:=fun vs H Q _=>∃(lines:List Str)(l:Addr)(pap:Bool)(d:D),vs=[.ref l,.bl pap]/\H l=some (.lst (lines.map .str))/\lines.length<=20/\(pap=true->lines≠[])/\(∀s∈lines,LnG (csS s))/\gotA pap lines d/\∀v H',Same H H'->Rep H' d v->Q v H'
theorem j1u (G:FnOk P w K mg base (CX1 P w) 9 f fd ["_law_rows","_law_papers"] (Pn CT CS Ct)):FnOk P w K mg base CX0 9 f fd ["_law_rows","_law_papers"] x5b :=
 noX G fun vs H Q E ⟨lines,l,pap,d,e,hl,hn,hne,ok,gd,q⟩=>⟨lines,l,pap,e,hl,hn,hne,ok,fun d' gd' v H' s r=>q v H' s (by rw[j0f gd gd'];exact r),fun o z=>by rw[x1m gd]at z;cases z⟩
def Uj (K:W.Frag):RD:=fun δ Q=>∃ns:List Int,δ=[.sc K ns]/\Q false (.bl true) [.no]
structure AllE (K:W.Frag)(mg:Str->Option Value):Prop where
 T:Zs K mg
 kts:kitOne K (.type "tuple") (.type "str")=some false
 Y:∃CF CT CN CS Ct Cp Ck,XR K mg CF CT CN CS Ct Cp Ck
 u0i:∃f fd,Ent K mg "all_parts" Qe ["row"] f fd
 u1h:∃f fd,Ent K mg "sign_of" Re ["part"] f fd
 u1r:∃f fd,Ent K mg "stars" Se ["row"] f fd
 u0j:∃f fd,Ent K mg "look_ferry" ug ["ferry"] f fd
 u0c:∃f fd,Ent K mg "is_letter" Vd ["sign"] f fd
 u0w:∃f fd,Ent K mg "is_name" Te ["text"] f fd
 u3b:∃f fd,Ent K mg "is_text" vg ["line"] f fd
 u0q:∃f fd,Ent K mg "token_end" Lf ["line","begin"] f fd
 u1j:∃f fd,Ent K mg "tokens_of" Mf ["line"] f fd
 u1g:∃f fd,Ent K mg "unquoted" Ue ["token"] f fd
 u1u:∃f fd,Ent K mg "lay_part" wg ["holders","token"] f fd
 u0y:∃f fd,Ent K mg "scanned_row" yh ["line"] f fd
 u1w:∃f fd,Ent K mg "quoted" Ve ["text"] f fd
 u2i:∃f fd,Ent K mg "pieces" Nf ["row"] f fd
 u4u:∃f fd,Ent K mg "glue" Pf ["left","right"] f fd
 u2g:∃f fd,Ent K mg "written" xg ["row"] f fd
 u2j:∃f fd,Ent K mg "show_row" zh ["row"] f fd
 u0n:∃f fd,Ent K mg "read_row" Qf ["line"] f fd
 u1o:∃f fd,Ent K mg "read_paper" Ah ["line"] f fd
 u1y:∃f fd,Ent K mg "read_rule" Bh ["line","middle","reader"] f fd
 u0o:∃f fd,Ent K mg "read_rules" Ch ["lines","middle","reader","first"] f fd
 u1n:∃f fd,Ent K mg "read_ferry" Dh ["rows"] f fd
 u1s:∃f fd,Ent K mg "_law_cell_at" bj ["_law_script","_law_k"] f fd
 u1e:∃f fd,Ent K mg "_law_draws" Eh ["_law_script","_law_turn","_law_many"] f fd
 u0g:∃f fd,Ent K mg "_law_pop" yg ["_law_draws_here"] f fd
 u1d:∃f fd,Ent K mg "_law_alike" cj ["_law_found","_law_due"] f fd
 u2q:∃f fd,Ent K mg "_law_name" zg ["_law_k","_law_draw"] f fd
 u3x:∃f fd,Ent K mg "_law_names" Fh ["_law_draw"] f fd
 u1q:∃f fd,Ent K mg "_law_text" Ag ["_law_number"] f fd
 u0h:∃f fd,Ent K mg "_law_plain" Gh ["_law_names_here","_law_draws_here","_law_deep"] f fd
 u0k:∃f fd,Ent K mg "_law_starred" Bg ["_law_row","_law_number"] f fd
 u2f:∃f fd,Ent K mg "_law_ferry" Hh ["_law_names_here","_law_draws_here","_law_many"] f fd
 u0l:∃f fd,Ent K mg "_law_stars" Cg ["_law_row"] f fd
 u0m:∃f fd,Ent K mg "_law_due_ferry" Jh ["_law_ferry_here"] f fd
 u0d:∃f fd,Ent K mg "_law_part_text" Dg ["_law_part"] f fd
 u1i:∃f fd,Ent K mg "_law_row_text" Kh ["_law_row"] f fd
 u0f:∃f fd,Ent K mg "_law_text_in" We ["_law_line","_law_at"] f fd
 u0a:∃f fd,Ent K mg "_law_name_end" Xe ["_law_line","_law_at"] f fd
 u0b:∃f fd,Ent K mg "_law_part_in" Ye ["_law_line","_law_at","_law_starred_here"] f fd
 u0e:∃f fd,Ent K mg "_law_row_in" Ze ["_law_line","_law_at","_law_starred_here"] f fd
 u1x:∃f fd,Ent K mg "_law_kind" Lh ["_law_error"] f fd
 u0t:∃f fd,Ent K mg "_law_rule_in" Mh ["_law_row"] f fd
 u2r:∃f fd,Ent K mg "_law_read" dj ["_law_rows","_law_papers"] f fd
 u0p:∃f fd,Ent K mg "_law_asked" Nh ["_law_rows","_law_papers"] f fd
 u1t:∃f fd,Ent K mg "_law_refused" fj ["_law_rows","_law_papers"] f fd
 u2k:∃f fd,Ent K mg "_law_odd" Oh ["_law_number"] f fd
 u0z:∃f fd,Ent K mg "_law_signed" Ph ["_law_row","_law_number"] f fd
 u0x:∃f fd,Ent K mg "_law_bent_rows" gj ["_law_rows","_law_draws_here"] f fd
theorem j6m (p0q:Ent K mg "law" Eg ["_law_script"] f fd)(U:AllE K mg):FnOk P w K mg base CX0 120 f fd ["_law_script"] (spD (Uj K)):=by
 obtain⟨T,kts,⟨CF,CT,CN,CS,Ct,Cp,Ck,Y⟩,⟨u9g,u8m,u0i⟩,⟨p0g,u9v,u1h⟩,⟨p0r,p0m,u1r⟩,⟨u8n,u7y,u0j⟩,⟨u9h,u8o,u0c⟩,⟨p0h,u9w,u0w⟩,⟨p0i,u9x,u3b⟩,⟨u9i,u8p,u0q⟩,⟨u9j,u8q,u1j⟩,⟨u9y,u9k,u1g⟩,⟨u9z,u9l,u1u⟩,⟨u7z,u7m,u0y⟩,⟨p0n,p0j,u1w⟩,⟨p0o,p0k,u2i⟩,⟨p0t,p0s,u4u⟩,⟨p0l,p0a,u2g⟩,⟨p0b,u9m,u2j⟩,⟨p0c,u9n,u0n⟩,⟨u8r,u8a,u1o⟩,⟨u9o,u8s,u1y⟩,⟨u8t,u8b,u0o⟩,⟨u8u,u8c,u1n⟩,⟨u7n,u7e,u1s⟩,⟨u8v,u8d,u1e⟩,⟨p0d,u9p,u0g⟩,⟨u8w,u8e,u1d⟩,⟨u9q,u8x,u2q⟩,⟨u8y,u8f,u3x⟩,⟨u9r,u8z,u1q⟩,⟨u9a,u8g,u0h⟩,⟨u7o,u7f,u0k⟩,⟨u9b,u8h,u2f⟩,⟨u9c,u8i,u0l⟩,⟨u6w,u6t,u0m⟩,⟨u6x,u6u,u0d⟩,⟨u7g,u6y,u1i⟩,⟨u7p,u7h,u0f⟩,⟨u7i,u6z,u0a⟩,⟨u7q,u7j,u0b⟩,⟨u8j,u7r,u0e⟩,⟨u9s,u9d,u1x⟩,⟨u7s,u7k,u0t⟩,⟨u9t,u9e,u2r⟩,⟨u9f,u8k,u0p⟩,⟨u7t,u7l,u1t⟩,⟨p0e,u9u,u2k⟩,⟨u8l,u7u,u0z⟩,⟨u7a,u6v,u0x⟩⟩:=U;have u5m:=q4q (P:=P) (w:=w) (base:=base) u1e T;have u5w:=j4h (P:=P) (w:=w) (base:=base) u1s T;have u2v:=Vm (P:=P) (w:=w) (base:=base) u0g T;have u6d:=q3y (P:=P) (w:=w) (base:=base) u3x T u2q;have u3w:=Rr (P:=P) (w:=w) (base:=base) u0h T u0g u1q 5;have u6e:=q4w (P:=P) (w:=w) (base:=base) u2f T u0g u1q u0h u0k;have u2a:=x2u (P:=P) (w:=w) (base:=base) u0d T 20;have u5t:=q2t (P:=P) (w:=w) (base:=base) u1i T u0d 20;have u5e:=q2l (P:=P) (w:=w) (base:=base) u1d T 100;have u5o:=q5j (P:=P) (w:=w) (base:=base) u0x T u0z u2k;have u6n:=j3r (P:=P) (w:=w) (base:=base) u2r T u0b u0f u0a u0e u0t u0m u0l;have u4e:=j1t (P:=P) (w:=w) (base:=base) u0n T u0y u1u u1g u0w u0c u1j u0q u3b u2j u2g u2i u1w u4u;have u5g:=j5k (P:=P) (w:=w) (base:=base) u0j T u1r u0i u1h;have u4a:=j2f (P:=P) (w:=w) (base:=base) Y u0o T u1y (p0p u1y T u0n u4e u0w u0c);have u4b:=j0u (P:=P) (w:=w) (base:=base) u0p T u1o (j8i Y u1o T kts u0n u4e u1r u0i u1h) u1n (j6k u1n T u0o u4a u0n u0j u5g (q5f Y u0j T u1r u0i u1h));have u5x:=x3k (P:=P) (w:=w) (base:=base) Y u1t T u0p u1x u4b;have u6f:=j1u (P:=P) (w:=w) (base:=base) u4b;refine VL.Fun.dok p0q.F Bd (fun δ Qd h=>?_) (by decide) (fun cdv A outer s H E δ Qd hr h=>?_)
 ·obtain⟨_,rfl,_⟩:=h;rfl
 ·obtain⟨ns,rfl,q⟩:=h;have hu:=Qb hr;refine⟨_,(ka (Aa (i:=1) Bd.nd rfl (Or.inl rfl) (Ul u5m (hr.mono (by decide)) rfl u1e.g u1e.F.kp u1e.b Ea (pv 0) (aa ia (aa ia ba))))
   (ka (Aa (i:=2) Bd.nd rfl (Or.inl rfl) (Va u6d (hr.mono (by decide)) rfl u3x.g u3x.F.kp u3x.b Ea (aa (Pd (i:=1) u2v (hr.mono (by decide)) rfl u0g.g u0g.F.kp u0g.b Ea (da_o (pv 1) Md)) ba)))
   (ka (Aa (i:=3) Bd.nd rfl (Or.inl rfl) (Ul u5m (hr.mono (by decide)) rfl u1e.g u1e.F.kp u1e.b Ea (pv 0) (aa ia (aa ia ba))))
   (ka (Aa (i:=4) Bd.nd rfl (Or.inl rfl) (gg cb Ra (ja Xa Wa (Ul u5w (hr.mono (by decide)) rfl u1s.g u1s.F.kp u1s.b Ea (pv 0) (aa ia ba)) ia) ia (za _)))
   (ka (Ia (Vb (dv 4)) (ka (Aa (i:=5) Bd.nd rfl (Or.inl rfl) (Pa (aa (Va u2a (hr.mono (by decide)) rfl u0d.g u0d.F.kp u0d.b Ea (aa (Rb (aa (Ha ub gb (pv 2) (ja Xa Wa (Pd (i:=1) u2v (hr.mono (by decide)) rfl u0g.g u0g.F.kp u0g.b Ea (da_o (pv 1) Md)) ia) (fun _ _=>rfl)) (aa (Pd (i:=1) u3w (hr.mono (by decide)) rfl u0h.g u0h.F.kp u0h.b Ea (da_v (dv 2) (da_o (pv 1) (da_v ia Md)))) ba))) ba)) ba)))
   (ma (Qp (pv 3) ia (ja Xa Wa (Ha ub gb (pv 3) ia (fun _ _=>rfl)) ia)))) (ma (El (j:=5) ["_law_name_here","_law_row"] ["_law_script","_law_draws_here","_law_names_here","_law_bent","_law_papers","_law_rows","_law_due","_law_thing","_law_handed"] Bd.nd rfl rfl rfl (show CScopeG (ya Eg) ["_law_script","_law_draws_here","_law_names_here","_law_bent","_law_papers","_law_rows","_law_due","_law_thing","_law_handed"] ["_law_name_here","_law_row"] _ _ from⟨rfl,by decide +kernel,by decide +kernel,by decide +kernel,by decide +kernel⟩) (Ad (Pd (i:=1) u6e (hr.mono (by decide)) rfl u2f.g u2f.F.kp u2f.b Ea (da_v (dv 2) (da_o (pv 1) (da_v (ja Xa Wa (Pd (i:=1) u2v (hr.mono (by decide)) rfl u0g.g u0g.F.kp u0g.b Ea (da_o (pv 1) Md)) ia) Md))))) (fun _ _ _ _ _=>(Xp (m:=2) rfl (Ti (Jc (i:=0) (by decide) (show List.Nodup (["_law_name_here","_law_row","_law_script","_law_draws_here","_law_names_here","_law_bent","_law_papers","_law_rows","_law_due","_law_thing","_law_handed"]:List Str) from by decide +kernel) rfl (Or.inl rfl)) (Ti (Jc (i:=1) (by decide) (show List.Nodup (["_law_name_here","_law_row","_law_script","_law_draws_here","_law_names_here","_law_bent","_law_papers","_law_rows","_law_due","_law_thing","_law_handed"]:List Str) from by decide +kernel) rfl (Or.inl rfl)) Wp)))) (fun _ _ _ _ _=>Sd) (fun _ _ _ _ _=>(ja Db Bb (ja Db Bb (dv 0) qa) (Va u5t (hr.mono (by decide)) rfl u1i.g u1i.F.kp u1i.b Ea (aa (dv 1) ba)))))))
   (ka (Aa (i:=5) Bd.nd rfl (Or.inl rfl) (Va u5o (hr.mono (by decide)) rfl u0x.g u0x.F.kp u0x.b Ea (aa (dv 5) (aa (dv 3) ba))))
   (ka (Pp (Va u6n (hr.mono (by decide)) rfl u2r.g u2r.F.kp u2r.b Ea (aa (dv 5) (aa (dv 4) ba))) (ng (n:=2) rfl (Xc (Pb (i:=6) Bd.nd rfl (Or.inl rfl)) (Xc (Pb (i:=7) Bd.nd rfl (Or.inl rfl)) lg))))
   (ka (Aa (i:=8) Bd.nd rfl (Or.inl rfl) (Tk j4y y5u rfl T.z_list boot_list (aa (dv 5) ba)))
   (x5m dTwo (Lb (Ab Dk (yb u5x (hr.mono (by decide)) rfl u1t.g u1t.F.kp u1t.b .nil Ea (xa (pv 8) (xa (pv 4) Ca))) (pv 6) (za _)) (Ua (uc Yf)) Xb)
   (Lb (PW.pt (Jd (Ab cg (pv 6) (Fc Ca) (za _)) (ce (qi (qc (yb u5e (hr.mono (by decide)) rfl u1d.g u1d.F.kp u1d.b .nil Ea (xa (yb u6f (hr.mono (by decide)) rfl u0p.g u0p.F.kp u0p.b .nil Ea (xa (pv 8) (xa (pv 4) Ca))) (xa (pv 7) Ca)))))))) (Ua (uc Yf)) Xb)
   (ma (Ba (Bp (fh hu) cg (pv 8) (dv 5) (za _)))) ?five))))))))),?_⟩
  case five =>
   intro t st io H0 F0 F δ σ H E Ed I q S;obtain⟨K',ns',lines,pap,x1,x2,x3,rfl,hn,hne,ok,q⟩:=q;have sz:=Sa
   match σ,I.len with
   | [l0,l1,l2,l3,l4,l5,l6,l7,l8],_ =>
   obtain⟨F',_,sJ,J,_⟩:=I.freeze (i:=8) rfl;obtain⟨v4,e4,r4⟩:=J.get 4 _ rfl;obtain⟨v6,e6,r6⟩:=J.get 6 _ rfl;obtain⟨v7,e7,r7⟩:=J.get 7 _ rfl;obtain⟨v8,e8,r8⟩:=J.get 8 _ rfl;cases(show l4=some v4 from e4);cases(show l6=some v6 from e6);cases(show l7=some v7 from e7);cases(show l8=some v8 from e8);cases(show v4=.bl pap from r4);obtain⟨a6,us6,rfl,h6,rs6⟩:=id r6;cases q3f rs6;obtain⟨a8,us8,rfl,h8,rs8⟩:=id r8;cases rs8.strs;have sF:=J.sub;have okg:∀s∈lines,LnG (csS s):=fun s hs=>(ok s hs).g;have fin:∀H9,Same H H9->t E [l0,l1,l2,l3,some (.bl pap),l5,some (.ref a6),some v7,some (.ref a8)] H9:=fun H9 s9=>by
    have J1:=J.back0 (Same.refl _) s9 (J.sub.trans s9) fun b o e1 e2=>by rw[e1]at e2;cases e2
    exact st io H0 F0 _ _ _ H9 E Ed J1 q (S.mono sJ)
   walk_at "rs";refine ifS ?_;walk_at "rs";refine⟨lines,a8,pap,rfl,sF _ _ h8,hn,hne,okg,fun lr H1 nlr s1 hlr=>?_⟩;have sF1:=sF.trans s1;refine⟨lr,rfl,_,hlr,_,sF1 _ _ h6,lt_of_le_of_lt (le_add_right _ 100) hu,.inr ⟨rfl,⟨0,fun i x y e1 e2=>?_,lt_of_le_of_lt (by omega) hu⟩,ifS ?_⟩⟩
   ·rw[e1]at e2;cases e2;rcases x4q (mem_of_getElem? e1) with ⟨s,rfl⟩|⟨k,rfl⟩
    ·exact .str _
    ·exact .int _
   walk_at "rs";refine⟨by omega,fun z hz=>?_⟩;have s7:Same H1 (upd H1 z (.lst [])):=Same.of_new hz;generalize upd H1 z (.lst [])=H7 at s7;have sF7:=sF1.trans s7;have s17:Same H H7:=s1.trans s7;cases hd:dueA pap lines with
   |some o =>
    rw[hd]at h6;exact⟨_,sF7 _ _ h6,lt_of_le_of_lt (le_add_right _ 100) hu,.inl ⟨by obtain⟨c,z⟩:=o;simp[dueV],fin _ s17⟩⟩
   |none =>
    rw[hd]at h6;have gd:=q9y hd;obtain⟨g1,g2⟩:=j8b gd hn hne ok;refine⟨_,sF7 _ _ h6,lt_of_le_of_lt (le_add_right _ 100) hu,.inr ⟨rfl,⟨0,fun i x y e1 e2=>by simp at e2,lt_of_le_of_lt (by omega) hu⟩,?_⟩⟩;refine⟨lines,a8,pap,_,rfl,sF7 _ _ h8,hn,hne,okg,gd,fun v H8 s8 rv=>?_⟩;refine Zc (ds:=[Hd pap lines,Hd pap lines]) (Qd:=fun b d _=>d=.bl true) ⟨_,_,rfl,rv,_,_,rfl,Rep.mono (sF7.trans s8) _ _ r7,rfl⟩ ⟨_,rfl,g1,g2,rfl⟩ fun b d δ' v H9 s9 ed r9=>?_;subst ed;cases(show v=.bl true from r9);refine⟨true,rfl,?_⟩;rw[if_neg (by simp)];exact fin _ (s17.trans (s8.trans s9))
  have sz:=Sa;walk_at "vd";refine⟨ns,2,26,rfl,by omega,by omega,fun ms _=>?_⟩;walk_at "vd";intro y ms;refine⟨y,rfl,fun zs hz hn=>?_⟩;walk_at "vd";refine⟨ns,600,3,rfl,by omega,by omega,fun bs hbs=>?_⟩;obtain⟨x0,x1,x2,rfl⟩:=len3 hbs;walk_at "vd";refine⟨ns,0,rfl,?_⟩;walk_at "vd";refine⟨by decide,?_⟩;have rest:∀(pap:Bool)(rows2:List Str)(z1 z2 z3:VL.Slot),rows2.length<=20->(pap=true->rows2≠[])->(∀s∈rows2,LnC (csS s))->hold x8k (fun b d x=>oe 2 (me (dgN 6) (me (dgN 7) Bf)) d [.sc K ns,z1,z2,z3,.fz (.bl pap),.fz (.lst (rows2.map .str)),.no,.no,.no] (dSeq (dSet 8 (dCB Mi (Sk (dVar 5) dNil))) (dTwo (dRet (dOpV fEqL 8 (dVar 5)))) { nx:=fun δ'=>Qd false D.non (outS 1 δ'),rt:=fun b d δ'=>Qd b d (outS 1 δ') })) Beh.mk [.fz (.lst (rows2.map .str)),.fz (.bl pap)]:=by
   intro pap rows2 z1 z2 z3 hn2 hne2 ok2;refine⟨rows2,pap,rfl,hn2,hne2,ok2,?_⟩;walk_at "vd";refine⟨K,ns,rows2,pap,_,_,_,rfl,hn2,hne2,ok2,?_⟩;walk_at "vd";obtain⟨g3,g4⟩:=q2y rows2;exact⟨_,_,rfl,rfl,.inr ⟨rfl,g3,by omega,q⟩⟩
  by_cases hp:ns.getD 0 0 % 2=1
  ·rw[if_pos hp,decide_eq_true hp];intro x ms;obtain⟨d,hd1,e⟩:=Me (xs:=List.map D.str zs) (i:=x % 8) (jc (by decide)) (by simp only[length_map,hz];exact kc (by decide));obtain⟨n,hnz,rfl⟩:=mem_map.mp hd1;have hnm:NameOk n:=hn n hnz;refine⟨by decide,_,e,en 2 rfl (by omega) hz hn fun ps ms pl=>?_⟩;obtain⟨p1,p2,p3⟩:=PlOk.all 2 ps pl;have p4:szP 2=39:=rfl;have pok:=PlOk.ok 2 ps pl;have smp:sm1 (.tup n ps)=true:=by simp only[sm1,hnm.ne,if_false,show nm20 n=true from hnm,pok,Bool.and_self]
   have lr:=pap_r smp (by simp only[Qa];omega);walk_at "vd";refine⟨by omega,.tup n ps,rfl,by simp only[dp1];omega,smp,by simp only[Qa];omega,?_⟩;unfold cD;walk_at "vd";have y0:=jc (a:=x0) (b:=6) (by decide);have y1:=kc (a:=x0) (b:=6) (by decide);refine⟨by omega,(show(0:Int)<6 by decide),0,rfl,?_⟩;refine⟨[strC (wr1 (.tup n ps))],x0 % 6,x1,x2,rfl,by simp,fun s hs=>by cases mem_singleton.mp hs;rw[fb];exact lr,fun bb rows' hl' ok' hne'=>?_⟩;have hne2:=hne' y0 y1 (by simp);cases bb
   ·walk_at "vd";exact rest true rows' _ _ _ (by omega) (fun _=>hne2) ok'
   ·walk_at "vd";exact rest true rows' _ _ _ (by omega) (fun _=>hne2) ok'
  ·rw[if_neg hp,decide_eq_false hp];intro x ms;have b3:=jc (a:=x) (b:=5) (by decide);have b4:=kc (a:=x) (b:=5) (by decide);refine⟨by decide,zs,ms,_,rfl,b3,by omega,hz,hn,fun fs ms o=>?_⟩;have fl:=o.len;walk_at "vd";refine j7x (xs:=fs) (a:=fun r=>.str r.1) (b:=fun r=>.lst (pDs r.2)) (fun r=>.str (rowT r)) (by omega) (fun r hr P hP=>?_) ?_
   ·have or:=o.ok r hr;obtain⟨_,h2,h3⟩:=j6 or;have h4:=or.dp;have h5:=or.sz;have l4:(" -> ":Str).length=4:=by decide
    have l5:=Na (shR r.2);walk_at "vd";refine⟨by omega,r.2,rfl,by omega,or.se,by omega,?_⟩;unfold cD;walk_at "vd";have e0:(r.1++Str.ofString " -> ").length=r.1.length+4:=by rw[Str.length_append];rfl
    exact⟨by omega,hP⟩
   walk_at "vd";refine⟨fs.map rowT,x0,x1,x2,by rw[List.map_map];rfl,by rw[length_map];omega,fun s hs=>by obtain⟨r,hr,rfl⟩:=mem_map.mp hs;exact(j6 (o.ok r hr)).1,fun bb rows' hl' ok' _=>?_⟩;cases bb
   ·walk_at "vd";exact rest false rows' _ _ _ (by omega) (fun z=>by cases z) ok'
   ·walk_at "vd";exact rest false rows' _ _ _ (by omega) (fun z=>by cases z) ok'
open PyProof.Rows
@[elab_as_elim] theorem lnS {α:Type _}{P:List α->Prop}{n:Nat}(us:List α) (h:us.length=n+1) (k:∀a r,r.length=n->P (a::r)):P us:=by
 cases us with
 |nil=>cases h
 |cons a r=>exact k a r (Nat.succ.inj h)
@[elab_as_elim] theorem ln0 {α:Type _}{P:List α->Prop}(us:List α) (h:us.length=0) (k:P []):P us:=by
 cases us with
 |nil=>exact k
 |cons a r=>cases h
@[elab_as_elim] theorem ln1 {α:Type _}{P:List α->Prop}(us:List α) (h:us.length=1) (k:∀a,P [a]):P us :=
 lnS us h fun a r h=>ln0 (P:=fun r=>P (a::r)) r h (k a)
@[elab_as_elim] theorem ln2 {α:Type _}{P:List α->Prop}(us:List α) (h:us.length=2) (k:∀a b,P [a,b]):P us :=
 lnS us h fun a r h=>ln1 (P:=fun r=>P (a::r)) r h (k a)
@[elab_as_elim] theorem ln3 {α:Type _}{P:List α->Prop}(us:List α) (h:us.length=3) (k:∀a b c,P [a,b,c]):P us :=
 lnS us h fun a r h=>ln2 (P:=fun r=>P (a::r)) r h (k a)
@[elab_as_elim] theorem ln4 {α:Type _}{P:List α->Prop}(us:List α) (h:us.length=4) (k:∀a b c d,P [a,b,c,d]):P us :=
 lnS us h fun a r h=>ln3 (P:=fun r=>P (a::r)) r h (k a)
@[elab_as_elim] theorem ln5 {α:Type _}{P:List α->Prop}(us:List α) (h:us.length=5) (k:∀a b c d e,P [a,b,c,d,e]):P us :=
 lnS us h fun a r h=>ln4 (P:=fun r=>P (a::r)) r h (k a)
def EK (K:W.Frag)(x:Str)(st:Stmt):Prop:=∃f oc od kV doc pm an cdv ct osl,nsIn K mainGlobals x=some (some (.ref f))/\K.lookup f=some ⟨oc,od,.func (fnOf x x (jd st) (Yb st) (ya st) .none kV doc pm an cdv ct),osl⟩/\codeIn K cdv x=true/\keepIn K (.ref f)=true
theorem ek_mk {K:W.Frag}{x:Str}{st:Stmt}{f:Addr}{oc:Value}{od an:Option Addr}{osl:Array (Option Value)}{kV doc pm cdv ct:Value}(a:nsIn K mainGlobals x=some (some (.ref f)))(l:K.lookup f=some ⟨oc,od,.func (fnOf x x (jd st) (Yb st) (ya st) .none kV doc pm an cdv ct),osl⟩)(c:codeIn K cdv x=true)(k:keepIn K (.ref f)=true):EK K x st :=
 ⟨_,_,_,_,_,_,_,_,_,_,a,l,c,k⟩
theorem Ja {K:W.Frag}{mg:Str->Option Value}{h:Heap}{x:Str}{st:Stmt}{ps:List Str}(X:K.In h)(G:h.Ns mainGlobals mg)(e:EK K x st)
  (hb:∀(kV doc pm:Value)(an:Option Addr)(cdv ct:Value)(us:List Value),us.length=ps.length->bindArgs (fnOf x x (jd st) (Yb st) (ya st) .none kV doc pm an cdv ct) ⟨us,[]⟩=pure (ps.zip us):=by intro _ _ _ _ _ _ us hl;repeat (first|exact ln0 us hl rfl|refine lnS us hl fun _ us hl=>?_)):∃f fd,Ent K mg x st ps f fd:=by
 obtain⟨_,_,_,_,_,_,_,_,_,_,a,l,c,k⟩:=e;exact j6i X G hb a l c k
def NZ (K:W.Frag)(x:Str):Prop:=nsIn K mainGlobals x=some none
theorem Rc {K:W.Frag}{mg:Str->Option Value}{h:Heap}{x:Str}(X:K.In h)(G:h.Ns mainGlobals mg)(z:NZ K x):mg x=none:=mg_none_of X G z
noncomputable def Xn (K:W.Frag)(C:Addr):Option Addr:=match K.lookup C with
 |some ⟨_,_,.cls k,_⟩=>(match nsIn K k.ns "__init__" with|some (some (.ref f))=>some f|_=>none)
 |_=>none
theorem xr_mk {K:W.Frag}{h:Heap}{mg:Str->Option Value}{CF CT CN CS Ct Cp Ck fT fN fS:Addr}{od_Twice an_Twice:Option Addr}{sl_Twice:Array (Option Value)}{kV_Twice dc_Twice pm_Twice cd_Twice ct_Twice:Value}{od_Stars an_Stars:Option Addr}{sl_Stars:Array (Option Value)}{kV_Stars dc_Stars pm_Stars cd_Stars ct_Stars:Value}{od_NoText an_NoText:Option Addr}{sl_NoText:Array (Option Value)}{kV_NoText dc_NoText pm_NoText cd_NoText ct_NoText:Value}(X:K.In h)(G:h.Ns mainGlobals mg)
  (z_ValueError:nsIn K mainGlobals "ValueError" = some none)
  (g_FerryError:nsIn K mainGlobals "FerryError" = some (some (.ref CF)))
  (g_Twice:nsIn K mainGlobals "Twice" = some (some (.ref CT)))
  (g_Stars:nsIn K mainGlobals "Stars" = some (some (.ref CS)))
  (g_NoText:nsIn K mainGlobals "NoText" = some (some (.ref Ct)))
  (g_NoName:nsIn K mainGlobals "NoName" = some (some (.ref CN)))
  (g_NoPort:nsIn K mainGlobals "NoPort" = some (some (.ref Cp)))
  (g_Taken:nsIn K mainGlobals "Taken" = some (some (.ref Ck)))
  (q_FerryError:fxIn K CF=true)
  (u_Twice:Xn K CT=some fT)
  (x_Twice:xcIn K CT (.ref CF::mroV) fT=true)(l_Twice:K.lookup fT=some ⟨.type "function",od_Twice,.func (fnOf "__init__" "Twice.__init__" (jd i_Twice) (Yb i_Twice) (ya i_Twice) .none kV_Twice dc_Twice pm_Twice an_Twice cd_Twice ct_Twice),sl_Twice⟩)(c_Twice:codeIn K cd_Twice "Twice.__init__" = true)(k_Twice:keepIn K (.ref fT)=true)(kc_Twice:keepIn K (.ref CT)=true)
  (u_Stars:Xn K CS=some fN)
  (x_Stars:xcIn K CS (.ref CF::mroV) fN=true)(l_Stars:K.lookup fN=some ⟨.type "function",od_Stars,.func (fnOf "__init__" "Stars.__init__" (jd i_Stars) (Yb i_Stars) (ya i_Stars) .none kV_Stars dc_Stars pm_Stars an_Stars cd_Stars ct_Stars),sl_Stars⟩)(c_Stars:codeIn K cd_Stars "Stars.__init__" = true)(k_Stars:keepIn K (.ref fN)=true)(kc_Stars:keepIn K (.ref CS)=true)
  (u_NoText:Xn K Ct=some fS)
  (x_NoText:xcIn K Ct (.ref CF::mroV) fS=true)(l_NoText:K.lookup fS=some ⟨.type "function",od_NoText,.func (fnOf "__init__" "NoText.__init__" (jd i_NoText) (Yb i_NoText) (ya i_NoText) .none kV_NoText dc_NoText pm_NoText an_NoText cd_NoText ct_NoText),sl_NoText⟩)(c_NoText:codeIn K cd_NoText "NoText.__init__" = true)(k_NoText:keepIn K (.ref fS)=true)(kc_NoText:keepIn K (.ref Ct)=true)
  (n_Twice:∀t:Option Kd,kitOne K (tyK CT CS Ct t) (.ref CT)=some (isK t .tw))
  (n_NoName:∀t:Option Kd,kitOne K (tyK CT CS Ct t) (.ref CN)=some (false))
  (n_Stars:∀t:Option Kd,kitOne K (tyK CT CS Ct t) (.ref CS)=some (isK t .ss))
  (n_NoText:∀t:Option Kd,kitOne K (tyK CT CS Ct t) (.ref Ct)=some (isK t .tx))
  (n_NoPort:∀t:Option Kd,kitOne K (tyK CT CS Ct t) (.ref Cp)=some (false))
  (n_Taken:∀t:Option Kd,kitOne K (tyK CT CS Ct t) (.ref Ck)=some (false))
  (n_ValueError:∀t:Option Kd,kitOne K (tyK CT CS Ct t) (.type "ValueError")=some (t.isSome))
  : ∃CF CT CN CS Ct Cp Ck,XR K mg CF CT CN CS Ct Cp Ck:=by
 exact⟨_,_,_,_,_,_,_,mg_none_of X G z_ValueError,mg_of X G g_FerryError,q_FerryError,mg_of X G g_Twice,mg_of X G g_NoName,mg_of X G g_Stars,mg_of X G g_NoText,mg_of X G g_NoPort,mg_of X G g_Taken,⟨_,_,_,_,x_Twice,ah (st:=i_Twice) l_Twice c_Twice k_Twice,.all fun us hl=>ln2 us hl fun _ _=>rfl,l_Twice⟩,⟨_,_,_,_,x_Stars,ah (st:=i_Stars) l_Stars c_Stars k_Stars,.all fun us hl=>ln2 us hl fun _ _=>rfl,l_Stars⟩,⟨_,_,_,_,x_NoText,ah (st:=i_NoText) l_NoText c_NoText k_NoText,.all fun us hl=>ln2 us hl fun _ _=>rfl,l_NoText⟩,kc_Twice,kc_Stars,kc_NoText,n_Twice,n_NoName,n_Stars,n_NoText,n_NoPort,n_Taken,n_ValueError⟩
set_option maxHeartbeats 0 in
theorem all_mk {K:W.Frag}{h:Heap}{mg:Str->Option Value}{uk0 uk1 uk2 uk3 uk4 uk5 uk6:Tok}(X:K.In h)(G:h.Ns mainGlobals mg)(kit:Wk K)(kts:kitOne K (.type "tuple") (.type "str")=some false)(Y:∃CF CT CN CS Ct Cp Ck,XR K mg CF CT CN CS Ct Cp Ck)
  (g0:nsIn K mainGlobals "TEXT_SIGN" = some (some (.str "#" uk0)))
  (g1:nsIn K mainGlobals "STAR" = some (some (.str "*" uk1)))
  (g2:nsIn K mainGlobals "QUOTE" = some (some (.str "\"" uk2)))
  (p2:1<=uk2)(q2:uk2<tk0)
  (g3:nsIn K mainGlobals "NOTHING" = some (some (.str "-" uk3)))
  (g4:nsIn K mainGlobals "FIRST_SIGN" = some (some (.int 32 uk4)))
  (g5:nsIn K mainGlobals "LAST_SIGN" = some (some (.int 126 uk5)))
  (g6:nsIn K mainGlobals "PERCENT" = some (some (.int 37 uk6)))
  (z1:NZ K "list")
  (z2:NZ K "reversed")
  (z3:NZ K "isinstance")
  (z4:NZ K "str")
  (z5:NZ K "len")
  (z6:NZ K "int")
  (z7:NZ K "bool")
  (z8:NZ K "range")
  (z9:NZ K "tuple")
  (z10:NZ K "dict")
  (z11:NZ K "all")
  (z12:NZ K "enumerate")
  (z13:NZ K "ord")
  (z14:NZ K "zip")
  (e1:EK K "all_parts" Qe)
  (e2:EK K "sign_of" Re)
  (e3:EK K "stars" Se)
  (e4:EK K "look_ferry" ug)
  (e5:EK K "is_letter" Vd)
  (e6:EK K "is_name" Te)
  (e7:EK K "is_text" vg)
  (e8:EK K "token_end" Lf)
  (e9:EK K "tokens_of" Mf)
  (e10:EK K "unquoted" Ue)
  (e11:EK K "lay_part" wg)
  (e12:EK K "scanned_row" yh)
  (e13:EK K "quoted" Ve)
  (e14:EK K "pieces" Nf)
  (e15:EK K "glue" Pf)
  (e16:EK K "written" xg)
  (e17:EK K "show_row" zh)
  (e18:EK K "read_row" Qf)
  (e19:EK K "read_paper" Ah)
  (e20:EK K "read_rule" Bh)
  (e21:EK K "read_rules" Ch)
  (e22:EK K "read_ferry" Dh)
  (e23:EK K "_law_cell_at" bj)
  (e24:EK K "_law_draws" Eh)
  (e25:EK K "_law_pop" yg)
  (e26:EK K "_law_alike" cj)
  (e27:EK K "_law_name" zg)
  (e28:EK K "_law_names" Fh)
  (e29:EK K "_law_text" Ag)
  (e30:EK K "_law_plain" Gh)
  (e31:EK K "_law_starred" Bg)
  (e32:EK K "_law_ferry" Hh)
  (e33:EK K "_law_stars" Cg)
  (e34:EK K "_law_due_ferry" Jh)
  (e35:EK K "_law_part_text" Dg)
  (e36:EK K "_law_row_text" Kh)
  (e37:EK K "_law_text_in" We)
  (e38:EK K "_law_name_end" Xe)
  (e39:EK K "_law_part_in" Ye)
  (e40:EK K "_law_row_in" Ze)
  (e41:EK K "_law_kind" Lh)
  (e42:EK K "_law_rule_in" Mh)
  (e43:EK K "_law_read" dj)
  (e44:EK K "_law_asked" Nh)
  (e45:EK K "_law_refused" fj)
  (e46:EK K "_law_odd" Oh)
  (e47:EK K "_law_signed" Ph)
  (e48:EK K "_law_bent_rows" gj)
  (e49:EK K "law" Eg)
  : AllE K mg/\∃f fd,Ent K mg "law" Eg ["_law_script"] f fd :=
 ⟨⟨⟨Rc X G z1,Rc X G z2,Rc X G z3,Rc X G z4,Rc X G z5,Rc X G z6,Rc X G z7,Rc X G z8,Rc X G z9,Rc X G z10,Rc X G z11,Rc X G z12,Rc X G z13,Rc X G z14,⟨uk0,mg_of X G g0⟩,⟨uk1,mg_of X G g1⟩,⟨uk2,mg_of X G g2⟩,⟨uk2,mg_of X G g2,p2,q2⟩,⟨uk3,mg_of X G g3⟩,⟨uk4,mg_of X G g4⟩,⟨uk5,mg_of X G g5⟩,⟨uk6,mg_of X G g6⟩,kit⟩,kts,Y,Ja X G e1,Ja X G e2,Ja X G e3,Ja X G e4,Ja X G e5,Ja X G e6,Ja X G e7,Ja X G e8,Ja X G e9,Ja X G e10,Ja X G e11,Ja X G e12,Ja X G e13,Ja X G e14,Ja X G e15,Ja X G e16,Ja X G e17,Ja X G e18,Ja X G e19,Ja X G e20,Ja X G e21,Ja X G e22,Ja X G e23,Ja X G e24,Ja X G e25,Ja X G e26,Ja X G e27,Ja X G e28,Ja X G e29,Ja X G e30,Ja X G e31,Ja X G e32,Ja X G e33,Ja X G e34,Ja X G e35,Ja X G e36,Ja X G e37,Ja X G e38,Ja X G e39,Ja X G e40,Ja X G e41,Ja X G e42,Ja X G e43,Ja X G e44,Ja X G e45,Ja X G e46,Ja X G e47,Ja X G e48⟩,Ja X G e49⟩
theorem law_fn {l:W.OpenLaw}{w:World}{K:W.Frag}{mg:Str->Option Value}{fa:Addr}(Z:AllE K mg/\∃f fd,Ent K mg "law" Eg ["_law_script"] f fd)(hmg:mg "law" = some (.ref fa)) :
  ∃fd:FuncData,(∀(s:Shared)(u:Value),BindsTo s fd ⟨[u],[]⟩ [("_law_script",u)])/\∀base:Heap,K.In base->base.Ns mainGlobals mg->FnOk l.prog w K mg base CX0 120 fa fd ["_law_script"] (spD (Uj K)):=by
 obtain⟨L,f,fd,E⟩:=Z;have e:=hmg.symm.trans E.g;cases e;obtain⟨oc,od,kV,doc,pm,an,cdv,ct,osl,rfl,lk,hcd⟩:=E.F.ex;exact⟨_,fun s u=>.of_eq rfl,fun base _ _=>j6m E L⟩
theorem law_sp {K:W.Frag}{H:Hp}{a:Addr}{ns:List Int}{E:XK}(hS:SqL K H a (ns.map V.int)):spD (Uj K) [.ref a] H (fun v _=>v=.bl true) E:=by
 refine⟨H,[none],H,[.sc K ns],fun b d _=>d=.bl true,fun p a e=>by cases p<;>simp at e,(lh (ds:=[]) (vs:=[]) (Same.refl _) rfl).push (s:=.sc K ns) (v:=.ref a) ⟨a,rfl,hS⟩ (fun b c a e=>by cases e),⟨ns,rfl,rfl⟩,fun b d v δ' F' H' I q=>?_⟩;obtain⟨F2,s,I2,rv⟩:=I.fr;cases q;exact rv
end
end K20
open PySem PySem.W PyProof.Rows
set_option maxRecDepth 100000 in
set_option maxHeartbeats 0 in
theorem PySem.Challenge.cw_formferry_k24_lines_and_ferry_rows_looke_holds : PySem.Challenge.rw_formferry_k24_lines_and_ferry_rows_looke.Holds := by
 w_on;o_law;z_head;(case hw=>w_witness2)
 k_fill
 refine L2.q3n (l:=PySem.Challenge.rw_formferry_k24_lines_and_ferry_rows_looke) (n:=63) (k:=120) (x:="_law_script") (CX:=L2.CX0) (sp:=fun K=>VL.spD (K20.Uj K)) rfl (by decide) rfl ⟨rfl,by decide,by decide⟩ rfl (by decide) (fun _=>rfl) ?F (fun K H a ns hl hO hS=>K20.law_sp hS) (fun _ _ _ _ z=>z)
 case F =>
  intro w mg fa h KX G hmg;have Z:=by
   refine' K20.all_mk KX G ?kit ?kts ?Y ?kg0 ?kg1 ?kg2 ?kp2 ?kq2 ?kg3 ?kg4 ?kg5 ?kg6 ?_ ?_ ?_ ?_ ?_ ?_ ?_ ?_ ?_ ?_ ?_ ?_ ?_ ?_ ?_ ?_ ?_ ?_ ?_ ?_ ?_ ?_ ?_ ?_ ?_ ?_ ?_ ?_ ?_ ?_ ?_ ?_ ?_ ?_ ?_ ?_ ?_ ?_ ?_ ?_ ?_ ?_ ?_ ?_ ?_ ?_ ?_ ?_ ?_ ?_ ?_ ?_ ?_ ?_ ?_ ?_ ?_ ?_ ?_ ?_ ?_ ?_ ?_
   (case kg0=>k_is)
   (case kg1=>k_is)
   (case kg2=>k_is)
   (case kp2=>decide)
   (case kq2=>decide)
   (case kg3=>k_is)
   (case kg4=>k_is)
   (case kg5=>k_is)
   (case kg6=>k_is)
   (case kit =>
    intro t ht T hT;simp only[List.mem_cons,List.not_mem_nil,or_false]at ht hT;rcases ht with rfl|rfl|rfl|rfl|rfl|rfl|rfl<;>rcases hT with rfl|rfl|rfl|rfl|rfl|rfl<;>rfl)
   (case kts=>rfl)
   (case Y =>
    refine' K20.xr_mk KX G ?z_ValueError ?g_FerryError ?g_Twice ?g_NoName ?g_Stars ?g_NoText ?g_NoPort ?g_Taken ?q_FerryError ?u_Twice ?x_Twice ?l_Twice ?c_Twice ?k_Twice ?kc_Twice ?u_Stars ?x_Stars ?l_Stars ?c_Stars ?k_Stars ?kc_Stars ?u_NoText ?x_NoText ?l_NoText ?c_NoText ?k_NoText ?kc_NoText ?n_Twice ?n_NoName ?n_Stars ?n_NoText ?n_NoPort ?n_Taken ?n_ValueError
    (case z_ValueError=>k_is)
    (case g_FerryError=>k_is)
    (case g_Twice=>k_is)
    (case g_NoName=>k_is)
    (case g_Stars=>k_is)
    (case g_NoText=>k_is)
    (case g_NoPort=>k_is)
    (case g_Taken=>k_is)
    (case q_FerryError=>rfl)
    (case u_Twice=>rfl)
    (case x_Twice=>kernel_rfl)
    (case l_Twice=>k_is)
    (case c_Twice=>k_is)
    (case k_Twice=>k_is)
    (case kc_Twice=>k_is)
    (case u_Stars=>rfl)
    (case x_Stars=>kernel_rfl)
    (case l_Stars=>k_is)
    (case c_Stars=>k_is)
    (case k_Stars=>k_is)
    (case kc_Stars=>k_is)
    (case u_NoText=>rfl)
    (case x_NoText=>kernel_rfl)
    (case l_NoText=>k_is)
    (case c_NoText=>k_is)
    (case k_NoText=>k_is)
    (case kc_NoText=>k_is)
    (case n_Twice=>intro t;rcases t with _|c;rfl;cases c<;>rfl)
    (case n_NoName=>intro t;rcases t with _|c;rfl;cases c<;>rfl)
    (case n_Stars=>intro t;rcases t with _|c;rfl;cases c<;>rfl)
    (case n_NoText=>intro t;rcases t with _|c;rfl;cases c<;>rfl)
    (case n_NoPort=>intro t;rcases t with _|c;rfl;cases c<;>rfl)
    (case n_Taken=>intro t;rcases t with _|c;rfl;cases c<;>rfl)
    (case n_ValueError=>intro t;rcases t with _|c;rfl;cases c<;>rfl))
   iterate 14 (refine(show PySem.W.nsIn _ mainGlobals _=some none from ?_);k_is)
   iterate 49 (refine' K20.ek_mk ?a ?l ?c ?k;(case a=>k_is);(case l=>k_is);(case c=>k_is);(case k=>k_is))
  exact K20.law_fn Z hmg
