import PyProof.Rows.All
import Wide.All
import OpenK.AllK
import Wide.FinOn
import Lean
import PyProof.EqAt
import PyProof.EqKinds
import PyProof.TupleCall
import KE.KRevIter
import PyProof.AttrMissHeap
import KE.KDictOf
import KE.KxText
import PyProof.DictIter
import PyProof.DictWalks
import KE.KDictList
import PyProof.EnumMake
import PyProof.EnumFor
import PyProof.Rows.SetFrom
import PyProof.SetRoads
import PyProof.DictStraight
import KE.KRevSl
import PyProof.NeKinds
import PyProof.Rows.EqBoolInt
import PyProof.ExcClass3
import PyProof.ExcQuiet
import PyProof.ExcAttrAll.ValueError
import PyProof.ExcArgsOwn
import PyProof.RaisesMany
import PyProof.InstStoreFacts
import PyProof.InstLoad
import PyProof.ExcInit
import OpenK.KOwn
import PyProof.AssignAttr
import PyProof.RulesAs
import PyProof.RulesDel
import PyProof.IsiBase
import KE.KLam
import KE.KMinKey
import OpenK.KTop
import PyProof.FString5
import PyProof.StrWalks
import PyProof.Rows.StrNews2
import PyProof.Rows.CallKwBuiltin
import PyProof.StrCalls6
import PyProof.StrLawsReplace
import OpenK.ZHead
import PyProof.Rows.StrSliceCases
import PySem.Challenge.RW_formferry_k13_papers_that_arrive
import OpenK.ZGo
set_option Elab.async false
set_option linter.all false
set_option maxRecDepth 100000
set_option compiler.extract_closed false
set_option compiler.postponeCompile true
set_option bootstrap.genMatcherCode false
set_option genSizeOfSpec false
noncomputable section
namespace PySem.W.Fast
def tw7704769014302928989:=0
def tw2432455721214630019:=0
def tw10243439611690508823:=0
def tw16510977827842259693:=0
def tw315246616738178881:=0
def tw5225326475666503388:=0
def tw8107808812268533631:=0
def tw15099785641057862572:=0
def tw16086280800616765548:=0
def tw16987662216993200708:=0
def tw16843728172141630287:=0
def tw12375441634927542838:=0
def tw10269989022940251748:=0
def tw12406893425565408225:=0
def tw8200443297887004090:=0
def tw15543979745722012232:=0
def tw17663318818722839294:=0
def tw2325214502676829336:=0
def tw14502298690333399082:=0
def tw16089436893380757489:=0
def tw6956040515284828073:=0
def tw11271236349574027795:=0
def tw18404116176524597307:=0
def tw6718221233518863755:=0
def tw88767464101388112:=0
def tw4421461720769907063:=0
def tw13660914605013074574:=0
def tw15806200174807072062:=0
def tw12710337406123627102:=0
def tw9676645445575195587:=0
def tw2795158263799239644:=0
def tw13622020457748514592:=0
def tw12677657286590748015:=0
def tw14135742962191023896:=0
def tw5046417259483254540:=0
def tw14677612123062375715:=0
def tw6659323191363680853:=0
def tw14171451735384828884:=0
def tw4107132062856226917:=0
def tw9078421453503653267:=0
def tw17325651327915977209:=0
def tw9826025087310494456:=0
def tw9693383373882702083:=0
def tw317190286596643011:=0
def tw9741574086732728317:=0
def tw9600499955608037526:=0
def tw13424104818723276977:=0
def tw7824709390536913806:=0
def tw827564747430016076:=0
def tw2503301703137116337:=0
def tw3951116100650100699:=0
def tw11784146445005181904:=0
def tw152402071923482471:=0
def tw2606563766078263555:=0
def tw8559942984925124370:=0
def tw17694251151803989119:=0
def tw11761142645672632834:=0
def tw919426480583618257:=0
def tw2444555136164351613:=0
def tw16313986579302282386:=0
def tw6466055847380845208:=0
def tw2994531381282441305:=0
def tw16264742998437664790:=0
def tw7850159426874089982:=0
def tw11937967095646243492:=0
def tw3659787077303375859:=0
def tw1399888892113452448:=0
def tw12778184605640234559:=0
def tw7893858023748297654:=0
def tw16665825346087496444:=0
def tw2538800544307436527:=0
def tw10976598287459425107:=0
def tw4652112479215757992:=0
def tw11237379957168129532:=0
def tw15936594928401195407:=0
def tw9703620397693303295:=0
def tw3878520649874305527:=0
def tw14245114353690561442:=0
def tw3534790497705163546:=0
def tw18053202555559632987:=0
def tw3519105484919658542:=0
def tw18423614501985769682:=0
def tw13118785074831371711:=0
def tw7571922713001474888:=0
def tw15457219047622627487:=0
def tw16672309392975610982:=0
def tw14283247753123076797:=0
def tw9508422907463275108:=0
def tw17801863735826005463:=0
def tw16582818242603576539:=0
def tw9646805963261508040:=0
def tw3265915304714157608:=0
def tw14677573379687248428:=0
def tw3655380587925527624:=0
def tw2833592237024456670:=0
def tw5944184624929804008:=0
def tw10181814693322035527:=0
def tw13814942067981297979:=0
def tw17802084783570372250:=0
def tw9287690015178020953:=0
def tw6596890197265072610:=0
def tw6907866251896551458:=0
def tw11643966141321920394:=0
def tw14731172577118562463:=0
def tw12312219646325373409:=0
def tw8776637496144753710:=0
def tw13318264187342651743:=0
def tw13871639215337315956:=0
def tw16888326521843480813:=0
def tw5777886641677865867:=0
def tw2489359531188259880:=0
def tw6413422641659743811:=0
def tw4736489245030867431:=0
def tw1309351340192502728:=0
def tw16918908062039171394:=0
def tw12576881604770335932:=0
def tw17710775107767599577:=0
def tw14234812901632514573:=0
def tw7632134675004372870:=0
def tw6734124147432513206:=0
def tw14245996140081469012:=0
def tw6724294945062448798:=0
def tw3483060146207871628:=0
def tw16415027696642132404:=0
def tw9139924889175166013:=0
def tw3538679418103037940:=0
def tw7127192342885871184:=0
def tw9792650596761596044:=0
def tw1185070565729980423:=0
def tw16436802490471552261:=0
def tw15715927214820763994:=0
def tw14162419544387977050:=0
def tw1610523836671957137:=0
def tw10440447629507990629:=0
def tw2829403669851127109:=0
def tw16700125847835750369:=0
def tw8583663748420208181:=0
def tw2463150956984817243:=0
def tw14119696688551589792:=0
def tw12378112675239222163:=0
def tw8860164061822381367:=0
def tw9364079067746930573:=0
def tw14168365731785119247:=0
def tw2807726614592729148:=0
def tw6673091438644292174:=0
def tw5878794009923382029:=0
def tw13083091066432607611:=0
def tw6227684802365933122:=0
def tw12280011438217704928:=0
def tw3001992816500594594:=0
def tw2590540916818498500:=0
def tw7701901483419388060:=0
def tw4033798352889076741:=0
def tw874498675869965158:=0
def tw14179112091780671040:=0
def tw7872736270752020818:=0
def tw10434711962757567300:=0
def tw14843317774267241839:=0
def tw6257267225247887034:=0
def tw18346088749502498735:=0
def tw2149801163803537975:=0
def tw16918422000765011859:=0
def tw16001251603623022450:=0
def tw16505187509954689551:=0
def tw4341615100808295077:=0
def tw5904128905512499529:=0
def tw13313811562476204037:=0
def tw10203622289924575183:=0
def tw7217670816557592427:=0
def tw17604094142747206004:=0
def tw6067627968960559521:=0
def tw10349358154447351493:=0
def tw5182666503626408475:=0
def tw8742300630568869253:=0
def tw4989362083987927472:=0
def tw363164849956090578:=0
def tw14522143541082314329:=0
def tw8487859114274873275:=0
def tw4488262295812950430:=0
def tw13236196690645530360:=0
def tw3823034489059831811:=0
def tw10846883989773282539:=0
def tw10668440203035838655:=0
def tw1371431839645557082:=0
def tw15188692525585508991:=0
def tw207049958306702403:=0
def tw13587936211590499567:=0
def tw1002948313723934720:=0
def tw11851363842767565136:=0
def tw15209270458414043443:=0
def tw3232717143603496575:=0
def tw742336694312237515:=0
def tw5900666402425799419:=0
def tw5234940850856843378:=0
def tw5231977162926195874:=0
def tw5788934905275181563:=0
def tw15352737970219185150:=0
def tw7064861650201526458:=0
def tw10762278777254348586:=0
def tw5506231186371457447:=0
def tw11317491544297199681:=0
def tw7690470690553535619:=0
def tw2531587343162913217:=0
def tw14248373027508569790:=0
def tw4253901372434523142:=0
def tw6440710756603892935:=0
def tw526254447550979938:=0
def tw16822675898795726174:=0
def tw7905871052393127777:=0
def tw15628213285949896936:=0
def tw3551555778382856003:=0
def tw7288197270393961399:=0
def tw17789668825444275020:=0
def tw5045696478400335122:=0
def tw14618462293207213787:=0
def tw16035633866045538156:=0
def tw10263136000654969666:=0
def tw14147485822611231048:=0
def tw14485871225777918097:=0
def tw5335596571645332526:=0
def tw12801679151096913355:=0
def tw2207702422513917963:=0
def tw4413313712933372423:=0
def tw8171054063727016455:=0
def tw16315015192148977308:=0
def tw602071962023079437:=0
def tw14452408083943342470:=0
def tw9346956063407168409:=0
def tw6777787305002367280:=0
def tw16612657020721023829:=0
def tw5593221309798005772:=0
def tw2383187621869582733:=0
def tw1032237301670703653:=0
def tw11979126972065615210:=0
def tw10941204156232244929:=0
def tw17109337537007511805:=0
def tw11172217239342593260:=0
def tw7265660253383594614:=0
def tw17004872582647778679:=0
def tw9360702676028336504:=0
def tw5809795796712195682:=0
def tw11306819532001798305:=0
def tw8823474551812971584:=0
def tw11248299691645330873:=0
def tw3035938511333276252:=0
def tw2558764853405777247:=0
def tw3624767289626397311:=0
def tw5365643126320054049:=0
def tw17365935595096840444:=0
def tw8645331670252681562:=0
def tw7654184727488422148:=0
def tw14203719698966152822:=0
def tw12051238129146617082:=0
def tw18085644838629955434:=0
def tw5606010177448966458:=0
def tw16990982584669548428:=0
def tw9519382397268776260:=0
def tw13876960159341354705:=0
def tw3642600610367639052:=0
def tw1949436489912129349:=0
def tw402546187723894189:=0
def tw12333470798761507652:=0
def tw7121066725856346374:=0
def tw13293525566450538549:=0
def tw1871620838011946695:=0
def tw549912181075790036:=0
def tw17227144669971982433:=0
def tw13831121129706931369:=0
def tw3021782664953801522:=0
def tw9054520128102277734:=0
def tw13651535356502845091:=0
def tw2510306312483772015:=0
def tw9992871465307909334:=0
def tw12825172733218522353:=0
def tw14215009196322439805:=0
def tw6230390781466178801:=0
def tw3623739241662404845:=0
def tw18363343619635830500:=0
def tw12032447028268086791:=0
def tw3861456990259768550:=0
def tw18306646547534554526:=0
def tw13255069176772293200:=0
def tw12063069403090764468:=0
def tw9045157262838820950:=0
def tw10709000994785193222:=0
def tw5114326679442154899:=0
def tw11589713977222993298:=0
def tw12865794577353904126:=0
def tw10019713814981435056:=0
def tw12615372517150957918:=0
def tw8282896195339541186:=0
def tw10252166393941877298:=0
def tw9307686017907229882:=0
def tw18076965889124478568:=0
def tw6210549581774816830:=0
def tw15950656281473107727:=0
def tw4933927906073798212:=0
def tw13376051958759903944:=0
def tw7305827303813547004:=0
def tw4556042100960114122:=0
def tw2683737910823699104:=0
def tw2902239261594334783:=0
def tw17987220322312122897:=0
def tw3090523759957506863:=0
def tw16818129471624984951:=0
def tw5707107314481655645:=0
def tw11184336329223374365:=0
def tw16248597362234534726:=0
def tw10998779312222128762:=0
def tw5842002828626858827:=0
def tw12682811123143869609:=0
def tw2021808029603061359:=0
def tw11178112852006624321:=0
def tw4348506891960080586:=0
def tw7945776754370180454:=0
def tw17737898117655370724:=0
def tw13925727817380354976:=0
def tw4914923132286609494:=0
def tw9879262380932616297:=0
def tw3144735526258942902:=0
def tw17205313483857286652:=0
def tw18168827379293263308:=0
def tw10484372398631550194:=0
def tw8541577022898919337:=0
def tw8069926407680207698:=0
def tw12182963509411622520:=0
def tw347126532127646353:=0
def tw14829398463995556116:=0
def tw7234381143876499379:=0
def tw1863962605703375246:=0
end PySem.W.Fast
set_option maxHeartbeats 800000
open Bool (and_eq_true false_eq_true or_eq_true)
open Int (natAbs toNat_natCast)
open List (all_cons all_eq_true any_cons any_eq_true append_assoc append_nil concat_eq_append cons_append contains_cons drop drop_eq_getElem_cons drop_length drop_of_length_le filter filter_append filter_cons filter_sublist find?_append find?_cons flatMap_cons foldl_cons getD_cons_succ getD_eq_getElem?_getD getElem?_append_left getElem?_append_right getElem?_cons_succ getElem?_eq_getElem getElem?_map getElem?_replicate getElem?_set getElem?_set_ne getElem?_set_self getElem_mem length_append length_cons length_drop length_eq_zero_iff length_filter_le length_map length_nil length_reverse length_take lookup_cons map_append map_cons map_drop map_id map_map map_nil map_reverse map_take mem_append mem_append_left mem_append_right mem_cons mem_cons_of_mem mem_cons_self mem_filter mem_map mem_of_getElem? mem_range mem_singleton nil_append nodup_append nodup_cons nodup_nil not_mem_nil of_mem_zip range replicate reverse_append reverse_cons size_toArray sum_cons take take_add_one take_append_drop take_length take_of_length_le take_zero)
open Nat (add_assoc add_comm add_le_add_left add_le_add_right add_mul le_add_right le_max_left le_max_right le_of_eq le_of_lt le_refl le_succ le_succ_of_le le_trans lt_irrefl lt_of_le_of_lt lt_of_lt_of_le lt_trans max_le min_eq_left mul_le_mul_left mul_le_mul_right ne_of_gt ne_of_lt not_lt_zero sub_add_cancel sub_le succ_le_succ zero_add zero_le)
open Option (getD_none isNone isSome_iff_exists isSome_map map_eq_some_iff map_some)
open PyProof.Rows (boot_all boot_any boot_bool boot_dict boot_int boot_isinstance boot_list boot_reversed boot_set boot_str boot_zip)
open PySem.F (called_set slot_NoneType_hash slot_list_extend slot_list_pop type_list_extend type_list_pop)
open PySem.Heap (get?_push_at get?_push_of_some get?_push_size get?_update_other get?_update_self lt_size size_push)
open PySem.Txt (join slice_le)
open PySem.W (callWith_K cellsFrom_some codeIn findIn fnOf instObj isFn keepIn kia_one kitOne kitx_dict kitx_list kitx_none lookIn methodObj mg_none_of mg_of mroIn nsIn nsOkIn plainGet specialIn)
set_option autoImplicit true
set_option relaxedAutoImplicit true
local macro_rules|`(tactic| walk_at "a")=>do
 let r:=Lean.mkIdent `rfl
 `(tactic|(intro _ _ h;first|(obtain⟨_,$r:ident,_⟩:=h;rfl)|(obtain⟨_,_,$r:ident,_⟩:=h;rfl)|(obtain⟨_,_,_,$r:ident,_⟩:=h;rfl)|(obtain⟨_,_,_,_,$r:ident,_⟩:=h;rfl)|(obtain⟨_,_,_,_,_,$r:ident,_⟩:=h;rfl)))
local macro_rules|`(tactic| walk_at "f")=>do
 let i:=Lean.mkIdent
 `(tactic|intro $(i `cdv) $(i `A) $(i `V0) $(i `s) $(i `H) $(i `E) $(i `δ) $(i `Qd) $(i `hr) $(i `h))
local macro_rules|`(tactic| walk_at "p")=>do
 let p:=Lean.mkIdent `L2.Inv.pos
 `(tactic|first|assumption|exact $p (by assumption)|exact Nat.le_trans ($p (by assumption)) (Nat.le_add_right _ _)|exact Nat.le_trans (Nat.le_trans ($p (by assumption)) (Nat.le_add_right _ _)) (Nat.le_add_right _ _))
namespace L2
def zE:Option Nat:=none
def lamL:Int:=50
def lamC:Int:=65
def lamQ:PySem.Str:="cheaper.<locals>.<lambda>"
def tk0:Nat:=510
open PySem PySem.Spec PyProof.Rows
abbrev Key:=Sum Int Str
noncomputable def Qe:Key->Value->Bool
 |.inl k,v=>Value.isInt k v
 |.inr x,v=>Value.isStrOf x v
noncomputable def keyH (w:World):Key->Int
 |.inl k=>hashInt k
 |.inr x=>hashStr w x
theorem Rc:∀{k:Key}{v:Value},Qe k v=true->(∃i t,k=Sum.inl i/\v=Value.int i t)\/(∃x t,k=Sum.inr x/\v=Value.str x t)
 |.inl i,v,h=>by
  obtain⟨t,e⟩:=Value.isInt_shape (k:=i) (v:=v) h;exact .inl ⟨i,t,rfl,e⟩
 |.inr x,v,h=>by
  obtain⟨t,e⟩:=Value.isStrOf_shape (x:=x) (v:=v) h;exact .inr ⟨x,t,rfl,e⟩
def uv (i:Int)(t:Tok):Qe (.inl i) (.int i t)=true:=by simp[Qe,Value.isInt]
def vv (x:Str)(t:Tok):Qe (.inr x) (.str x t)=true:=by simp[Qe,Value.isStrOf]
def wv (a b:Int):decide ((Sum.inl a:Key)=Sum.inl b)=(a == b):=by by_cases e:a=b;subst e;simp;have h:¬(Sum.inl a:Key)=Sum.inl b:=fun q=>e (Sum.inl.inj q);rw[decide_eq_false h];exact(beq_eq_false_iff_ne.mpr e).symm
def xv (a b:Str):decide ((Sum.inr a:Key)=Sum.inr b)=decide (a=b):=by by_cases e:a=b;subst e;simp;have h:¬(Sum.inr a:Key)=Sum.inr b:=fun q=>e (Sum.inr.inj q);rw[decide_eq_false h,decide_eq_false e]
def key_lr (a:Int)(b:Str):decide ((Sum.inl a:Key)=Sum.inr b)=false:=decide_eq_false (fun q=>nomatch q)
def zv (a:Str)(b:Int):decide ((Sum.inr a:Key)=Sum.inl b)=false:=decide_eq_false (fun q=>nomatch q)
noncomputable def Zb (prog:Program) (w:World):PySem.KeyKind prog w Key where
 is:=Qe
 hash:=keyH w
 inj:=fun v a b ha hb=>by
  rcases Rc ha with ⟨i,t,rfl,rfl⟩|⟨x,t,rfl,rfl⟩
  ·rcases Rc hb with ⟨j,u,rfl,e⟩|⟨y,u,rfl,e⟩;injection e with e1 _;rw[e1];exact nomatch e
  rcases Rc hb with ⟨j,u,rfl,e⟩|⟨y,u,rfl,e⟩;exact nomatch e;injection e with e1 _;rw[e1]
 byValue:=fun k v h=>by
  rcases Rc h with ⟨i,t,rfl,rfl⟩|⟨x,t,rfl,rfl⟩<;>rfl
 pyHash:=fun hv h=>by
  rcases Rc hv with ⟨i,t,rfl,rfl⟩|⟨x,t,rfl,rfl⟩;exact wpAny_pyHash_int h;exact wpAny_pyHash_str h
 eqBool:=fun hu hv h=>by
  rcases Rc hu with ⟨i,t,rfl,rfl⟩|⟨x,t,rfl,rfl⟩
  ·rcases Rc hv with ⟨j,u,rfl,rfl⟩|⟨y,u,rfl,rfl⟩;rw[wv]at h;exact wpAny_eqBool_int h;rw[key_lr]at h;exact SeqAt.EqAt.int_str i t y u _ _ _ _ h
  rcases Rc hv with ⟨j,u,rfl,rfl⟩|⟨y,u,rfl,rfl⟩;rw[zv]at h;exact SeqAt.EqAt.str_int x t j u _ _ _ _ h;rw[xv]at h;exact wpAny_eqBool_str h
 «strs»:=fun k x t v h=>by
  rcases Rc h with ⟨i,u,rfl,e⟩|⟨y,u,rfl,e⟩;exact nomatch e;injection e with e1 _;subst e1;cases v<;>rfl
abbrev UB:=Option Key
noncomputable def dk:UB->Value->Bool
 |none,.none=>true
 |none,_=>false
 |some k,v=>Qe k v
def jf(h:dk k v=true):(k=none/\v=.none) \/ ∃k',k=some k'/\Qe k' v=true:=by
 cases k with
 |none=>cases v<;>first|exact .inl ⟨rfl,rfl⟩|exact absurd h (by simp[dk])
 |some k=>exact .inr ⟨k,rfl,h⟩
def Av(h:Q 0xFCA86420 { s with toks:=s.toks+1 }):wpAny (model prog w) A (PySem.pyHash .none) Q E s:=by
 have hT:s.TypeIs .none "NoneType":=rfl;unfold PySem.pyHash;have hv:[Value.none].any Value.onHeap=false:=rfl;refine wpAny_bind ?_;rw[cRoomFor,if_neg (by rw[hv];exact Bool.false_ne_true)];refine wpAny_pure ?_;refine wpAny_bind (wpAny_specialOf hT slot_NoneType_hash.lookup ?_);show wpAny _ _ (if (some (Value.builtin "NoneType.__hash__") == some Value.none)=true then _ else _) Q E s;rw[if_neg (by rw[beq_builtin_none];exact Bool.false_ne_true)];refine wpAny_bind (wpAny_specialOf hT slot_NoneType_hash.lookup ?_);show wpAny _ _ (callSpecialIfBoundUnlessNone? .none "__hash__" _ >>= _) Q E s;refine wpAny_bind (wpAny_callSpecialIfBoundUnlessNone?_slot hT slot_NoneType_hash
  (wpAny_call_entry slot_NoneType_hash hT PySem.F.entry_NoneType_hash
   (show wpAny _ _ (do ret (<-mkInt 0xFCA86420)) _ _ s from wpAny_ret_mkInt ?_) (PySem.F.args_NoneType_hash_1 _)))
 exact wpAny_pure h
noncomputable def kf (prog:Program) (w:World):PySem.KeyKind prog w UB where
 is:=dk
 hash:=fun k=>match k with|none=>0xFCA86420|some k=>keyH w k
 inj:=fun v a b ha hb=>by
  rcases jf ha with ⟨rfl,rfl⟩|⟨a',rfl,ha⟩<;>rcases jf hb with ⟨rfl,e⟩|⟨b',rfl,hb⟩;rfl;rcases Rc hb with ⟨_,_,_,e⟩|⟨_,_,_,e⟩<;>cases e;subst e;rcases Rc ha with ⟨_,_,_,e⟩|⟨_,_,_,e⟩<;>cases e;rw[(Zb prog w).inj v a' b' ha hb]
 byValue:=fun k v h=>by
  rcases jf h with ⟨rfl,rfl⟩|⟨a',rfl,ha⟩;rfl;exact(Zb prog w).byValue a' v ha
 pyHash:=fun hv h=>by
  rcases jf hv with ⟨rfl,rfl⟩|⟨a',rfl,ha⟩;exact Av h;exact(Zb prog w).pyHash ha h
 eqBool:=fun {A E s a b u v Q} hu hv h=>by
  rcases jf hu with ⟨rfl,rfl⟩|⟨a',rfl,ha⟩<;>rcases jf hv with ⟨rfl,rfl⟩|⟨b',rfl,hb⟩;exact SeqAt.EqAt.same .none _ _ _ _ (by simpa using h)
  ·have h':Q false s:=by simpa using h
   rcases Rc hb with ⟨i,t,rfl,rfl⟩|⟨x,t,rfl,rfl⟩;exact SeqAt.EqAt.none_int i t _ _ _ _ h';exact SeqAt.EqAt.none_str x t _ _ _ _ h'
  ·have h':Q false s:=by simpa using h
   rcases Rc ha with ⟨i,t,rfl,rfl⟩|⟨x,t,rfl,rfl⟩;exact SeqAt.EqAt.int_none i t _ _ _ _ h';exact SeqAt.EqAt.str_none x t _ _ _ _ h'
  exact(Zb prog w).eqBool ha hb (by simpa using h)
 «strs»:=fun k x t v h=>by
  rcases jf h with ⟨rfl,e⟩|⟨a',rfl,ha⟩;cases e;exact(Zb prog w).strs a' x t v ha
def Bv (prog:Program)(w:World)(i:Int)(t:Tok):(Zb prog w).is (.inl i) (.int i t)=true:=uv i t
def Cv (prog:Program)(w:World)(x:Str)(t:Tok):(Zb prog w).is (.inr x) (.str x t)=true:=vv x t
inductive V where
 |non|bl (b:Bool)|int (i:Int)|str (x:Str)|byt (b:Array UInt8)|flt (b:UInt64)|ref (a:Addr)|ty (n:String)
 deriving DecidableEq
def GB:V->Value->Prop
 |.non,u=>u=Value.none
 |.bl b,u=>u=Value.bool b
 |.int i,u=>∃t,u=Value.int i t
 |.str x,u=>∃t,u=Value.str x t
 |.byt b,u=>∃t,u=Value.bytes b t
 |.flt b,u=>∃t,u=Value.float b t
 |.ref a,u=>u=Value.ref a
 |.ty n,u=>u=Value.type n
abbrev EB:List V->List Value->Prop:=Paired GB
def EB.length(r:EB xs us):xs.length=us.length:=Paired.length r
theorem EB.get:∀{xs:List V}{us:List Value}{i:Nat}{x:V},EB xs us->xs[i]? = some x->∃u,us[i]? = some u/\GB x u
 |_,_,_,_,.nil,e=>by simp at e
 |_,_,0,_,.cons r _,e=>by simp at e;subst e;exact⟨_,rfl,r⟩
 |_,_,i+1,x,.cons _ t,e=>by
  obtain⟨u,h1,h2⟩:=EB.get (i:=i) (x:=x) t (by simpa using e);exact⟨u,by simpa using h1,h2⟩
theorem EB.set(r:GB x u):∀{xs:List V}{us:List Value}(i:Nat),EB xs us->EB (xs.set i x) (us.set i u)
 |_,_,_,.nil=>.nil
 |_,_,0,.cons _ t=>.cons r t
 |_,_,i+1,.cons q t=>.cons q (EB.set r i t)
def EB.append:∀{xs ys:List V}{us ws:List Value},EB xs us->EB ys ws->EB (xs++ys) (us++ws):=by
 intro xs ys us ws h s;induction h with
 |nil=>exact s
 |cons r t ih=>exact .cons r ih
theorem EB.take:∀{xs:List V}{us:List Value}(n:Nat),EB xs us->EB (xs.take n) (us.take n)
 |_,_,0,_=>.nil
 |_,_,_+1,.nil=>.nil
 |_,_,n+1,.cons r t=>.cons r (EB.take n t)
theorem EB.drop:∀{xs:List V}{us:List Value}(n:Nat),EB xs us->EB (xs.drop n) (us.drop n)
 |_,_,0,r=>r
 |_,_,_+1,.nil=>.nil
 |_,_,n+1,.cons _ t=>EB.drop n t
def EB.none_of:∀{xs:List V}{us:List Value}{i:Nat},EB xs us->xs[i]? = none->us[i]? = none:=fun {xs us i} r e=>by
 have h1:=r.length;have h2:xs.length<=i:=List.getElem?_eq_none_iff.mp e;exact List.getElem?_eq_none_iff.mpr (by lia)
def DC:Option V->Option Value->Prop
 |some v,some u=>GB v u
 |none,none=>True
 |_,_=>False
def KV {κ:Type}:List (κ×V)->List (κ×Value)->Prop:=Paired fun(p:κ×V)(q:κ×Value)=>p.1=q.1/\GB p.2 q.2
noncomputable def kV:Key->V
 |.inl i=>.int i
 |.inr x=>.str x
noncomputable def kO:UB->V
 |none=>.non
 |some k=>kV k
inductive HO where
 |lst (xs:List V)
 |tup (xs:List V)
 |dK (Y0:List (Key×V))|dT (Y0:List (List UB×V))
 |set (S:Int->Bool)(n:Nat)
 |ins (C dx:Addr)(fs:List (Str×V))
 |own (x:Addr)
 |xd (fs:List (Str×V))
 |met (f x:Addr)
 |rng (lo hi:Int)
 |frz (o:Obj)(u:HO)
 |lam
 |ext (φ:Heap->Prop)
abbrev Hp:=Addr->Option HO
def gk (H:Hp):Prop:=∀p,zE=some p->H p=some .lam
noncomputable def upd (H:Hp) (a:Addr) (o:HO):Hp:=fun b=>if b=a then some o else H b
def z0g:upd H a o a=some o:=by unfold upd;rw[if_pos rfl]
def ya(h:b≠a):upd H a o b=H b:=by unfold upd;rw[if_neg h]
theorem Dv:upd (upd H a o) a u=upd H a u:=by funext b;unfold upd;split<;>rfl
def Wd {H:Hp}(h:H a=some o)(h':H b=some u)(d:o≠u):a≠b:=by intro e;subst e;rw[h]at h';exact d (Option.some.inj h')
def Sa {H:Hp}(h:H a=some o)(h':H b=none):a≠b:=by intro e;subst e;rw[h]at h';cases h'
section
variable (P:Program)(w:World)
def HB (H:Hp)(h:Heap)(a:Addr):HO->Prop
 |.lst xs=>xs.length<=sizeLine/\∃(Z0:List Value)(n:Nat),EB xs Z0/\h.get? a=some { cls:=.type "list",data:=.seq Z0.toArray n }
 |.tup xs=>xs.length<=sizeLine/\∃Z0:List Value,EB xs Z0/\IsTup h a Z0.toArray
 |.dK Y0=>Y0.length<=sizeLine/\(a == sysModules)=false/\∃vs,KV Y0 vs/\h.DictOf (Zb P w) a vs
 |.dT Y0=>Y0.length<=sizeLine/\(a == sysModules)=false/\∃xs:List (List UB×Addr×Value),
   Paired (fun(p:List UB×V)(q:List UB×Addr×Value)=>p.1=q.1/\H q.2.1=some (.tup (p.1.map kO))/\GB p.2 q.2.2) Y0 xs /\
   ∃o es ep,h.get? a=some o/\o.ExactDict/\o.data=.dict es ep/\es.toList=xs.map (entryOfKey (tupleKind (kf P w)))/\(xs.map (·.1)).Nodup
 |.set S n=>h.SetOf (intKind P w) a S n
 |.ins C dx fs=>H dx=some (.own a)/\fs.length<=1000/\dx≠a/\h.get? a=some (instObj C dx) /\
   ∃mA,h.Ns1 dx mA/\(∀f,DC (fs.lookup f) (mA f))/\PySem.Within mA (fs.map (·.1))
 |.own _=>∃o,h.get? a=some o
 |.xd fs=>∃mA,h.Ns1 a mA/\∀f,DC (fs.lookup f) (mA f)
 |.rng lo hi=>∃t u v,h.get? a=some { cls:=.type "range",data:=.fields #[.int lo t,.int hi u,.int 1 v] }
 |.frz o u=>h.get? a=some o/\HB H h a u
 |.lam=>∃ps:Array Value,h.get? a=some { cls:=.none,data:=.fields ps }/\(ps = #[] \/ ∃c',ps = #[rawInt lamL,rawInt lamC,.ref c']/\H c' = some (.own a)/\h.CodeRec (.ref c') lamQ)
 |.met f x=>h.get? a=some (methodObj (.ref f) (.ref x))
 |.ext φ=>φ h/\(∃o,h.get? a=some o)/\∀h1 h2:Heap,φ h1->(∀o,h1.get? a=some o->h2.get? a=some o)->φ h2
def HOk (H:Hp)(h:Heap):Prop:=∀a o,H a=some o->HB P w H h a o
end
section
variable {P:Program}{w:World}{H H':Hp}{h h':Heap}{a:Addr}{o:HO}
def HB.lt (x:HB P w H h a o):a<h.objs.size:=by
 cases o with
 |lst xs=>obtain⟨_,_,_,_,e⟩:=x;exact lt_size e
 |tup xs=>obtain⟨_,_,_,p⟩:=x;exact p.lt
 |dK Y0=>obtain⟨_,_,_,_,o,_,_,e,_⟩:=x;exact lt_size e
 |dT Y0=>obtain⟨_,_,_,_,o,_,_,e,_⟩:=x;exact lt_size e
 |set S n=>obtain⟨o,_,_,_,e,_⟩:=x;exact lt_size e
 |ins C dx fs=>obtain⟨_,_,_,e,_⟩:=x;exact lt_size e
 |own y=>obtain⟨_,e⟩:=x;exact lt_size e
 |xd fs=>obtain⟨_,⟨_,_,_,e,_⟩,_⟩:=x;exact lt_size e
 |rng lo hi=>obtain⟨_,_,_,e⟩:=x;exact lt_size e
 |frz ob u=>obtain⟨e,_⟩:=x;exact lt_size e
 |lam=>obtain⟨_,e,_⟩:=x;exact lt_size e
 |met f y=>exact lt_size (show h.get? a=some _ from x)
 |ext φ=>obtain⟨_,⟨_,e⟩,_⟩:=x;exact lt_size e
def Paired.mapP:∀{l₁:List α}{l₂:List β},Paired F l₁ l₂->(∀a b,F a b->G a b)->Paired G l₁ l₂:=by
 intro l₁ l₂ h f;induction h with
 |nil=>exact .nil
 |cons r t ih=>exact .cons (f _ _ r) ih
def HB.stay (x:HB P w H h a o)(k:∀b u,(b=a\/H b=some (.own a))->h.get? b=some u->h'.get? b=some u)
  (ho:∀b,H b=some (.own a)->H' b=some (.own a))(ht:∀b xs,H b=some (.tup xs)->H' b=some (.tup xs)):HB P w H' h' a o:=by
 induction o with
 |lst xs=>obtain⟨z,Z0,n,r,e⟩:=x;exact⟨z,Z0,n,r,k _ _ (.inl rfl) e⟩
 |tup xs=>obtain⟨z,Z0,r,ob,e,c⟩:=x;exact⟨z,Z0,r,ob,k _ _ (.inl rfl) e,c⟩
 |dK Y0=>obtain⟨z,y,vs,r,ob,es,ep,e,c⟩:=x;exact⟨z,y,vs,r,ob,es,ep,k _ _ (.inl rfl) e,c⟩
 |dT Y0 =>
  obtain⟨z,y,xs,r,ob,es,ep,e,c⟩:=x;exact⟨z,y,xs,Paired.mapP r fun p q z=>⟨z.1,ht _ _ z.2.1,z.2.2⟩,ob,es,ep,k _ _ (.inl rfl) e,c⟩
 |set S n=>obtain⟨ob,es,ep,t,e,c⟩:=x;exact⟨ob,es,ep,t,k _ _ (.inl rfl) e,c⟩
 |ins C dx fs =>
  obtain⟨d,z,ne,e,mA,⟨od,es,ep,e2,c⟩,r⟩:=x;exact⟨ho _ d,z,ne,k _ _ (.inl rfl) e,mA,⟨od,es,ep,k _ _ (.inr d) e2,c⟩,r⟩
 |own y=>obtain⟨ob,e⟩:=x;exact⟨ob,k _ _ (.inl rfl) e⟩
 |xd fs=>obtain⟨mA,⟨od,es,ep,e,c⟩,r⟩:=x;exact⟨mA,⟨od,es,ep,k _ _ (.inl rfl) e,c⟩,r⟩
 |rng lo hi=>obtain⟨t,u,v,e⟩:=x;exact⟨t,u,v,k _ _ (.inl rfl) e⟩
 |frz ob u ih=>obtain⟨e,q⟩:=x;exact⟨k _ _ (.inl rfl) e,ih q⟩
 |lam =>
  obtain⟨ps,e,r⟩:=x;refine⟨ps,k a _ (.inl rfl) e,r.imp id fun zq=>?_⟩;obtain⟨c',e1,e2,c,o,vs,t,q,e3,e4⟩:=zq;cases q;exact⟨c',e1,ho _ e2,c',o,vs,t,rfl,k _ _ (.inr e2) e3,e4⟩
 |met f y =>
  have e:h.get? a=some (methodObj (.ref f) (.ref y)):=x;show h'.get? a=some (methodObj (.ref f) (.ref y));exact k a _ (.inl rfl) e
 |ext φ=>obtain⟨p,⟨o,e⟩,st⟩:=x;exact⟨st _ _ p fun o q=>k _ _ (.inl rfl) q,⟨o,k _ _ (.inl rfl) e⟩,st⟩
def HOk.lt (x:HOk P w H h)(e:H a=some o):a<h.objs.size:=(x a o e).lt
def HOk.fresh (x:HOk P w H h)(e:h.objs.size<=a):H a=none:=by
 cases q:H a with
 |none=>rfl
 |some u=>exact absurd (lt_of_lt_of_le (x.lt q) e) (lt_irrefl _)
def HOk.kept (x:HOk P w H h)(k:∀b u,h.get? b=some u->h'.get? b=some u):HOk P w H h':=fun a o e =>
 (x a o e).stay (fun b u _ q=>k b u q) (fun _ q=>q) fun _ _ q=>q
def HOk.laid (x:HOk P w H h)(k:∀b u,h.get? b=some u->h'.get? b=some u)(hp:h.objs.size<=a)(new:HB P w (upd H a o) h' a o):HOk P w (upd H a o) h':=fun b u e=>by
 have hn:=x.fresh hp;by_cases hb:b=a;subst hb;rw[z0g]at e;cases e;exact new;rw[ya hb]at e;exact(x b u e).stay (fun c v _ q=>k c v q) (fun c q=>by rw[ya (Sa q hn)];exact q) fun c xs q=>by rw[ya (Sa q hn)];exact q
def Rd (H:Hp)(a:Addr)(u:HO):Prop:=H a=some u \/ ∃o,H a=some (.frz o u)
def Rd.ok(r:Rd H a u)(x:HOk P w H h):HB P w H h a u:=by rcases r with r|⟨o,r⟩;exact x a u r;obtain⟨_,q⟩:=x a _ r;exact q
def Mut:Option HO->Prop
 |some (.lst _)=>True
 |some (.dK _)=>True
 |some (.dT _)=>True
 |some (.set _ _)=>True
 |some (.ins _ _ _)=>True
 |some (.ext _)=>True
 |_=>False
variable {x e:Addr}{o':HO}
def HOk.write (ok:HOk P w H h)(mu:Mut (H x))(he:e=x\/H e=some (.own x))(k:∀b u,b≠e->h.get? b=some u->h'.get? b=some u)(heo:∃u,h'.get? e=some u)
  (new:HB P w (upd H x o') h' x o'):HOk P w (upd H x o') h':=fun b u q=>by
 have nown:∀c y,H c=some (.own y)->c≠x:=fun c y r z=>by subst z;rw[r]at mu;exact mu
 have ntup:∀c xs,H c=some (.tup xs)->c≠x:=fun c xs r z=>by subst z;rw[r]at mu;exact mu
 by_cases hb:b=x;subst hb;rw[z0g]at q;cases q;exact new;rw[ya hb]at q;by_cases hbe:b=e
 ·have q':H b=some (.own x):=by
   rcases he with z|z;exact absurd (hbe.trans z) hb;rw[hbe];exact z
  rw[q]at q';cases q';obtain⟨v,hv⟩:=heo;exact⟨v,by rw[hbe];exact hv⟩
 refine(ok b u q).stay (fun c v hc r=>k c v ?_ r) (fun c r=>by rw[ya (nown c b r)];exact r) fun c xs r=>by rw[ya (ntup c xs r)];exact r
 rcases hc with rfl|hc;exact hbe;rintro rfl;rcases he with z|z;exact nown c b hc z;rw[hc]at z;cases z;exact hb rfl
structure Un (fs ex:List Addr)(H H':Hp)(h h':Heap):Prop where
 keep:∀b o,h.get? b=some o->H b=none->b∉fs->b∉ex->h'.get? b=some o
 slot:∀b o,h.get? b=some o->H b=none->b∈fs->b∉ex->∃sl,h'.get? b=some { o with slots:=sl }
 free:∀b o,h.get? b=some o->H b=none->b∉ex->H' b=none
 there:∀b o,h.get? b=some o->b∉ex->∃o',h'.get? b=some o'
 tups:∀b xs,H b=some (.tup xs)->H' b=some (.tup xs)
 frzs:∀b o u,H b=some (.frz o u)->H' b=some (.frz o u)
 tbls:∀b,H b=some .lam->H' b=some .lam
variable {fs fs' ex ex':List Addr}{H1 H2:Hp}{h1 h2:Heap}
def Un.any (u:Un fs ex H H1 h h1)(q:h.get? b=some ob)(n:H b=none)(hx:b∉ex):∃sl,h1.get? b=some { ob with slots:=sl }:=by by_cases hb:b∈fs;exact u.slot b ob q n hb hx;exact⟨ob.slots,u.keep b ob q n hb hx⟩
def Un.kept (k:∀b u,h.get? b=some u->h'.get? b=some u):Un fs ex H H h h' :=
 ⟨fun b ob q _ _ _=>k b ob q,fun b ob q _ _ _=>⟨ob.slots,k b ob q⟩,fun _ _ _ n _=>n,fun b ob q _=>⟨ob,k b ob q⟩,fun _ _ q=>q,fun _ _ _ q=>q,fun _ q=>q⟩
def Un.refl:Un fs ex H H h h:=Un.kept fun _ _ q=>q
def Un.laid (k:∀b u,h.get? b=some u->h'.get? b=some u)(hp:h.objs.size<=a)(hn:H a=none):Un fs ex H (upd H a o) h h' where
 keep:=fun b u q _ _ _=>k b u q
 slot:=fun b u q _ _ _=>⟨u.slots,k b u q⟩
 free:=fun b u q n _=>by rw[ya (ne_of_lt (lt_of_lt_of_le (lt_size q) hp))];exact n
 there:=fun b u q _=>⟨u,k b u q⟩
 tups:=fun b xs q=>by rw[ya (Sa q hn)];exact q
 frzs:=fun b u xs q=>by rw[ya (Sa q hn)];exact q
 tbls:=fun b q=>by rw[ya (Sa q hn)];exact q
def Un.write (mu:Mut (H x))(he:e=x\/H e=some (.own x))(k:∀b u,b≠e->h.get? b=some u->h'.get? b=some u)(heo:∃u,h'.get? e=some u):Un fs ex H (upd H x o) h h':=by
 have hx:∀b,H b=none->b≠x:=fun b n z=>by subst z;rw[n]at mu;exact mu
 have hb:∀b,H b=none->b≠e:=fun b n z=>by
  subst z;rcases he with r|r;exact hx b n r;rw[n]at r;cases r
 have hm:∀b u,H b=some u->¬Mut (some u)->b≠x:=fun b u q nm z=>by subst z;rw[q]at mu;exact nm mu
 refine⟨fun b u q n _ _=>k b u (hb b n) q,fun b u q n _ _=>⟨u.slots,k b u (hb b n) q⟩,fun b u q n _=>by rw[ya (hx b n)];exact n,fun b u q _=>?_,
  fun b xs q=>by rw[ya (hm b _ q fun z=>z)];exact q,fun b u xs q=>by rw[ya (hm b _ q fun z=>z)];exact q,fun b q=>by rw[ya (hm b _ q fun z=>z)];exact q⟩
 by_cases hbe:b=e;subst hbe;exact heo;exact⟨u,k b u hbe q⟩
noncomputable def trk (h:Heap) (H:Hp):List Addr:=(range h.objs.size).filter fun a=>(H a).isSome
noncomputable def nG (h:Heap) (H:Hp):Heap:=W.hideAll h (trk h H)
def Fv (h:Heap)(H:Hp):(nG h H).objs.size=h.objs.size:=W.hideAll_size _ _
def Gv{o:Obj}(e:h.get? b=some o)(n:H b=none):(nG h H).get? b=some o :=
 W.hideAll_get _ e fun hm=>by
  have q:(H b).isSome=true:=(mem_filter.mp hm).2;rw[n]at q;simp at q
def Hv{o:Obj}(e:(nG h H).get? b=some o):h.get? b=some o/\H b=none:=by
 have e':h.get? b=some o:=W.of_hideAll (trk h H) e;refine⟨e',?_⟩;cases q:H b with
 |none=>rfl
 |some x =>
  have hm:b∈trk h H:=mem_filter.mpr ⟨mem_range.mpr (lt_size e'),by simp[q]⟩;have z:(nG h H).get? b=none:=W.hideAll_none (trk h H) hm;rw[z]at e;cases e
noncomputable def Iv (g h:Heap) (L:Addr):List (Addr×Obj):=(range h.objs.size).filterMap fun a=>if a=L\/(g.get? a).isSome=true then none else(h.get? a).map fun o=>(a,o)
noncomputable def gB (g h:Heap) (L d:Addr):List (Addr×Obj):=(Iv g h L).filter fun p=>decide (p.1≠d)
structure Mod (K:W.Frag)(mg:Str->Option Value)(base:Heap):Prop where
 kin:K.In base
 glob:base.Ns mainGlobals mg
 blt:∃mb,base.Ns builtinsNs mb/\∀x:Str,x ≠ "__name__"->mb x=bootBuiltins x
 nolimit:base.NoLimit
 bmain:∃bm ob,mg "__builtins__" = some (.ref bm)/\bm≠builtinsNs/\base.get? bm=some ob/\ob.cls=.type "module"/\ob.dict=some builtinsNs/\ob.data=.plain
end
section
structure Cx where
 prog:Program
 w:World
 K:W.Frag
 mg:Str->Option Value
 base:Heap
 A:Around
 N:List Str
 s₀:Shared
 H₀:Hp
 env:Env
 V0:List Env
 stack:List Env
 ex:List Addr
 fn:Str->Bool
 calm:Bool
 pn:List (Addr×Obj)
 xe:Value->Shared->Prop
noncomputable def frs (l:List Env):List Addr:=l.filterMap (·.frame)
noncomputable abbrev Cx.fs (X:Cx):List Addr:=frs X.V0
def Vis (sc:Scope)(x:Str):Prop:=sc.names.lookup x=some .local\/sc.names.lookup x=some .cell\/sc.names.lookup x=some .free
def Loc (sc:Scope)(x:Str):Prop:=sc.names.lookup x=some .local\/sc.names.lookup x=some .cell
def Look (env:Env)(h:Heap)(m:Str->Option Value)(x:Str)(u:Value):Prop :=
 (env.kindOf x=some .local/\m x=some u)\/((env.kindOf x=some .cell\/env.kindOf x=some .free)/\∃c,env.cells.lookup x=some c/\h.IsCell c (some u))
structure Cx.Ok (X:Cx):Prop where
 mod:Mod X.K X.mg X.base
 kind:X.env.scope.kind=.function
 glob:X.env.globals=mainGlobals
 blt:X.env.builtins=builtinsNs
 above:X.s₀.heap.objs.size<=X.env.locals
 inj:∀x y c,X.env.cells.lookup x=some c->X.env.cells.lookup y=some c->x=y
 has:∀x,(X.env.kindOf x=some .cell\/X.env.kindOf x=some .free)->∃c,X.env.cells.lookup x=some c
 cab:∀x c,X.fn x=true->X.env.cells.lookup x=some c->X.s₀.heap.objs.size<=c
 hd:X.calm=true->X.A.handled=none
 frames:X.A.frames=some X.stack
 stk:X.stack=X.V0\/(X.stack=X.env::X.V0/\X.env.frame=some X.env.locals)
 exf:∀b∈X.ex,b≠X.env.locals/\∀x c,X.env.cells.lookup x=some c->c≠b
 bs:∀b o,X.base.get? b=some o->X.s₀.heap.get? b=some o/\X.H₀ b=none
 bsz:X.base.objs.size<=X.s₀.heap.objs.size
 noex:∀b o,X.base.get? b=some o->b∉X.ex
 exfs:∀b∈X.ex,b∉X.fs
 funs:X.s₀.heap.FunFrames X.base X.V0
 frf:∀b∈X.fs,X.H₀ b=none
 lam:gk X.H₀
structure Inv (X:Cx)(Q0:List (Addr×Obj))(σ:List (Option V))(H:Hp)(s:Shared):Prop where
 ok:X.Ok
 os:s.os=X.s₀.os
 bare:AllBare s.gens
 base:Un X.fs X.ex X.H₀ H X.s₀.heap s.heap
 loc:∃m,s.heap.Ns X.env.locals m/\∀(i:Nat)(x:Str)(v:V),X.N[i]? = some x->σ[i]? = some (some v)->Vis X.env.scope x->∃u,GB v u/\Look X.env s.heap m x u
 cell:∀x c,X.env.cells.lookup x=some c->∃v,s.heap.IsCell c v
 free:H X.env.locals=none
 freeC:∀x c,X.env.cells.lookup x=some c->H c=none
 pin:∀p∈X.pn++Q0,s.heap.get? p.1=some p.2/\H p.1=none/\p.1≠X.env.locals/\p.1∉X.fs/\∀v,p.2.data≠.cell v
 hok:HOk X.prog X.w H s.heap
 len:σ.length=X.N.length
 pos:tk0<=s.toks
variable {X:Cx}{Q0:List (Addr×Obj)}{σ:List (Option V)}{H H':Hp}{s:Shared}{h':Heap}
def Cx.Ok.nofr (ok:X.Ok)(e:X.base.get? b=some o):b∉X.fs:=fun hb=>by
 have:=(ok.funs.mem hb).1;rw[e]at this;cases this
def Inv.bs (I:Inv X Q0 σ H s):∀b o,X.base.get? b=some o->s.heap.get? b=some o/\H b=none:=fun b o e =>
 ⟨I.base.keep b o (I.ok.bs b o e).1 (I.ok.bs b o e).2 (I.ok.nofr e) (I.ok.noex b o e),I.base.free b o (I.ok.bs b o e).1 (I.ok.bs b o e).2 (I.ok.noex b o e)⟩
def Inv.bk (I:Inv X Q0 σ H s):∀b o,X.base.get? b=some o->s.heap.get? b=some o:=fun b o e=>(I.bs b o e).1
def Inv.mod (I:Inv X Q0 σ H s):Mod X.K X.mg X.base:=I.ok.mod
def Inv.kIn (I:Inv X Q0 σ H s):X.K.In s.heap:=I.ok.mod.kin.keeps I.bk
def Inv.lt (I:Inv X Q0 σ H s):X.env.locals<s.heap.objs.size:=let ⟨_,hn,_⟩:=I.loc;hn.lt
def Inv.sz (I:Inv X Q0 σ H s):X.s₀.heap.objs.size<=s.heap.objs.size:=le_trans I.ok.above (le_of_lt I.lt)
def Inv.nofs (I:Inv X Q0 σ H s)(h:s.heap.objs.size<=a):a∉X.fs:=fun hb=>by
 obtain⟨_,o,ho,_⟩:=I.ok.funs.mem hb;exact absurd (lt_of_lt_of_le (lt_size ho) (le_trans I.sz h)) (lt_irrefl _)
def Inv.cne (I:Inv X Q0 σ H s):∀x c,X.env.cells.lookup x=some c->c≠X.env.locals:=fun x c e z=>by
 obtain⟨v,o,ho,hd⟩:=I.cell x c e;obtain⟨m,⟨o',es,ep,ho',hd',_⟩,_⟩:=I.loc;rw[z,ho']at ho;cases ho;rw[hd']at hd;cases hd
def Inv.funs (I:Inv X Q0 σ H s):s.heap.FunFrames X.base X.V0:=by
 have all:∀(l:List Env),(∀b∈frs l,b∈X.fs)->X.s₀.heap.FunFrames X.base l->s.heap.FunFrames X.base l:=by
  intro l;induction l with
  |nil=>intro _ _;trivial
  |cons env r ih =>
   intro hs hl;obtain⟨hk,⟨L,o,hf,hn,ho,hd⟩,hr⟩:=hl;have hL:L∈X.fs:=hs L (by unfold frs;rw[List.filterMap_cons,hf];exact mem_cons_self);obtain⟨sl,e⟩:=I.base.slot L o ho (I.ok.frf L hL) hL fun z=>I.ok.exfs L z hL;exact⟨hk,⟨L,_,hf,hn,e,hd⟩,ih (fun b hb=>hs b (by unfold frs;rw[List.filterMap_cons,hf];exact mem_cons_of_mem _ hb)) hr⟩
 exact all X.V0 (fun _ hb=>hb) I.ok.funs
def Inv.stack (I:Inv X Q0 σ H s):s.heap.FunFrames X.base X.stack:=by rcases I.ok.stk with e|⟨e,hf⟩;rw[e];exact I.funs;rw[e];obtain⟨m,hn,_⟩:=I.loc;refine .cons (by rw[I.ok.kind];decide) hf hn ?_ I.funs;exact Heap.get?_none_of_le (le_trans I.ok.bsz I.ok.above)
def Inv.stkSub (I:Inv X Q0 σ H s):∀b∈frs X.stack,b∈X.env.locals::X.fs:=fun b hb=>by
 rcases I.ok.stk with e|⟨e,hf⟩;rw[e]at hb;exact mem_cons_of_mem _ hb;rw[e]at hb;unfold frs at hb;rw[List.filterMap_cons,hf]at hb;exact hb
def Inv.stkFree (I:Inv X Q0 σ H s):∀b∈frs X.stack,H b=none:=fun b hb=>by
 rcases mem_cons.mp (I.stkSub b hb) with e|hb;rw[e];exact I.free;obtain⟨_,o,ho,_⟩:=I.ok.funs.mem hb;exact I.base.free b o ho (I.ok.frf b hb) fun z=>I.ok.exfs b z hb
def Inv.step{ch:List Addr}(I:Inv X Q0 σ H s)
  (hch:∀b∈ch,(b∈X.ex\/X.s₀.heap.objs.size<=b)/\b≠X.env.locals/\(∀x c,X.env.cells.lookup x=some c->c≠b)/\∀p∈X.pn++Q0,p.1≠b)
  (keep:∀b o,b≠X.env.locals->b∉X.fs->b∉ch->s.heap.get? b=some o->H b=none->h'.get? b=some o)
  (slot:∀b o,b≠X.env.locals->b∈X.fs->b∉ch->s.heap.get? b=some o->H b=none->∃sl,h'.get? b=some { o with slots:=sl })(free:∀b o,b∉ch->s.heap.get? b=some o->H b=none->H' b=none)
  (there:∀b o,b∉ch->s.heap.get? b=some o->∃o',h'.get? b=some o')
  (tups:∀b xs,H b=some (.tup xs)->H' b=some (.tup xs))(frzs:∀b o u,H b=some (.frz o u)->H' b=some (.frz o u))(tbls:∀b,H b=some .lam->H' b=some .lam)
  (ns:∀m,s.heap.Ns X.env.locals m->h'.Ns X.env.locals m)(hok:HOk X.prog X.w H' h')(hg:AllBare g')(hk:tk0<=t':=by walk_at "p") :
  Inv X Q0 σ H' { s with heap:=h',gens:=g',drawn:=d',toks:=t' }:=by
 have neL:∀b o,X.s₀.heap.get? b=some o->b≠X.env.locals:=fun b o e=>ne_of_lt (lt_of_lt_of_le (lt_size e) I.ok.above);have neC:∀b o,X.s₀.heap.get? b=some o->b∉X.ex->b∉ch:=fun b o e hx hb=>by
  rcases(hch b hb).1 with z|z;exact hx z;exact absurd (lt_of_lt_of_le (lt_size e) z) (lt_irrefl _)
 have cellK:∀x c,X.env.cells.lookup x=some c->∀v,s.heap.IsCell c v->h'.IsCell c v:=fun x c e v ⟨o,ho,hd⟩=>by
  have nch:c∉ch:=fun z=>(hch c z).2.2.1 x c e rfl;by_cases hc:c∈X.fs;obtain⟨sl,q⟩:=slot c o (I.cne x c e) hc nch ho (I.freeC x c e);exact⟨_,q,hd⟩;exact⟨o,keep c o (I.cne x c e) hc nch ho (I.freeC x c e),hd⟩
 refine⟨I.ok,I.os,hg,⟨fun b o e n hb hx=>?_,fun b o e n hb hx=>?_,fun b o e n hx=>?_,fun b o e hx=>?_,fun b xs e=>tups b xs (I.base.tups b xs e),fun b o xs e=>frzs b o xs (I.base.frzs b o xs e),fun b e=>tbls b (I.base.tbls b e)⟩,?_,fun x c e=>?_,?_,fun x c e=>?_,fun p hp=>?_,hok,I.len,hk⟩;exact keep b o (neL b o e) hb (neC b o e hx) (I.base.keep b o e n hb hx) (I.base.free b o e n hx);obtain⟨sl,e1⟩:=I.base.slot b o e n hb hx;obtain⟨sl',e2⟩:=slot b _ (neL b o e) hb (neC b o e hx) e1 (I.base.free b o e n hx);exact⟨sl',e2⟩;obtain⟨o',e1⟩:=I.base.there b o e hx;exact free b o' (neC b o e hx) e1 (I.base.free b o e n hx);obtain⟨o',e1⟩:=I.base.there b o e hx;exact there b o' (neC b o e hx) e1
 ·obtain⟨m,hn,hl⟩:=I.loc;refine⟨m,ns m hn,fun i x v e1 e2 e3=>?_⟩;obtain⟨u,r,l⟩:=hl i x v e1 e2 e3;refine⟨u,r,?_⟩;rcases l with l|⟨k,c,e,z⟩;exact .inl l;exact .inr ⟨k,c,e,cellK x c e _ z⟩
 obtain⟨v,z⟩:=I.cell x c e;exact⟨v,cellK x c e v z⟩;obtain⟨m,⟨o,_,_,ho,_⟩,_⟩:=I.loc;exact free _ o (fun z=>(hch _ z).2.1 rfl) ho I.free;obtain⟨v,o,ho,hd⟩:=I.cell x c e;exact free c o (fun z=>(hch c z).2.2.1 x c e rfl) ho (I.freeC x c e);obtain⟨e,n,ne,nf,d⟩:=I.pin p hp;have nch:p.1∉ch:=fun z=>(hch p.1 z).2.2.2 p hp rfl;exact⟨keep p.1 p.2 ne nf nch e n,free p.1 p.2 nch e n,ne,nf,d⟩
def Inv.un(I:Inv X Q0 σ H s)(u:Un X.fs [] H H' s.heap h')(hok:HOk X.prog X.w H' h')(hk:tk0<=t':=by walk_at "p"):Inv X Q0 σ H' { s with heap:=h',toks:=t' }:=by
 obtain⟨m,⟨o,es,ep,ho,r⟩,_⟩:=id I.loc;obtain⟨sl,hL⟩:=u.any ho I.free (by simp);exact I.step (g':=s.gens) (d':=s.drawn) (ch:=[]) (fun _ z=>nomatch z) (fun b o _ hb _ e n=>u.keep b o e n hb (by simp)) (fun b o _ hb _ e n=>u.slot b o e n hb (by simp)) (fun b o _ e n=>u.free b o e n (by simp)) (fun b o _ e=>u.there b o e (by simp)) u.tups u.frzs u.tbls (fun m' hm=>by
  obtain⟨o',es',ep',ho',r'⟩:=hm;rw[ho]at ho';cases ho';exact⟨_,es',ep',hL,r'⟩) hok I.bare
def Inv.call(I:Inv X Q0 σ H s)(u:Un (frs X.stack) ch H H' s.heap h')(hok:HOk X.prog X.w H' h')(hg:AllBare g')
  (hch:∀b∈ch,(b∈X.ex\/X.s₀.heap.objs.size<=b)/\b≠X.env.locals/\(∀x c,X.env.cells.lookup x=some c->c≠b)/\∀p∈X.pn++Q0,p.1≠b)(hk:tk0<=t':=by walk_at "p") :
  Inv X Q0 σ H' { s with heap:=h',gens:=g',drawn:=d',toks:=t' }:=by
 obtain⟨m,⟨o,es,ep,ho,r⟩,_⟩:=id I.loc;obtain⟨sl,hL⟩:=u.any ho I.free fun z=>(hch _ z).2.1 rfl;exact I.step (ch:=ch) hch (fun b o hL hb hc e n=>u.keep b o e n (fun z=>(mem_cons.mp (I.stkSub b z)).elim hL hb) hc) (fun b o _ _ hc e n=>u.any e n hc) (fun b o hc e n=>u.free b o e n hc) (fun b o hc e=>u.there b o e hc) u.tups u.frzs u.tbls (fun m' hm=>by
  obtain⟨o',es',ep',ho',r'⟩:=hm;rw[ho]at ho';cases ho';exact⟨_,es',ep',hL,r'⟩) hok hg
def Inv.turned(I:Inv X Q0 σ H s)(k:∀b o,b≠it->s.heap.get? b=some o->h'.get? b=some o)(hn:H it=none)(hL:it≠X.env.locals)
  (h1:it∈X.ex\/X.s₀.heap.objs.size<=it)(h2:∀x c,X.env.cells.lookup x=some c->c≠it)(h3:∀p∈X.pn++Q0,p.1≠it)(hk:tk0<=t':=by walk_at "p"):Inv X Q0 σ H { s with heap:=h',toks:=t' }:=by
 have nit:∀b u,H b=some u->b≠it:=fun b u e z=>by rw[z,hn]at e;cases e
 refine I.step (g':=s.gens) (d':=s.drawn) (ch:=[it]) (fun b hb=>?_) (fun b o _ _ hc e _=>k b o (fun z=>hc (by simp[z])) e) (fun b o _ _ hc e _=>⟨o.slots,k b o (fun z=>hc (by simp[z])) e⟩) (fun _ _ _ _ n=>n)
  (fun b o hc e=>⟨o,k b o (fun z=>hc (by simp[z])) e⟩) (fun _ _ e=>e) (fun _ _ _ e=>e) (fun b e=>e) (fun m hm=>?_) (fun b u e=>?_) I.bare
 ·have e:b=it:=by simpa using hb
  subst e;exact⟨h1,hL,h2,h3⟩
 obtain⟨o,es,ep,ho,r⟩:=hm;exact⟨o,es,ep,k _ o (Ne.symm hL) ho,r⟩;refine(I.hok b u e).stay (fun c v hc q=>k c v ?_ q) (fun _ q=>q) fun _ _ q=>q;rcases hc with z|z;rw[z];exact nit b u e;exact nit c _ z
def Inv.tok (I:Inv X Q0 σ H s)(t:Nat)(hk:tk0<=t:=by walk_at "p"):Inv X Q0 σ H { s with toks:=t }:=I.un (h':=s.heap) (t':=t) Un.refl I.hok
def Inv.kept(I:Inv X Q0 σ H s)(k:∀b u,s.heap.get? b=some u->h'.get? b=some u)(hk:tk0<=t':=by walk_at "p"):Inv X Q0 σ H { s with heap:=h',toks:=t' }:=I.un (Un.kept k) (I.hok.kept k)
def Inv.laid(I:Inv X Q0 σ H s)(k:∀b u,s.heap.get? b=some u->h'.get? b=some u)(hp:s.heap.objs.size<=a)(new:HB X.prog X.w (upd H a o) h' a o)(hk:tk0<=t':=by walk_at "p") :
  Inv X Q0 σ (upd H a o) { s with heap:=h',toks:=t' }:=I.un (Un.laid k hp (I.hok.fresh hp)) (I.hok.laid k hp new)
def Inv.write(I:Inv X Q0 σ H s)(mu:Mut (H x))(he:e=x\/H e=some (.own x))(k:∀b u,b≠e->s.heap.get? b=some u->h'.get? b=some u)(heo:∃u,h'.get? e=some u)
  (new:HB X.prog X.w (upd H x o) h' x o)(hk:tk0<=t':=by walk_at "p"):Inv X Q0 σ (upd H x o) { s with heap:=h',toks:=t' }:=I.un (Un.write mu he k heo) (I.hok.write mu he k heo new)
def Inv.pins_of(I:Inv X Q0 σ H s)(h:∀p∈pins',s.heap.get? p.1=some p.2/\H p.1=none/\p.1≠X.env.locals/\p.1∉X.fs/\∀v,p.2.data≠.cell v):Inv X pins' σ H s :=
 ⟨I.ok,I.os,I.bare,I.base,I.loc,I.cell,I.free,I.freeC,fun p hp=>(mem_append.mp hp).elim (fun z=>I.pin p (mem_append_left _ z)) (h p),I.hok,I.len,I.pos⟩
def jk {N:List Str}(hN:N.Nodup){i j:Nat}(a:N[i]? = some x)(b:N[j]? = some x):i=j:=by obtain⟨h1,e1⟩:=List.getElem?_eq_some_iff.mp a;obtain⟨h2,e2⟩:=List.getElem?_eq_some_iff.mp b;exact(List.getElem_inj hN).mp (e1.trans e2.symm)
def Xo(I:Inv X Q0 σ H s)(hN:X.N.Nodup)(hi:X.N[i]? = some x)(hx:Loc X.env.scope x)(r:GB v u)
  (h:∀s',Inv X Q0 (σ.set i (some v)) H s'->(∃a,Heap.SameBut a s.heap s'.heap/\(a=X.env.locals\/X.env.cells.lookup x=some a))->Q () s')(hf:X.fn x=true\/X.env.scope.names.lookup x=some .local:=by first|exact .inl rfl|exact .inr rfl|assumption):wpAny M A (storeName X.env x u) Q E s:=by
 obtain⟨m,hn,hl⟩:=id I.loc;have hcls:(X.env.scope.kind == .class||(X.env.scope.kind == .module&&X.env.locals != X.env.globals))=false:=by rw[I.ok.kind];rfl
 have hiσ:i<σ.length:=by rw[I.len];exact(List.getElem?_eq_some_iff.mp hi).1
 have cne:=I.cne;have tracked:∀{a:Addr}{h':Heap},(∃o,s.heap.get? a=some o/\H a=none)->Heap.SameBut a s.heap h'->HOk X.prog X.w H h':=fun {a h'} ha hs b ob e=>by
  obtain⟨_,_,hfree⟩:=ha;refine(I.hok b ob e).stay (fun c w' hc q=>(hs.2 c ?_).trans q) (fun _ q=>q) fun _ _ q=>q;rintro rfl;rcases hc with rfl|hc;rw[hfree]at e;cases e;rw[hfree]at hc;cases hc
 rcases hx with hk|hk
 ·refine wpAny_storeName_local hk hn (fun h' hn' hs=>?_) hcls;obtain⟨oL,_,_,hoL,_⟩:=id hn;refine h _ ⟨I.ok,I.os,I.bare,⟨fun b o e n hb hx=>?_,fun b o e n hb hx=>?_,I.base.free,fun b o e hx=>?_,I.base.tups,I.base.frzs,I.base.tbls⟩,⟨_,hn',fun j y v' e1 e2 e3=>?_⟩,fun y c e=>?_,I.free,I.freeC,fun p hp=>?_,tracked ⟨oL,hoL,I.free⟩ hs,by simpa using I.len,by first|exact I.pos|exact le_trans I.pos (le_add_right _ _)⟩ ⟨_,hs,.inl rfl⟩;exact(hs.2 b (ne_of_lt (lt_of_lt_of_le (lt_size e) I.ok.above))).trans (I.base.keep b o e n hb hx);obtain⟨sl,e1⟩:=I.base.slot b o e n hb hx;exact⟨sl,(hs.2 b (ne_of_lt (lt_of_lt_of_le (lt_size e) I.ok.above))).trans e1⟩;obtain⟨o',e1⟩:=I.base.there b o e hx;exact⟨o',(hs.2 b (ne_of_lt (lt_of_lt_of_le (lt_size e) I.ok.above))).trans e1⟩
  ·by_cases hj:j=i;subst hj;rw[hi]at e1;cases e1;rw[getElem?_set_self hiσ]at e2;cases e2;exact⟨u,r,.inl ⟨hk,by simp⟩⟩;rw[getElem?_set_ne (Ne.symm hj)]at e2;obtain⟨u',r',q⟩:=hl j y v' e1 e2 e3;refine⟨u',r',?_⟩;rcases q with ⟨k,e⟩|⟨k,c,e,z⟩;refine .inl ⟨k,?_⟩;have:y≠x:=fun e=>hj (jk hN e1 (e ▸ hi));simp[this,e];exact .inr ⟨k,c,e,z.sameBut hs (cne y c e)⟩
  obtain⟨w',z⟩:=I.cell y c e;exact⟨w',z.sameBut hs (cne y c e)⟩;obtain⟨e,n,ne,nf,d⟩:=I.pin p hp;exact⟨(hs.2 p.1 ne).trans e,n,ne,nf,d⟩
 have hfn:X.fn x=true:=by
  rcases hf with z|z;exact z;rw[z]at hk;cases hk
 obtain⟨c,hc⟩:=I.ok.has x (.inl hk);obtain⟨w',z⟩:=I.cell x c hc;refine wpAny_storeName_cell I.ok.kind hk hc z (fun h' hc' hs=>?_);obtain⟨oc,hoc,hocd⟩:=id z;refine h { s with heap:=h' } ⟨I.ok,I.os,I.bare,⟨fun b o e n hb hx=>?_,fun b o e n hb hx=>?_,I.base.free,fun b o e hx=>?_,I.base.tups,I.base.frzs,I.base.tbls⟩,⟨m,hn.sameBut hs (Ne.symm (cne x c hc)),fun j y v' e1 e2 e3=>?_⟩,fun y c' e=>?_,I.free,I.freeC,fun p hp=>?_,tracked ⟨oc,hoc,I.freeC x c hc⟩ hs,by simpa using I.len,I.pos⟩ ⟨c,hs,.inr hc⟩;exact(hs.2 b (ne_of_lt (lt_of_lt_of_le (lt_size e) (I.ok.cab x c hfn hc)))).trans (I.base.keep b o e n hb hx);obtain⟨sl,e1⟩:=I.base.slot b o e n hb hx;exact⟨sl,(hs.2 b (ne_of_lt (lt_of_lt_of_le (lt_size e) (I.ok.cab x c hfn hc)))).trans e1⟩;obtain⟨o',e1⟩:=I.base.there b o e hx;exact⟨o',(hs.2 b (ne_of_lt (lt_of_lt_of_le (lt_size e) (I.ok.cab x c hfn hc)))).trans e1⟩
 ·by_cases hj:j=i;subst hj;rw[hi]at e1;cases e1;rw[getElem?_set_self hiσ]at e2;cases e2;exact⟨u,r,.inr ⟨.inl hk,c,hc,hc'⟩⟩;rw[getElem?_set_ne (Ne.symm hj)]at e2;obtain⟨u',r',q⟩:=hl j y v' e1 e2 e3;refine⟨u',r',?_⟩;rcases q with q|⟨k,c',e,z'⟩;exact .inl q;refine .inr ⟨k,c',e,z'.sameBut hs ?_⟩;rintro rfl;exact hj (jk hN e1 (I.ok.inj _ _ _ e hc ▸ hi))
 ·by_cases hcc:c' = c;subst hcc;exact⟨_,hc'⟩;obtain⟨w2,z2⟩:=I.cell y c' e;exact⟨w2,z2.sameBut hs hcc⟩
 obtain⟨e,n,ne,nf,d⟩:=I.pin p hp;refine⟨(hs.2 p.1 ?_).trans e,n,ne,nf,d⟩;intro q;rw[q,hoc]at e;have q':oc=p.2:=Option.some.inj e;exact d w' (by rw[<-q'];exact hocd)
def ki(I:Inv X Q0 σ H s)(hN:X.N.Nodup)(hi:X.N[i]? = some x)(hx:Loc X.env.scope x)(r:GB v u)
  (h:∀s',Inv X Q0 (σ.set i (some v)) H s'->Q () s')(hf:X.fn x=true\/X.env.scope.names.lookup x=some .local:=by first|exact .inl rfl|exact .inr rfl|assumption):wpAny M A (storeName X.env x u) Q E s :=
 Xo I hN hi hx r (fun s' I' _=>h s' I') hf
def Inv.call'(I:Inv X Q0 σ H s)(ho:s'.os=s.os)(u:Un (frs X.stack) ch H H' s.heap s'.heap)(hok:HOk X.prog X.w H' s'.heap)(hg:AllBare s'.gens)
  (hch:∀b∈ch,(b∈X.ex\/X.s₀.heap.objs.size<=b)/\b≠X.env.locals/\(∀x c,X.env.cells.lookup x=some c->c≠b)/\∀p∈X.pn++Q0,p.1≠b)(hk:tk0<=s'.toks:=by walk_at "p"):Inv X Q0 σ H' s':=by
 obtain⟨h',g',d',t',o'⟩:=s';have e:o' = s.os:=ho;subst e;exact I.call (g':=g') (t':=t') (d':=d') u hok hg hch
abbrev XK:=Value->Option Addr->Hp->Prop
abbrev St:=List (Option V)
abbrev VK:=V->Hp->Prop
abbrev TE:=St->Hp->VK->Prop
abbrev TT:=St->Hp->(Bool->Hp->Prop)->Prop
abbrev TA:=St->Hp->(List V->Hp->Prop)->Prop
structure GC where
 nx:St->Hp->Prop
 rt:VK
 bk:St->Hp->Prop:=fun _ _=>False
 ct:St->Hp->Prop:=fun _ _=>False
abbrev TS:=GC->St->Hp->Prop
def EP (X:Cx)(Q0:List (Addr×Obj))(σ:St)(Q:VK)(u:Value)(s':Shared):Prop:=tk0<=s'.toks->∃v H',Inv X Q0 σ H' s'/\GB v u/\Q v H'
def TP (X:Cx)(Q0:List (Addr×Obj))(σ:St)(Q:Bool->Hp->Prop)(b:Bool)(s':Shared):Prop:=tk0<=s'.toks->∃H',Inv X Q0 σ H' s'/\Q b H'
def AP (X:Cx)(Q0:List (Addr×Obj))(σ:St)(Q:List V->Hp->Prop)(us:List Value)(s':Shared):Prop:=tk0<=s'.toks->∃vs H',Inv X Q0 σ H' s'/\EB vs us/\Q vs H'
def SP (X:Cx)(Q0:List (Addr×Obj))(D:GC)(f:Flow)(s':Shared):Prop :=
 tk0<=s'.toks->match f with
 |.next=>∃σ' H',Inv X Q0 σ' H' s'/\D.nx σ' H'
 |.brk=>∃σ' H',Inv X Q0 σ' H' s'/\D.bk σ' H'
 |.cont=>∃σ' H',Inv X Q0 σ' H' s'/\D.ct σ' H'
 |.ret u=>∃v σ' H',Inv X Q0 σ' H' s'/\GB v u/\D.rt v H'
def PE (X:Cx)(e:Expr)(t:TE):Prop :=
 ∀(Q0:List (Addr×Obj))(s:Shared)(σ:St)(H:Hp)(Q:VK),Inv X Q0 σ H s->t σ H Q->wpAny (model X.prog X.w) X.A (eval e X.env) (EP X Q0 σ Q) X.xe s
def PT (X:Cx)(e:Expr)(t:TT):Prop :=
 ∀(Q0:List (Addr×Obj))(s:Shared)(σ:St)(H:Hp)(Q:Bool->Hp->Prop),Inv X Q0 σ H s->t σ H Q->wpAny (model X.prog X.w) X.A (isTrue e X.env (eval e X.env)) (TP X Q0 σ Q) X.xe s
def PW (X:Cx)(e:Expr)(t:TT):Prop :=
 ∀(whole:Sem Value)(Q0:List (Addr×Obj))(s:Shared)(σ:St)(H:Hp)(Q:Bool->Hp->Prop),Inv X Q0 σ H s->t σ H Q->wpAny (model X.prog X.w) X.A (isTrue e X.env whole) (TP X Q0 σ Q) X.xe s
def PW.pt(h:PW X e t):PT X e t:=h _
def PA (X:Cx)(es:List Expr)(t:TA):Prop :=
 ∀(pos:Pos)(Q0:List (Addr×Obj))(s:Shared)(σ:St)(H:Hp)(Q:List V->Hp->Prop),Inv X Q0 σ H s->t σ H Q->wpAny (model X.prog X.w) X.A (spliced (backTo pos (starEach es X.env))) (AP X Q0 σ Q) X.xe s
def PS (X:Cx)(st:Stmt)(t:TS):Prop :=
 ∀(Q0:List (Addr×Obj))(s:Shared)(σ:St)(H:Hp)(D:GC),Inv X Q0 σ H s->t D σ H->wpAny (model X.prog X.w) X.A (exec st X.env) (SP X Q0 D) X.xe s
def PSs (X:Cx)(st:List Stmt)(t:TS):Prop :=
 ∀(Q0:List (Addr×Obj))(s:Shared)(σ:St)(H:Hp)(D:GC),Inv X Q0 σ H s->t D σ H->wpAny (model X.prog X.w) X.A (execs st X.env) (SP X Q0 D) X.xe s
def thn{m:Sem β}{P P':β->Shared->Prop}(h:wpAny M A m (fun a r=>tk0<=r.toks->P a r) F s)(hP:∀a r,P a r->P' a r)(hs:tk0<=s.toks:=by walk_at "p"):wpAny M A m P' F s :=
 wpAny_mono (wpAny_toks_of hs h) (fun _ _ x=>hP _ _ (x.2 x.1)) fun _ _ x=>x.2
def thnK{m:Sem β}{P P':β->Shared->Prop}(h:wpAny M A m (fun a r=>tk0<=r.toks->P a r) F s)(hP:∀a r,tk0<=r.toks->P a r->P' a r)(hs:tk0<=s.toks:=by first|assumption|exact Inv.pos (by assumption)):wpAny M A m P' F s :=
 wpAny_mono (wpAny_toks_of hs h) (fun _ _ x=>hP _ _ x.1 (x.2 x.1)) fun _ _ x=>x.2
def bH(h:wpAny M A m P F s)(hP:∀a r,tk0<=r.toks->P a r->P' a r)(hs:tk0<=s.toks:=by first|assumption|exact Inv.pos (by assumption)):wpAny M A m P' F s :=
 wpAny_mono (wpAny_toks_of hs h) (fun _ _ x=>hP _ _ x.1 x.2) fun _ _ x=>x.2
def tVar (i:Nat):TE:=fun σ H Q=>∃v,σ[i]? = some (some v)/\Q v H
def tC (v:V):TE:=fun _ H Q=>Q v H
def dg(hN:X.N[i]? = some x)(hv:Vis X.env.scope x)(hd:(x == ("__debug__":Str))=false:=by decide)(hcd:(x == ("__classdict__":Str))=false:=by decide):PE X (.Name x pos) (tVar i):=by intro Q0 s σ H Q I h;obtain⟨v,e,h⟩:=h;obtain⟨m,hn,hl⟩:=I.loc;obtain⟨u,r,l⟩:=hl i x v hN e hv;have fin:EP X Q0 σ Q u s:=(fun _=>⟨v,H,I,r,h⟩);rcases l with ⟨hk,hm⟩|⟨hk,c,hc,hcell⟩;exact wpAny_Name (wpAny_loadName_local I.ok.kind hk hn hm fin) hd;rcases hk with hk|hk;exact wpAny_Name (wpAny_loadName_cell I.ok.kind hk hc hcell fin) hd;exact wpAny_Name (wpAny_loadName_free I.ok.kind hk hc hcell fin hcd) hd
def Ab {i j pos}:PE X (.Constant (.int i) j pos) (tC (.int i)):=fun _ _ _ H _ I h=>wpAny_Constant_int (fun _=>⟨.int i,H,I.tok _,⟨_,rfl⟩,h⟩)
def nk {b j pos}:PE X (.Constant (.bool b) j pos) (tC (.bl b)):=fun _ _ _ H _ I h=>Constant_bool (fun _=>⟨.bl b,H,I,rfl,h⟩)
def gg {j pos}:PE X (.Constant .none j pos) (tC .non):=fun _ _ _ H _ I h=>Constant_none (fun _=>⟨.non,H,I,rfl,h⟩)
def Md {x j pos}:PE X (.Constant (.str x) j pos) (tC (.str x)):=fun _ _ _ H _ I h=>Calls.Constant_str (fun _=>⟨.str x,H,I.tok _,⟨_,rfl⟩,h⟩)
def Gl (X:Cx)(x:Str):Prop:=X.env.kindOf x=some .globalImplicit
def ig(I:Inv X Q0 σ H s)(hg:Gl X x)(hm:X.mg x=some u)(h:Q u s)
  (hd:(x == ("__debug__":Str))=false:=by decide):wpAny (model X.prog X.w) X.A (eval (.Name x pos) X.env) Q E s :=
 Calls.Name_function_global I.ok.kind hg (Calls.loadGlobal_global (by rw[I.ok.glob];exact I.mod.glob.keeps I.bk) hm h) hd
def Od(I:Inv X Q0 σ H s)(hg:Gl X x)(hm:X.mg x=none)(hv:bootBuiltins x=some u)(h:Q u s)
  (hn:x ≠ "__name__":=by decide)(hd:(x == ("__debug__":Str))=false:=by decide):wpAny (model X.prog X.w) X.A (eval (.Name x pos) X.env) Q E s:=by
 obtain⟨mb,h1,h2⟩:=I.mod.blt;exact Calls.Name_function_global I.ok.kind hg (Calls.loadGlobal_builtin (by rw[I.ok.glob];exact I.mod.glob.keeps I.bk) hm (by rw[I.ok.blt];exact h1.keeps I.bk) ((h2 x hn).trans hv) h) hd
def Yo(hg:Gl X x)(hm:X.mg x=some u)(r:GB v u)(hd:(x == ("__debug__":Str))=false:=by decide):PE X (.Name x pos) (tC v) :=
 fun _ _ _ H _ I h=>ig I hg hm (fun _=>⟨v,H,I,r,h⟩) hd
def li(hg:Gl X x)(hm:X.mg x=none)(hv:bootBuiltins x=some u)(r:GB v u)(hn:x ≠ "__name__":=by decide)(hd:(x == ("__debug__":Str))=false:=by decide):PE X (.Name x pos) (tC v) :=
 fun _ _ _ H _ I h=>Od I hg hm hv (fun _=>⟨v,H,I,r,h⟩) hn hd
variable {a b:Expr}{ta tb:TE}{pos:Pos}
def PC (X:Cx)(op:CmpOp)(a b:Expr)(t:TE):Prop :=
 ∀(Q0:List (Addr×Obj))(s:Shared)(σ:St)(H:Hp)(Q:VK),Inv X Q0 σ H s->t σ H Q ->
  wpAny (model X.prog X.w) X.A (eval a X.env) (fun v s₁=>wpAny (model X.prog X.w) X.A (eval b X.env) (fun u s₂=>wpAny (model X.prog X.w) X.A (compareOp op v u) (EP X Q0 σ Q) X.xe s₂) X.xe s₁) X.xe s
def qk (b:Expr)(h:op≠.In)(h2:op≠.NotIn):behindInMarks op b=false:=by
 have e1:(op == CmpOp.In)=false:=by cases op<;>first|rfl|exact absurd rfl h
 have e2:(op == CmpOp.NotIn)=false:=by cases op<;>first|rfl|exact absurd rfl h2
 cases b<;>first|rfl|(show(_&&(op == .In||op == .NotIn)&&_)=false;rw[e1,e2,Bool.or_false,Bool.and_false,Bool.false_and])
def tB (t:TE):TT:=fun σ H Q=>t σ H fun x H1=>∃c,x=.bl c/\Q c H1
def Jv(h:PC X op a b t)(h1:behindInMarks op b=false:=by first|exact qk _ (by decide) (by decide)|rfl):PE X (.Compare a [op] [b] pos) t:=fun Q0 s σ H Q I hw=>wpAny_Compare1 (h Q0 s σ H Q I hw) h1
def jg(h:PC X op a b t)(h1:behindInMarks op b=false:=by first|exact qk _ (by decide) (by decide)|rfl):PT X (.Compare a [op] [b] pos) (tB t):=by intro Q0 s σ H Q I hw;refine wpAny_isTrue_Compare1 (bH (h Q0 s σ H _ I hw) fun v s1 k1 h1=>bH (hs:=k1) h1 fun u s2 k2 h2=>thn (hs:=k2) h2 fun c s3 ⟨x,H1,I1,r1,q1⟩=>?_) h1;obtain⟨d,rfl,q⟩:=q1;cases r1;exact wpAny_truthy_bool (fun _=>⟨H1,I1,q⟩)
def Zc(h:PE X e t)(he:∀whole,isTrue e X.env whole=(do let v <-whole;standAt e.pos;holding [v] (truthy v)):=by intro _;rfl):PT X e (tB t):=by intro Q0 s σ H Q I hw;refine isTrue_plain (thn (h Q0 s σ H _ I hw) fun v s1 ⟨x,H1,I1,r1,q1⟩=>?_) (he _);obtain⟨d,rfl,q⟩:=q1;cases r1;exact wpAny_truthy_bool (fun _=>⟨H1,I1,q⟩)
variable {tA tB':TT}{gB:List Expr}
def tAnd (t u:TT):TT:=fun σ H Q=>t σ H fun c H1=>if c=true then u σ H1 Q else Q false H1
def tOr (t u:TT):TT:=fun σ H Q=>t σ H fun c H1=>if c=true then Q true H1 else u σ H1 Q
def tNot (t:TT):TT:=fun σ H Q=>t σ H fun c H1=>Q (!c) H1
def y8 (ha:PT X a tA):PW X (.BoolOp .And [a] pos) tA:=by
 intro wh Q0 s σ H Q I h;refine isTrue_and (thn (ha Q0 s σ H Q I h) fun c s1 e=>?_);cases c with
 |true=>exact isTrue_and_nil fun _=>e
 |false=>exact fun _=>e
def Zo (ha:PT X a tA):PW X (.BoolOp .Or [a] pos) tA:=by
 intro wh Q0 s σ H Q I h;refine isTrue_or (thn (ha Q0 s σ H Q I h) fun c s1 e=>?_);cases c with
 |false=>exact isTrue_or_nil fun _=>e
 |true=>exact fun _=>e
def mi (ha:PT X a tA)(hb:PW X (.BoolOp .And (b::gB) pos) tB'):PW X (.BoolOp .And (a::b::gB) pos) (tAnd tA tB'):=by
 intro wh Q0 s σ H Q I h;refine isTrue_and (thn (ha Q0 s σ H _ I h) fun c s1 ⟨H1,I1,q1⟩=>?_);cases c with
 |true=>exact hb wh Q0 s1 σ H1 Q I1 q1
 |false=>exact(fun _=>⟨H1,I1,q1⟩)
def pw_or (ha:PT X a tA)(hb:PW X (.BoolOp .Or (b::gB) pos) tB'):PW X (.BoolOp .Or (a::b::gB) pos) (tOr tA tB'):=by
 intro wh Q0 s σ H Q I h;refine isTrue_or (thn (ha Q0 s σ H _ I h) fun c s1 ⟨H1,I1,q1⟩=>?_);cases c with
 |true=>exact(fun _=>⟨H1,I1,q1⟩)
 |false=>exact hb wh Q0 s1 σ H1 Q I1 q1
def sk (ha:PT X a tA):PT X (.UnaryOp .Not a pos) (tNot tA):=by intro Q0 s σ H Q I h;exact isTrue_not (ha Q0 s σ H (fun c H1=>Q (!c) H1) I h)
def j6j (ta tb:TE):TE:=fun σ H Q=>ta σ H fun x H1=>∃c,x=.bl c/\if c=true then tb σ H1 Q else Q (.bl false) H1
def j4z (ta:TE):TE:=fun σ H Q=>ta σ H fun x H1=>∃c,x=.bl c/\Q (.bl (!c)) H1
def uk {op}(h:PE X a t):PE X (.BoolOp op [a] pos) t:=fun Q0 s σ H Q I hw=>BoolOp_one (h Q0 s σ H Q I hw)
def oi (ha:PE X a ta)(hb:PE X (.BoolOp .And (b::gB) pos) tb):PE X (.BoolOp .And (a::b::gB) pos) (j6j ta tb):=by
 intro Q0 s σ H Q I h;refine BoolOp_and (thn (ha Q0 s σ H _ I h) fun v s1 zq=>?_);obtain⟨x,H1,I1,r1,q1⟩:=zq;obtain⟨c,rfl,q1⟩:=q1;cases r1;refine wpAny_truthy_bool ?_;cases c with
 |true=>exact hb Q0 s1 σ H1 Q I1 q1
 |false=>exact(fun _=>⟨.bl false,H1,I1,rfl,q1⟩)
def ap (ha:PE X a ta):PE X (.UnaryOp .Not a pos) (j4z ta):=by intro Q0 s σ H Q I h;refine UnaryOp_ (thn (ha Q0 s σ H _ I h) fun v s1 zq=>?_);obtain⟨x,H1,I1,r1,q1⟩:=zq;obtain⟨c,rfl,q1⟩:=q1;cases r1;exact not_of (wpAny_truthy_bool (fun _=>⟨.bl (!c),H1,I1,rfl,q1⟩))
def tIf (t:TT)(ta tb:TE):TE:=fun σ H Q=>t σ H fun c H1=>if c=true then ta σ H1 Q else tb σ H1 Q
def bp(hc:PT X c tA)(ha:PE X a ta)(hb:PE X b tb):PE X (.IfExp c a b pos) (tIf tA ta tb):=by
 intro Q0 s σ H Q I h;refine wpAny_IfExp (thn (hc Q0 s σ H _ I h) fun d s1 ⟨H1,I1,q1⟩=>?_);cases d with
 |true=>exact ha Q0 s1 σ H1 Q I1 q1
 |false=>exact hb Q0 s1 σ H1 Q I1 q1
def SqL (K:W.Frag)(H:Hp)(a:Addr)(xs:List V):Prop :=
 Rd H a (.lst xs) \/
  ∃(o:Obj)(Z0:Array Value)(n:Nat),K.lookup a=some o/\o.cls=.type "list"/\o.dict=none/\o.data=.seq Z0 n/\Z0.size<=sizeLine/\EB xs Z0.toList
def SqT (K:W.Frag)(H:Hp)(a:Addr)(xs:List V):Prop :=
 Rd H a (.tup xs) \/
  ∃(o:Obj)(Z0:Array Value)(n:Nat),K.lookup a=some o/\o.cls=.type "tuple"/\o.data=.seq Z0 n/\Z0.size<=sizeLine/\EB xs Z0.toList
noncomputable def absV:Value->Option V
 |.none=>some .non
 |.bool b=>some (.bl b)
 |.int i _=>some (.int i)
 |.str x _=>some (.str x)
 |.bytes b _=>some (.byt b)
 |.float b _=>some (.flt b)
 |.ref a=>some (.ref a)
 |.type n=>some (.ty n)
 |_=>none
def GB.abs(r:GB x u):absV u=some x:=by
 cases x with
 |non=>cases r;rfl
 |bl _=>cases r;rfl
 |int _=>obtain⟨t,rfl⟩:=r;rfl
 |str _=>obtain⟨t,rfl⟩:=r;rfl
 |byt _=>obtain⟨t,rfl⟩:=r;rfl
 |flt _=>obtain⟨t,rfl⟩:=r;rfl
 |ref _=>cases r;rfl
 |ty _=>cases r;rfl
def GB.inj(r:GB x u)(q:GB y u):x=y:=Option.some.inj (r.abs.symm.trans q.abs)
def EB.inj(h:EB xs us)(h':EB ys us):xs=ys:=by
 induction h generalizing ys with
 |nil=>cases h';rfl
 |cons r t ih=>cases h' with
  |cons r' t'=>rw[r.inj r',ih t']
end
section
variable {X:Cx}{Q0:List (Addr×Obj)}{σ:St}{H:Hp}{s:Shared}{a:Addr}{xs ys:List V}
def SqL.of {K:W.Frag}(h:H a=some (.lst xs)):SqL K H a xs:=.inl (.inl h)
def SqT.of {K:W.Frag}(h:H a=some (.tup xs)):SqT K H a xs:=.inl (.inl h)
def Inv.list (I:Inv X Q0 σ H s)(h:SqL X.K H a xs):∃Z0:List Value,EB xs Z0/\PlainL s.heap a Z0.toArray/\xs.length<=sizeLine:=by
 rcases h with h|⟨o,Z0,n,hk,hc,hd,hs,hz,r⟩;obtain⟨z,Z0,n,r,e⟩:=h.ok I.hok;exact⟨Z0,r,⟨_,n,e,rfl,rfl,rfl⟩,z⟩;refine⟨Z0.toList,r,⟨o,n,I.kIn a o hk,hc,hd,by simpa using hs⟩,?_⟩;have e:=r.length;simp only[Array.length_toList]at e
 lia
def Inv.tuple (I:Inv X Q0 σ H s)(h:SqT X.K H a xs):∃Z0:List Value,EB xs Z0/\IsTup s.heap a Z0.toArray/\xs.length<=sizeLine:=by
 rcases h with h|⟨o,Z0,n,hk,hc,hs,hz,r⟩;obtain⟨z,Z0,r,p⟩:=h.ok I.hok;exact⟨Z0,r,p,z⟩;refine⟨Z0.toList,r,⟨o,I.kIn a o hk,hc,n,by simpa using hs⟩,?_⟩;have e:=r.length;simp only[Array.length_toList]at e
 lia
def Inv.list_inj (I:Inv X Q0 σ H s)(h:SqL X.K H a xs)(h':SqL X.K H a ys):xs=ys:=by
 obtain⟨Z0,r,⟨o,n,e,_,_,d⟩,_⟩:=I.list h;obtain⟨its',r',⟨o',n',e',_,_,d'⟩,_⟩:=I.list h';rw[e]at e';cases e';rw[d]at d';injection d' with d1 _;have:Z0=its':=by simpa using congrArg Array.toList d1
 subst this;exact r.inj r'
noncomputable abbrev Cx.wish (X:Cx) (E:Value->Shared->Prop):Cx:={ X with xe:=E }
noncomputable abbrev Cx.nox (X:Cx):Cx:=X.wish fun _ _=>False
def Cx.Ok.wish(ok:X.Ok)(E:Value->Shared->Prop):(X.wish E).Ok :=
 ⟨ok.mod,ok.kind,ok.glob,ok.blt,ok.above,ok.inj,ok.has,ok.cab,ok.hd,ok.frames,ok.stk,ok.exf,ok.bs,ok.bsz,ok.noex,ok.exfs,ok.funs,ok.frf,ok.lam⟩
def Cx.Ok.unwish(ok:(X.wish E).Ok):X.Ok :=
 ⟨ok.mod,ok.kind,ok.glob,ok.blt,ok.above,ok.inj,ok.has,ok.cab,ok.hd,ok.frames,ok.stk,ok.exf,ok.bs,ok.bsz,ok.noex,ok.exfs,ok.funs,ok.frf,ok.lam⟩
variable {E:Value->Shared->Prop}
def Inv.wish (I:Inv X Q0 σ H s)(E:Value->Shared->Prop):Inv (X.wish E) Q0 σ H s:=⟨I.ok.wish E,I.os,I.bare,I.base,I.loc,I.cell,I.free,I.freeC,I.pin,I.hok,I.len,I.pos⟩
def Inv.unwish (I:Inv (X.wish E) Q0 σ H s):Inv X Q0 σ H s:=⟨I.ok.unwish,I.os,I.bare,I.base,I.loc,I.cell,I.free,I.freeC,I.pin,I.hok,I.len,I.pos⟩
def SP.unwish(h:SP (X.wish E) Q0 D f s'):SP X Q0 D f s':=by
 intro hk;replace h:=h hk;cases f with
 |next=>obtain⟨σ',H',I,q⟩:=h;exact⟨σ',H',I.unwish,q⟩
 |brk=>obtain⟨σ',H',I,q⟩:=h;exact⟨σ',H',I.unwish,q⟩
 |cont=>obtain⟨σ',H',I,q⟩:=h;exact⟨σ',H',I.unwish,q⟩
 |ret u=>obtain⟨v,σ',H',I,r,q⟩:=h;exact⟨v,σ',H',I.unwish,r,q⟩
def PSs.nox {st:List Stmt}(h:PSs X.nox st t):PSs X st t:=fun Q0 s σ H D I hw =>
 wpAny_mono (h Q0 s σ H D (I.wish _) hw) (fun _ _ q=>q.unwish) fun _ _ z=>False.elim z
variable {st:Stmt}{gB:List Stmt}{t u:TS}{e:Expr}{te:TE}{pos:Pos}
def q4s:TS:=fun D σ H=>D.nx σ H
def tSeq (t u:TS):TS:=fun D σ H=>t { D with nx:=u D } σ H
def dc:PSs X [] q4s:=fun _ _ σ H _ I h=>wpAny_execs_nil (fun _=>⟨σ,H,I,h⟩)
def Ra (h1:PS X st t)(h2:PSs X gB u):PSs X (st::gB) (tSeq t u):=by
 intro Q0 s σ H D I h;refine wpAny_execs_cons (thn (h1 Q0 s σ H { D with nx:=u D } I h) fun f s1 q=>?_);cases f with
 |next =>
  obtain⟨σ',H',I',q⟩:=q;exact h2 Q0 s1 σ' H' D I' q
 |ret v=>exact fun _=>q
 |brk=>exact fun _=>q
 |cont=>exact fun _=>q
def Ya (h1:PS X st t):PSs X [st] t:=by
 intro Q0 s σ H D I h;refine wpAny_execs_cons (thn (h1 Q0 s σ H D I h) fun f s1 q=>?_);cases f with
 |next=>exact wpAny_execs_nil fun _=>q
 |ret v=>exact fun _=>q
 |brk=>exact fun _=>q
 |cont=>exact fun _=>q
def Kv:TS:=fun D σ H=>D.bk σ H
def Lv:PS X (.Break pos) Kv:=fun _ _ σ H _ I h=>wpAny_Break (fun _=>⟨σ,H,I,h⟩)
def Inv.quiet(I:Inv X Q0 σ H s):interactive X.env=false:=by simp[interactive,I.ok.kind]
def x7f (te:TE):TS:=fun D σ H=>te σ H fun _ H1=>D.nx σ H1
def Vb (he:PE X e te)(hs:swapsWith e none pos.line X.env=pure false:=by rfl):PS X (.Expr e pos) (x7f te):=by intro Q0 s σ H D I h;exact wpAny_Expr_any (thn (he Q0 s σ H _ I h) fun v s1 ⟨x,H1,I1,r1,q1⟩=>(fun _=>⟨σ,H1,I1,q1⟩)) I.quiet hs
def tRet (te:TE):TS:=fun D σ H=>te σ H D.rt
def Sc (he:PE X e te):PS X (.Return (some e) pos) (tRet te):=by intro Q0 s σ H D I h;exact wpAny_Return_some (thn (he Q0 s σ H _ I h) fun v s1 ⟨x,H1,I1,r1,q1⟩=>(fun _=>⟨x,σ,H1,I1,r1,q1⟩))
def tIfS (c:TT)(t u:TS):TS:=fun D σ H=>c σ H fun b H1=>if b=true then t D σ H1 else u D σ H1
def vc{a b:List Stmt}(hc:PT X c tc)(ha:PSs X a t)(hb:PSs X b u):PS X (.If c a b pos) (tIfS tc t u):=by
 intro Q0 s σ H D I h;refine wpAny_If (thn (hc Q0 s σ H _ I h) fun d s1 ⟨H1,I1,q1⟩=>?_);cases d with
 |true=>exact ha Q0 s1 σ H1 D I1 q1
 |false=>exact hb Q0 s1 σ H1 D I1 q1
def y8k:TS:=fun _ _ _=>False
def ip:PS X st y8k:=fun _ _ _ _ _ _ h=>h.elim
def jp:PSs X sts y8k:=fun _ _ _ _ _ _ h=>h.elim
abbrev TG:=V->St->Hp->(St->Hp->Prop)->Prop
abbrev TGs:=List V->St->Hp->(St->Hp->Prop)->Prop
def PG (X:Cx)(G0:Expr)(t:TG):Prop :=
 ∀(Q0:List (Addr×Obj))(s:Shared)(σ:St)(H:Hp)(v:V)(u:Value)(Q:St->Hp->Prop),Inv X Q0 σ H s->GB v u->t v σ H Q ->
  wpAny (model X.prog X.w) X.A (assign G0 X.env u) (fun _ s'=>tk0<=s'.toks->∃σ' H',Inv X Q0 σ' H' s'/\Q σ' H') X.xe s
def PGs (X:Cx)(ts:List Expr)(t:TGs):Prop :=
 ∀(Q0:List (Addr×Obj))(s:Shared)(σ:St)(H:Hp)(vs:List V)(us:List Value)(Q:St->Hp->Prop),Inv X Q0 σ H s->EB vs us->t vs σ H Q ->
  wpAny (model X.prog X.w) X.A (assignInOrder ((assignEach ts X.env).map (·.2)) us) (fun _ s'=>tk0<=s'.toks->∃σ' H',Inv X Q0 σ' H' s'/\Q σ' H') X.xe s
abbrev TSet:=V->V->V->Hp->(Hp->Prop)->Prop
def PSet (X:Cx)(t:TSet):Prop :=
 ∀(Q0:List (Addr×Obj))(s:Shared)(σ:St)(H:Hp)(o i v:V)(ov iv u:Value)(Q:Hp->Prop),Inv X Q0 σ H s->GB o ov->GB i iv->GB v u->t o i v H Q ->
  wpAny (model X.prog X.w) X.A (setItem ov iv u) (fun _ s'=>tk0<=s'.toks->∃H',Inv X Q0 σ H' s'/\Q H') X.xe s
def x0c (i:Nat):TG:=fun v σ H Q=>Q (σ.set i (some v)) H
def jd(hN:X.N.Nodup)(hi:X.N[i]? = some x)(hx:Loc X.env.scope x)(hf:X.fn x=true\/X.env.scope.names.lookup x=some .local:=by first|exact .inl rfl|exact .inr rfl|assumption):PG X (.Name x pos) (x0c i):=by intro Q0 s σ H v u Q I r h;exact wpAny_assign_Name (ki I hN hi hx r (fun s' I'=>(fun _=>⟨_,H,I',h⟩)) hf)
def gNil:TGs:=fun vs σ H Q=>vs=[]/\Q σ H
def j3t (t:TG)(u:TGs):TGs:=fun vs σ H Q=>∃v r,vs=v::r/\t v σ H fun σ' H'=>u r σ' H' Q
def qi:PGs X [] gNil:=by intro Q0 s σ H vs us Q I r h;obtain⟨e,h⟩:=h;subst e;cases r;exact assignInOrder_nil (fun _=>⟨σ,H,I,h⟩)
def kg{t:TG}{u:TGs}(h1:PG X e t)(h2:PGs X es u)
  (hs:(assignEach (e::es) X.env).map (·.2)=assign e X.env::(assignEach es X.env).map (·.2):=by rfl):PGs X (e::es) (j3t t u):=by
 intro Q0 s σ H vs us Q I r h;obtain⟨v,vr,e1,h⟩:=h;subst e1;cases r with
 |cons r rr =>
  rw[hs];refine assignInOrder_cons (thn (h1 Q0 s σ H _ _ _ I r h) fun _ s1 ⟨σ1,H1,I1,q1⟩=>?_);exact h2 Q0 s1 σ1 H1 _ _ Q I1 rr q1
def gTup (K:W.Frag)(n:Nat)(t:TGs):TG:=fun v σ H Q=>∃a xs,v=.ref a/\SqT K H a xs/\xs.length=n/\t xs σ H Q
def ui{t:TGs}(hc:X.calm=true)(h:PGs X es t)
  (hn:(assignEach es X.env).length=n:=by rfl)(I0:(assignEach es X.env).findIdx? (·.1)=none:=by rfl):PG X (.Tuple es k pos) (gTup X.K n t):=by
 intro Q0 s σ H v u Q I r hw;obtain⟨a,xs,e1,hq,hl,hw⟩:=hw;subst e1;cases r;obtain⟨Z0,rv,ht,hz⟩:=I.tuple hq;refine assign_Tuple_tuple (I.ok.hd hc) ht (by simp[hn,<-hl,rv.length]) I0 fun h' hx=>?_;have I1:Inv X Q0 σ H { s with heap:=h' }:=I.kept (t':=s.toks) fun b o e=>hx b o (ne_of_lt (lt_size e)) e;exact h Q0 _ σ H xs _ Q I1 (by simpa using rv) hw
def gSub (to ti:TE)(t:TSet):TG:=fun v σ H Q=>to σ H fun o H1=>ti σ H1 fun i H2=>t o i v H2 fun H3=>Q σ H3
def Mv{t:TSet}(ho:PE X o to)(hi:PE X i ti)(hs:PSet X t)
  (ha:∀v,assign (.Subscript o i pos) X.env v=(do
   let ov <-holding [v] (eval o X.env);let iv <-holding [v,ov] (eval i X.env)
   standAt pos
   holding [v,ov,iv] (setItem ov iv v)
   release [v,ov,iv] []):=by intro _;rfl):PG X (.Subscript o i pos) (gSub to ti t):=by
 intro Q0 s σ H v u Q I r h;rw[ha];refine wpAny_bind (wpAny_holding (thn (ho Q0 s σ H _ I h) fun ov s1 zq=>?_));obtain⟨x,H1,I1,r1,q1⟩:=zq;refine wpAny_bind (wpAny_holding (thn (hi Q0 s1 σ H1 _ I1 q1) fun iv s2 zq=>?_));obtain⟨y,H2,I2,r2,q2⟩:=zq;refine wpAny_bind (wpAny_standAt (wpAny_bind (wpAny_holding (thn (hs Q0 s2 σ H2 x y v ov iv u _ I2 r1 r2 r q2) fun _ s3 zq=>?_))));obtain⟨H3,I3,q3⟩:=zq;exact wpAny_release (fun _=>⟨σ,H3,I3,q3⟩)
def tAsg (te:TE)(g:TG):TS:=fun D σ H=>te σ H fun x H1=>g x σ H1 D.nx
def ps_asg(he:PE X e te)(hg:PG X tg g)(hs:swapsWithSole [tg] e pos.line X.env=pure false:=by rfl)(hw:swappedStores [tg] e X.env=pure none:=by rfl)
  (h1:(assignEach [tg] X.env).map (·.2)=[assign tg X.env]:=by rfl):PS X (.Assign [tg] e pos) (tAsg te g):=by
 intro Q0 s σ H D I h;refine wpAny_Assign_stores (thn (he Q0 s σ H _ I h) fun v s1 zq=>?_) hs hw;obtain⟨x,H1,I1,r1,q1⟩:=zq;rw[h1];exact thn (hg Q0 s1 σ H1 x v _ I1 r1 q1) fun _ s2 q _=>q
def Cb(hN:X.N.Nodup)(hi:X.N[i]? = some x)(hx:Loc X.env.scope x)(he:PE X e te)(hs:swapsWith e (some (.Name x pos')) pos.line X.env=pure false:=by rfl)(hf:X.fn x=true\/X.env.scope.names.lookup x=some .local:=by first|exact .inl rfl|exact .inr rfl|assumption) :
  PS X (.Assign [.Name x pos'] e pos) (tAsg te (x0c i)):=by
 intro Q0 s σ H D I h;refine wpAny_Assign_Name (thn (he Q0 s σ H _ I h) fun v s1 ⟨y,H1,I1,r1,q1⟩=>?_) hs;exact ki I1 hN hi hx r1 (fun s2 I2=>(fun _=>⟨_,H1,I2,q1⟩)) hf
def pp (c:TT)(tb:TS):TS:=fun D σ H=>∃W:Nat->St->Hp->Prop,(∃m,W m σ H)/\∀m σ H,W m σ H ->
 c σ H fun b H1=>if b=true then ∃N:St->Hp->Prop,(∀σ' H',N σ' H'->∃m',m' < m/\W m' σ' H')/\tb { D with nx:=N,ct:=N,bk:=D.nx } σ H1 else D.nx σ H1
def wk(hp:PassesOwn (model X.prog X.w) X.A X.env X.xe)(hc:PT X c tc)(hb:PSs X body tb):PS X (.While c body [] pos) (pp tc tb):=by
 intro Q0 s σ H D I h;obtain⟨W,⟨m0,w0⟩,turn⟩:=h;refine wpAny_While (codeAny_whileLoop (fun n s'=>∃σ' H',Inv X Q0 σ' H' s'/\W n σ' H') ?_ m0 ⟨σ,H,I,w0⟩);rintro n s1 ⟨σ1,H1,I1,w1⟩;refine wpAny_passesOwn hp (thn (hc Q0 s1 σ1 H1 _ I1 (turn n σ1 H1 w1)) fun b s2 zq=>?_);obtain⟨H2,I2,q2⟩:=zq;cases b with
 |true =>
  obtain⟨N,hN,q2⟩:=q2;rw[if_pos rfl];refine wpAny_passesOwn hp (thn (hb Q0 s2 σ1 H2 _ I2 q2) fun f s3 q3=>?_);cases f with
  |next =>
   obtain⟨σ3,H3,I3,n3⟩:=q3;obtain⟨m',hm,w3⟩:=hN σ3 H3 n3;exact⟨m',hm,σ3,H3,I3,w3⟩
  |cont =>
   obtain⟨σ3,H3,I3,n3⟩:=q3;obtain⟨m',hm,w3⟩:=hN σ3 H3 n3;exact⟨m',hm,σ3,H3,I3,w3⟩
  |brk=>exact fun _=>q3
  |ret v=>exact fun _=>q3
 |false =>
  rw[if_neg Bool.false_ne_true];exact wpAny_execs_nil (fun _=>⟨σ1,H2,I2,q2⟩)
structure It where
 go:Nat->Hp->Prop
 yld:Nat->Hp->V->Hp->Prop
 stop:Nat->Hp->Prop
def EC (X:Cx)(Q0:List (Addr×Obj))(H:Hp)(b:Addr):Prop :=
 H b=none/\b≠X.env.locals/\b∉X.fs/\(b∈X.ex\/X.s₀.heap.objs.size<=b)/\(∀x c,X.env.cells.lookup x=some c->c≠b)/\∀p∈X.pn++Q0,p.1≠b
def Inv.fpOk(I:Inv X Q0 σ H s)(hb:s.heap.objs.size<=b)(hn:H' b=none):EC X Q0 H' b:=by refine⟨hn,ne_of_gt (lt_of_lt_of_le I.lt hb),I.nofs hb,.inr (le_trans I.sz hb),fun x c e z=>?_,fun p hp z=>?_⟩;obtain⟨v,q⟩:=I.cell x c e;exact absurd (lt_of_lt_of_le q.lt (by rw[z];exact hb)) (lt_irrefl _);exact absurd (lt_of_lt_of_le (lt_size (I.pin p hp).1) (by rw[z];exact hb)) (lt_irrefl _)
structure TC (P:Program)(w:World)(K:W.Frag)(tg:Expr)(J:It)(fp:List Addr)(it:Addr)(tn:Nat->Heap->Prop):Prop where
 mem:it∈fp
 obj:∀i h,tn i h->∀b∈fp,∃o,h.get? b=some o/\∀v,o.data≠.cell v
 keep:∀i h h',tn i h->(∀b∈fp,∀o,h.get? b=some o->h'.get? b=some o)->tn i h'
 item:∀(X:Cx),X.prog=P->X.w=w->X.K=K->X.calm=true->∀(i:Nat)(Q0:List (Addr×Obj))(s:Shared)(σ:St)(H:Hp)(E:Value->Shared->Prop),Inv X Q0 σ H s->(∀b∈fp,EC X Q0 H b)->tn i s.heap->J.go i H ->
  wpAny (model P w) X.A (pyNext (.ref it)) (fun r s1=>tk0<=s1.toks->∃u,r=some u /\
   wpAny (model P w) X.A (letOwnedTupleGo tg (.ref it) u) (fun _ s2=>tk0<=s2.toks->∃x H',Inv X Q0 σ H' s2/\GB x u/\J.yld i H x H'/\tn (i+1) s2.heap/\∀b∈fp,H' b=none) E s1) E s
 done:∀(X:Cx),X.prog=P->X.w=w->X.K=K->X.calm=true->∀(i:Nat)(Q0:List (Addr×Obj))(s:Shared)(σ:St)(H:Hp)(E:Value->Shared->Prop),Inv X Q0 σ H s->(∀b∈fp,EC X Q0 H b)->tn i s.heap->J.stop i H ->
  wpAny (model P w) X.A (pyNext (.ref it)) (fun r s1=>tk0<=s1.toks->r=none/\Inv X Q0 σ H s1) E s
 self:∀(A:Around)(i:Nat)(s:Shared)(Q:Value->Shared->Prop)(E:Value->Shared->Prop),tn i s.heap->Q (.ref it) s->wpAny (model P w) A (pyIter (.ref it)) Q E s
abbrev TI:=St->Hp->(It->Hp->Prop)->Prop
def PIE (X:Cx)(Q0:List (Addr×Obj))(σ:St)(tg:Expr)(R:It->Hp->Prop)(itv:Value)(s2:Shared):Prop :=
 ∃(it:Addr)(fp:List Addr)(tn:Nat->Heap->Prop)(J:It)(H':Hp),itv=.ref it/\Inv X Q0 σ H' s2/\TC X.prog X.w X.K tg J fp it tn/\tn 0 s2.heap/\(∀b∈fp,EC X Q0 H' b)/\R J H'
def PI (X:Cx)(tg M0:Expr)(wi:TI):Prop :=
 ∀(Q0:List (Addr×Obj))(s:Shared)(σ:St)(H:Hp)(R:It->Hp->Prop),Inv X Q0 σ H s->wi σ H R ->
  wpAny (model X.prog X.w) X.A (eval M0 X.env) (fun v s1=>wpAny (model X.prog X.w) X.A (pyIter v) (PIE X Q0 σ tg R) X.xe s1) X.xe s
def xk{u:Value}(ho:s.heap.get? it=some o)(hc:o.cls=.type n)(hd:o.data=.fields vs)
  (hn:["enumerate","zip","dict_itemiterator","dict_reverseitemiterator","odict_iterator","itertools.zip_longest","itertools.pairwise"].contains n=false)(hQ:Q () s):wpAny M A (letOwnedTupleGo tg (.ref it) u) Q E s:=by
 unfold letOwnedTupleGo;cases tg<;>first
  |exact wpAny_pure hQ
  |(cases u<;>first
    |exact wpAny_pure hQ
    |(refine wpAny_bind (wpAny_load ho ?_)
      rw[hc,hd];show wpAny M A (if (["enumerate","zip","dict_itemiterator","dict_reverseitemiterator","odict_iterator","itertools.zip_longest","itertools.pairwise"].contains n&&vs[0]? == some (rawInt _))=true then _ else _) Q E s;rw[if_neg (by intro h;rw[hn,Bool.false_and]at h;cases h)];exact wpAny_pure hQ))
noncomputable def Itl (K:W.Frag) (a:Addr):It :=
 ⟨fun i H=>∃xs x,SqL K H a xs/\xs[i]? = some x,fun i H x H'=>H' = H/\∀xs,SqL K H a xs->xs[i]? = some x,fun i H=>∃xs,SqL K H a xs/\xs.length<=i⟩
noncomputable def Itr (lo:Int) (n:Nat):It:=⟨fun i _=>i<n,fun i H x H'=>H' = H/\x=.int (lo+i),fun i _=>n<=i⟩
def Nv {P:Program}{w:World}{K:W.Frag}{tg:Expr}(a it:Addr):TC P w K tg (Itl K a) [it] it (fun i h=>h.IsListIter it a i) where
 mem:=by simp
 obj:=fun i h st b hb=>by
  have e:b=it:=by simpa using hb
  subst e;obtain⟨o,e,c,d⟩:=st;exact⟨o,e,fun v z=>by rw[d]at z;cases z⟩
 keep:=fun i h h' st k=>st.at fun o e=>k it (by simp) o e
 item:=by
  intro X hP hw hK hc i Q0 s σ H E I hf st hg;subst hP hw hK;obtain⟨xs,x,hq,hx⟩:=hg;obtain⟨Z0,rv,p,hz⟩:=I.list hq;obtain⟨u,hu,ru⟩:=rv.get hx;obtain⟨f0,f1,f2,f3,f4,f5⟩:=hf it (by simp);refine wpAny_pyNext_list_item st p.isList (x:=u) (by simpa using hu) fun h' st' sb=>?_;have I1:Inv X Q0 σ H { s with heap:=h' }:=I.turned (t':=s.toks) (fun b o hb e=>(sb.2 b hb).trans e) f0 f1 f3 f4 f5;obtain⟨o,e,c,d⟩:=id st';exact(fun _=>⟨u,rfl,xk (s:={ s with heap:=h' }) e c d (by decide) fun _=>⟨x,H,I1,ru,⟨rfl,fun ys hy=>by rw[I.list_inj hy hq];exact hx⟩,st',fun b hb=>(hf b hb).1⟩⟩)
 done:=by
  intro X hP hw hK hc i Q0 s σ H E I hf st hg;subst hP hw hK;obtain⟨xs,hq,hx⟩:=hg;obtain⟨Z0,rv,p,hz⟩:=I.list hq;obtain⟨f0,f1,f2,f3,f4,f5⟩:=hf it (by simp);have hl:=rv.length;exact wpAny_pyNext_list_end (I.ok.hd hc) st p.isList (by simp;lia) fun h' eb=>(fun _=>⟨rfl,I.turned (t':=s.toks) (fun b o hb e=>eb b o hb e) f0 f1 f3 f4 f5⟩)
 self:=fun _ _ _ _ _ st h=>wpAny_pyIter_listiter st h
def Ov {P:Program}{w:World}{K:PySem.W.Frag}{tg:Expr}(it:Addr)(lo:Int)(n:Nat):TC P w K tg (Itr lo n) [it] it (fun i h=>IsRangeIter h it (lo+(i:Nat) * 1) ((n:Int) - (i:Nat)) 1) where
 mem:=by simp
 obj:=fun i h st b hb=>by
  have e:b=it:=by simpa using hb
  subst e;exact⟨_,st,fun v z=>by
   have z':Data.fields _=Data.cell v:=z;cases z'⟩
 keep:=fun i h h' st k=>k it (by simp) _ st
 item:=by
  intro X hP hw hK hc i Q0 s σ H E I hf st hg;subst hP hw hK;obtain⟨f0,f1,f2,f3,f4,f5⟩:=hf it (by simp);have W:=Walks.range (prog:=X.prog) (w:=X.w) (I.ok.hd hc) it lo 1 n;refine W.item i s _ _ hg st fun v h' tk hv st' kk=>?_;obtain⟨t,rfl⟩:=hv;intro hk;replace hk:tk0<=tk:=hk;have I1:Inv X Q0 σ H { s with heap:=h',toks:=tk }:=I.turned (fun b o hb e=>kk b o (by simpa using hb) e) f0 f1 f3 f4 f5;refine⟨_,rfl,xk (s:={ s with heap:=h',toks:=tk }) (n:="range_iterator") st' rfl rfl (by decide) fun _=>⟨.int (lo+i),H,I1,⟨t,?_⟩,⟨rfl,rfl⟩,st',fun b hb=>(hf b hb).1⟩⟩;rw[Int.mul_one]
 done:=by
  intro X hP hw hK hc i Q0 s σ H E I hf st hg;subst hP hw hK;obtain⟨f0,f1,f2,f3,f4,f5⟩:=hf it (by simp);exact wpAny_pyNext_range_end (I.ok.hd hc) st (by have:n<=i:=hg;lia) fun h' eb=>(fun _=>⟨rfl,I.turned (t':=s.toks) (fun b o hb e=>eb b o hb e) f0 f1 f3 f4 f5⟩)
 self:=fun _ _ _ _ _ st h=>wpAny_pyIter_rangeiter st h
variable {tg:Expr}
def yk (K:W.Frag)(tl:TE):TI:=fun σ H R=>tl σ H fun x H1=>∃a,x=.ref a/\(∃xs,SqL K H1 a xs)/\R (Itl K a) H1
def ze(hl:PE X l tl):PI X tg l (yk X.K tl):=by
 intro Q0 s σ H R I h;refine thn (hl Q0 s σ H _ I h) fun v s1 zq=>?_;obtain⟨x,H1,I1,r1,q1⟩:=zq;obtain⟨a,e,⟨xs,hq⟩,q⟩:=q1;subst e;cases r1;obtain⟨Z0,rv,p,hz⟩:=I1.list hq;refine wpAny_pyIter_list p.isList ?_;refine⟨s1.heap.objs.size,[s1.heap.objs.size],_,_,H1,rfl,I1.kept (t':=s1.toks) fun b o e=>get?_push_of_some _ e,Nv a _,⟨_,get?_push_size _ rfl,rfl,rfl⟩,fun b hb=>?_,q⟩;have e:b=s1.heap.objs.size:=by simpa using hb
 subst e;exact I1.fpOk (le_refl _) (I1.hok.fresh (le_refl _))
def Qv{lo hi:Int}{t u v:Tok}(I:Inv X Q0 σ H s)(h1:-(2 ^ 62)<=lo)(h2:lo<2 ^ 62)(h3:-(2 ^ 62)<=hi)(h4:hi<2 ^ 62)
  (hk:tk0<=tk)
  (q:R (Itr lo (hi - lo).toNat) H):wpAny (model X.prog X.w) X.A (pyIter (.ref s.heap.objs.size)) (PIE X Q0 σ tg R) E { s with heap:=s.heap.push { cls:=.type "range",data:=.fields #[.int lo t,.int hi u,.int 1 v] },toks:=tk }:=by
 refine wpAny_pyIter_range (IsRange.new ..) (small_one h1 h2 h3 h4) ?_;have I1:Inv X Q0 σ H { s with heap:=s.heap.push { cls:=.type "range",data:=.fields #[.int lo t,.int hi u,.int 1 v] },toks:=tk }:=I.kept fun b o e=>get?_push_of_some _ e;refine⟨(s.heap.push { cls:=.type "range",data:=.fields #[.int lo t,.int hi u,.int 1 v] }).objs.size,[(s.heap.push { cls:=.type "range",data:=.fields #[.int lo t,.int hi u,.int 1 v] }).objs.size],_,_,H,rfl,
  I1.kept (t':=tk) fun b o e=>get?_push_of_some _ e,Ov _ lo (hi - lo).toNat,?_,fun b hb=>?_,q⟩
 ·have e1:lo+((0:Nat):Int) * 1=lo:=by simp
  have e2:(((hi - lo).toNat:Nat):Int) - ((0:Nat):Int)=Builtin.Range.rangeSize lo hi 1:=by rw[rangeSize_one];split<;>lia
  show IsRangeIter _ _ (lo+((0:Nat):Int) * 1) ((((hi - lo).toNat:Nat):Int) - ((0:Nat):Int)) 1;rw[e1,e2];exact get?_push_size _ rfl
 have e:b=(s.heap.push { cls:=.type "range",data:=.fields #[.int lo t,.int hi u,.int 1 v] }).objs.size:=by simpa using hb
 subst e;exact I1.fpOk (le_refl _) (I1.hok.fresh (le_refl _))
def iRng1 (ta:TA):TI:=fun σ H R=>ta σ H fun vs H1=>∃j:Int,vs=[.int j]/\-(2 ^ 62)<=j/\j<2 ^ 62/\R (Itr 0 j.toNat) H1
def Rv {a:Expr}(hg:Gl X "range")(hm:X.mg "range" = none)(ha:PA X [a] ta)(hs:starEach [a] X.env=[(false,eval a X.env)]:=by rfl):PI X tg (.Call (.Name "range" p) [a] [] pos) (iRng1 ta):=by
 intro Q0 s σ H R I h;refine Call_ (Od I hg hm boot_range (PyProof.Rows.callWith_type1 (thn (ha pos Q0 s σ H _ I h) fun us s1 zq=>?_) hs rfl));obtain⟨vs,H1,I1,r1,q1⟩:=zq;obtain⟨j,e,q1,q2,q⟩:=q1;subst e;cases r1 with
 |cons r rr =>
  cases rr;obtain⟨t,rfl⟩:=r;exact call_range_1 (Qv I1 (by lia) (by lia) q1 q2 (by have:=I1.pos;first|lia|(simp;lia)) (by simpa using q))
def tFor (wi:TI)(g:TG)(tb:TS):TS:=fun D σ H=>wi σ H fun J H1=>∃W:Nat->Nat->St->Hp->Prop,(∃m,W 0 m σ H1)/\∀i m σ H,W i m σ H ->
 (J.stop i H/\D.nx σ H)\/(J.go i H/\∃N:St->Hp->Prop,(∀σ' H',N σ' H'->∃m',m' < m/\W (i+1) m' σ' H')/\∀x H',J.yld i H x H'->g x σ H' fun σ2 H2=>tb { D with nx:=N,ct:=N,bk:=D.nx } σ2 H2)
noncomputable def lg (fp:List Addr) (h:Heap):List (Addr×Obj):=fp.filterMap fun b=>(h.get? b).map fun o=>(b,o)
def vi(hb:b∈fp)(e:h.get? b=some o):(b,o)∈lg fp h:=List.mem_filterMap.mpr ⟨b,hb,by rw[e];rfl⟩
def Sv(hp:p∈lg fp h):p.1∈fp/\h.get? p.1=some p.2:=by
 obtain⟨b,hb,e⟩:=List.mem_filterMap.mp hp;cases q:h.get? b with
 |none=>rw[q]at e;cases e
 |some o =>
  rw[q]at e;have e':(b,o)=p:=Option.some.inj e;subst e';exact⟨hb,q⟩
def Inv.pinned(I:Inv X Q0 σ H s)(hf:∀b∈fp,EC X Q0 H b)(ho:∀b∈fp,∃o,s.heap.get? b=some o/\∀v,o.data≠.cell v):Inv X (Q0++lg fp s.heap) σ H s :=
 I.pins_of fun p hp=>(mem_append.mp hp).elim (fun z=>I.pin p (mem_append_right _ z)) fun z=>by
  obtain⟨hb,e⟩:=Sv z;obtain⟨f0,f1,f2,_⟩:=hf p.1 hb;obtain⟨o,e',d⟩:=ho p.1 hb;rw[e]at e';cases e';exact⟨e,f0,f1,f2,d⟩
def Inv.unpinned(I:Inv X (Q0++pl) σ H s):Inv X Q0 σ H s:=I.pins_of fun p hp=>I.pin p (mem_append_right _ (mem_append_left _ hp))
def Re(hp:PassesOwn (model X.prog X.w) X.A X.env X.xe)(hc:X.calm=true)(hi:PI X tg M0 wi)(hg:PG X tg g)(hb:PSs X body tb)
  (hs:∀x,foldedSetIterable M0 X.env x=pure x:=by intro _;rfl):PS X (.For tg M0 body [] pos) (tFor wi g tb):=by
 intro Q0 s σ H D I h;refine wpAny_For (bH (hi Q0 s σ H _ I h) fun v s1 k1 h1=>bH (hs:=k1) h1 fun itv s2 k2 h2=>?_) hs;obtain⟨it,fp,tn,J,H2,e,I2,T,st2,f2,W,⟨m0,w0⟩,turn⟩:=h2;subst e;have stat:∀{H':Hp},(∀b∈fp,H' b=none)->∀b∈fp,EC X Q0 H' b:=fun hn b hb=>⟨hn b hb,(f2 b hb).2⟩;refine codeAny_forLoop_any (fun n s'=>∃i σ' H',Inv X Q0 σ' H' s'/\tn i s'.heap/\(∀b∈fp,H' b=none)/\W i n σ' H') ?_ m0 ⟨0,σ,H2,I2,st2,fun b hb=>(f2 b hb).1,w0⟩;rintro n s3 ⟨i,σ3,H3,I3,st3,fr3,w3⟩;rcases turn i n σ3 H3 w3 with ⟨stop,qn⟩|⟨go,N,hN,step⟩;refine wpAny_passesOwn hp (thn (T.done X rfl rfl rfl hc i Q0 s3 σ3 H3 X.xe I3 (stat fr3) st3 stop) fun r s4 zq=>?_);obtain⟨hr,I4⟩:=zq;subst hr;exact wpAny_execs_nil fun _=>⟨σ3,H3,I4,qn⟩;refine wpAny_passesOwn hp (thnK (T.item X rfl rfl rfl hc i Q0 s3 σ3 H3 X.xe I3 (stat fr3) st3 go) fun r s4 k4 zq=>?_);obtain⟨u,hr,h4⟩:=zq;subst hr;refine wpAny_passesOwn hp (thn (hs:=k4) h4 fun _ s5 zq=>?_);obtain⟨x,H5,I5,r5,y5,st5,fr5⟩:=zq;have I5':=I5.pinned (stat fr5) (T.obj _ _ st5);refine wpAny_passesOwn hp (thn (hg _ s5 σ3 H5 x u _ I5' r5 (step x H5 y5)) fun _ s6 zq=>?_);obtain⟨σ6,H6,I6,q6⟩:=zq;refine wpAny_passesOwn hp (thn (hb _ s6 σ6 H6 _ I6 q6) fun f s7 q7=>?_);have again:∀{σ7:St}{H7:Hp},Inv X (Q0++lg fp s5.heap) σ7 H7 s7->N σ7 H7->∃m,m<n/\∃i σ' H',Inv X Q0 σ' H' s7/\tn i s7.heap/\(∀b∈fp,H' b=none)/\W i m σ' H':=fun {σ7 H7} I7 n7=>by
  obtain⟨m',hm,w7⟩:=hN σ7 H7 n7;refine⟨m',hm,i+1,σ7,H7,I7.unpinned,T.keep _ _ _ st5 fun b hb o e=>(I7.pin (b,o) (mem_append_right _ (mem_append_right _ (vi hb e)))).1,fun b hb=>?_,w7⟩;obtain⟨o,e,d⟩:=T.obj _ _ st5 b hb;exact(I7.pin (b,o) (mem_append_right _ (mem_append_right _ (vi hb e)))).2.1
 cases f with
 |next=>obtain⟨σ7,H7,I7,n7⟩:=q7;exact again I7 n7
 |cont=>obtain⟨σ7,H7,I7,n7⟩:=q7;exact again I7 n7
 |brk=>obtain⟨σ7,H7,I7,q7⟩:=q7;exact fun _=>⟨σ7,H7,I7.unpinned,q7⟩
 |ret v=>obtain⟨x7,σ7,H7,I7,r7,q7⟩:=q7;exact fun _=>⟨x7,σ7,H7,I7.unpinned,r7,q7⟩
def Tv {K:PySem.W.Frag}{g:TG}{tb:TS}{D:GC}(Pv:Nat->St->Hp->Prop)(h0:Pv 0 σ H)(hl:∀i σ H,i<=xs.length->Pv i σ H->SqL K H a xs)
  (hs:∀i x σ H,xs[i]? = some x->Pv i σ H->g x σ H fun σ2 H2=>tb { D with nx:=Pv (i+1),ct:=Pv (i+1),bk:=D.nx } σ2 H2)(hd:∀σ H,Pv xs.length σ H->D.nx σ H) :
  ∃W:Nat->Nat->St->Hp->Prop,(∃m,W 0 m σ H)/\∀i m σ H,W i m σ H ->
   ((Itl K a).stop i H/\D.nx σ H)\/((Itl K a).go i H/\∃N:St->Hp->Prop,(∀σ' H',N σ' H'->∃m',m' < m/\W (i+1) m' σ' H')/\∀x H',(Itl K a).yld i H x H'->g x σ H' fun σ2 H2=>tb { D with nx:=N,ct:=N,bk:=D.nx } σ2 H2):=by
 refine⟨fun i m σ H=>m=xs.length - i/\i<=xs.length/\Pv i σ H,⟨xs.length,by simp,zero_le _,h0⟩,?_⟩;rintro i m σ H ⟨rfl,hi,p⟩;have q:=hl i σ H hi p;by_cases hlt:i<xs.length;refine .inr ⟨⟨xs,xs[i],q,by simp[hlt]⟩,Pv (i+1),fun σ' H' p'=>⟨xs.length - (i+1),by lia,rfl,hlt,p'⟩,fun x H' y=>?_⟩;obtain⟨e,y⟩:=y;subst e;exact hs i x σ _ (y xs q) p;have e:i=xs.length:=by lia
 subst e;exact .inl ⟨⟨xs,q,le_refl _⟩,hd σ H p⟩
abbrev R2:=V->V->Hp->VK->Prop
def OpR (X:Cx)(f:Value->Value->Sem Value)(r:R2):Prop :=
 ∀(Q0:List (Addr×Obj))(s:Shared)(σ:St)(H:Hp)(x y:V)(v u:Value)(Q:VK),Inv X Q0 σ H s->GB x v->GB y u->r x y H Q ->
  wpAny (model X.prog X.w) X.A (f v u) (EP X Q0 σ Q) X.xe s
def UnR (X:Cx)(f:Value->Sem Value)(r:V->Hp->VK->Prop):Prop :=
 ∀(Q0:List (Addr×Obj))(s:Shared)(σ:St)(H:Hp)(x:V)(v:Value)(Q:VK),Inv X Q0 σ H s->GB x v->r x H Q ->
  wpAny (model X.prog X.w) X.A (f v) (EP X Q0 σ Q) X.xe s
def yc (X:Cx)(f:Value)(r:List V->Hp->VK->Prop):Prop :=
 ∀(Q0:List (Addr×Obj))(s:Shared)(σ:St)(H:Hp)(xs:List V)(us:List Value)(Q:VK),Inv X Q0 σ H s->EB xs us->r xs H Q ->
  wpAny (model X.prog X.w) X.A (call f us) (EP X Q0 σ Q) X.xe s
def TruR (X:Cx)(r:V->Hp->(Bool->Hp->Prop)->Prop):Prop :=
 ∀(Q0:List (Addr×Obj))(s:Shared)(σ:St)(H:Hp)(x:V)(v:Value)(Q:Bool->Hp->Prop),Inv X Q0 σ H s->GB x v->r x H Q ->
  wpAny (model X.prog X.w) X.A (truthy v) (TP X Q0 σ Q) X.xe s
def tOp (r:R2)(ta tb:TE):TE:=fun σ H Q=>ta σ H fun x H1=>tb σ H1 fun y H2=>r x y H2 Q
def tUn (r:V->Hp->VK->Prop)(ta:TE):TE:=fun σ H Q=>ta σ H fun x H1=>r x H1 Q
def rI (C:Int->Int->Prop)(g:Int->Int->V):R2:=fun x y H Q=>∃i j,x=.int i/\y=.int j/\C i j/\Q (g i j) H
def rI0 (g:Int->Int->V):R2:=fun x y H Q=>∃i j,x=.int i/\y=.int j/\Q (g i j) H
def rU (g:Int->V):V->Hp->VK->Prop:=fun x H Q=>∃i,x=.int i/\Q (g i) H
end
section
variable {X:Cx}{a b c:Expr}{ta tb tc:TE}{pos:Pos}
def binT (ha:PE X a ta)(hb:PE X b tb){R:V->V->Hp->Prop}(I:Inv X Q0 σ H s)
  (h:ta σ H fun x H1=>tb σ H1 fun y H2=>R x y H2){f:Value->Value->Sem Value}
  (hf:∀v u s2 x y H2,Inv X Q0 σ H2 s2->GB x v->GB y u->R x y H2->wpAny (model X.prog X.w) X.A (f v u) Q X.xe s2) :
  wpAny (model X.prog X.w) X.A (eval a X.env) (fun v s₁=>wpAny (model X.prog X.w) X.A (eval b X.env) (fun u s₂=>wpAny (model X.prog X.w) X.A (f v u) Q X.xe s₂) X.xe s₁) X.xe s:=by
 refine thn (ha Q0 s σ H _ I h) fun v s1 ⟨x,H1,I1,r1,q1⟩=>?_;refine thn (hb Q0 s1 σ H1 _ I1 q1) fun u s2 ⟨y,H2,I2,r2,q2⟩=>?_;exact hf v u s2 x y H2 I2 r1 r2 q2
def Se(ho:OpR X (binaryOp op) r)(ha:PE X a ta)(hb:PE X b tb):PE X (.BinOp a op b pos) (tOp r ta tb):=by intro Q0 s σ H Q I h;exact wpAny_BinOp (binT ha hb I h fun v u s2 x y H2 I2 rx ry q=>ho Q0 s2 σ H2 x y v u Q I2 rx ry q)
def pe_un(ho:UnR X (unaryOp op) r)(ha:PE X a ta):PE X (.UnaryOp op a pos) (tUn r ta):=by intro Q0 s σ H Q I h;exact UnaryOp_ (thn (ha Q0 s σ H _ I h) fun v s1 ⟨x,H1,I1,r1,q1⟩=>ho Q0 s1 σ H1 x v Q I1 r1 q1)
def opI{g:Int->Int->Int}
  (rule:∀(i j:Int)(t u:Tok)(s:Shared)(Q:Value->Shared->Prop)(E:Value->Shared->Prop),C i j->Q (.int (g i j) s.toks) { s with toks:=s.toks+1 }->wpAny (model X.prog X.w) X.A (f (.int i t) (.int j u)) Q E s) :
  OpR X f (rI C fun i j=>.int (g i j)):=by
 intro Q0 s σ H x y v u Q I rx ry h;obtain⟨i,j,rfl,rfl,hc,q⟩:=h;obtain⟨t,rfl⟩:=rx;obtain⟨t',rfl⟩:=ry;exact rule i j t t' s _ _ hc (fun _=>⟨.int (g i j),H,I.tok _,⟨_,rfl⟩,q⟩)
def opI0{g:Int->Int->Int}
  (rule:∀(i j:Int)(t u:Tok)(s:Shared)(Q:Value->Shared->Prop)(E:Value->Shared->Prop),Q (.int (g i j) s.toks) { s with toks:=s.toks+1 }->wpAny (model X.prog X.w) X.A (f (.int i t) (.int j u)) Q E s) :
  OpR X f (rI0 fun i j=>.int (g i j)):=by
 intro Q0 s σ H x y v u Q I rx ry h;obtain⟨i,j,rfl,rfl,q⟩:=h;obtain⟨t,rfl⟩:=rx;obtain⟨t',rfl⟩:=ry;exact rule i j t t' s _ _ (fun _=>⟨.int (g i j),H,I.tok _,⟨_,rfl⟩,q⟩)
def opB0{g:Int->Int->Bool}
  (rule:∀(i j:Int)(t u:Tok)(s:Shared)(Q:Value->Shared->Prop)(E:Value->Shared->Prop),Q (.bool (g i j)) s->wpAny (model X.prog X.w) X.A (f (.int i t) (.int j u)) Q E s) :
  OpR X f (rI0 fun i j=>.bl (g i j)):=by
 intro Q0 s σ H x y v u Q I rx ry h;obtain⟨i,j,rfl,rfl,q⟩:=h;obtain⟨t,rfl⟩:=rx;obtain⟨t',rfl⟩:=ry;exact rule i j t t' s _ _ (fun _=>⟨.bl (g i j),H,I,rfl,q⟩)
def UC (i j:Int):Prop:=(-(2 ^ 64)<i/\i<2 ^ 64)\/(-(2 ^ 64)<j/\j<2 ^ 64)
def UC.ok {i j:Int}(h:UC i j):IntMulOk i j:=by rcases h with ⟨h1,h2⟩|⟨h1,h2⟩;exact .of_left (intBits_le_64 h1 h2);exact .of_right (intBits_le_64 h1 h2)
def Db:OpR X (binaryOp .Add) (rI0 fun i j=>.int (i+j)):=opI0 fun _ _ _ _ _ _ _ q=>add_int q
def Zg:OpR X (binaryOp .Sub) (rI0 fun i j=>.int (i - j)):=opI0 fun _ _ _ _ _ _ _ q=>sub_int q
def Xd:OpR X (binaryOp .Mult) (rI UC fun i j=>.int (i * j)):=opI fun _ _ _ _ _ _ _ hc q=>mul_int q hc.ok
def Va:OpR X (binaryOp .Mod) (rI (fun _ j=>0<j) fun i j=>.int (i % j)):=opI fun i j _ _ _ _ _ hc q=>by
 have h1:(0:Int)<j:=hc;exact mod_int' (by lia) (by rw[Int.fmod_eq_emod_of_nonneg i (by lia)];exact q)
def unI{g:Int->Int}
  (rule:∀(i:Int)(t:Tok)(s:Shared)(Q:Value->Shared->Prop)(E:Value->Shared->Prop),Q (.int (g i) s.toks) { s with toks:=s.toks+1 }->wpAny (model X.prog X.w) X.A (f (.int i t)) Q E s) :
  UnR X f (rU fun i=>.int (g i)):=by
 intro Q0 s σ H x v Q I rx h;obtain⟨i,rfl,q⟩:=h;obtain⟨t,rfl⟩:=rx;exact rule i t s _ _ (fun _=>⟨.int (g i),H,I.tok _,⟨_,rfl⟩,q⟩)
def qp:UnR X (unaryOp .USub) (rU fun i=>.int (-i)):=unI fun _ _ _ _ _ q=>neg_int q
noncomputable def scal:V->V->Bool
 |.non,.non=>true | .non,.int _=>true | .int _,.non=>true | .non,.bl _=>true | .bl _,.non=>true | .non,.str _=>true | .str _,.non=>true
 |.int _,.int _=>true | .bl _,.bl _=>true | .str _,.str _=>true | .byt _,.byt _=>true
 |.int _,.str _=>true | .str _,.int _=>true | .bl _,.str _=>true | .str _,.bl _=>true
 |_,_=>false
def rEq:R2:=fun x y H Q=>scal x y=true/\Q (.bl (decide (x=y))) H
def rNe:R2:=fun x y H Q=>scal x y=true/\Q (.bl (!decide (x=y))) H
def wp {i j:Int}:decide (V.int i=V.int j)=(i == j):=by rw[Bool.eq_iff_iff];simp
def xp:decide (V.bl i=V.bl j)=(i == j):=by rw[Bool.eq_iff_iff];simp
def yp:decide (V.str i=V.str j)=(i == j):=by rw[Bool.eq_iff_iff];simp
def Ap:decide (V.byt i=V.byt j)=(i.toList == j.toList):=by rw[Bool.eq_iff_iff];cases i;cases j;simp
def qb(I:Inv X Q0 σ H s)(q:Q (.bl k) H)(e:k=k'):EP X Q0 σ Q (.bool k') s:=by subst e;exact(fun _=>⟨.bl k,H,I,rfl,q⟩)
def bb:OpR X (compareOp .Eq) rEq:=by
 intro Q0 s σ H x y v u Q I rx ry h;obtain⟨hs,q⟩:=h;cases x with
 |non =>
  cases rx;cases y with
  |non=>cases ry;exact PySem.EqNone.eq_none_none (qb I q (by simp))
  |bl j=>cases ry;exact PySem.EqNone.eq_none_bool (qb I q (by simp))
  |int j=>obtain⟨t',rfl⟩:=ry;exact PySem.EqNone.eq_none_int (qb I q (by simp))
  |str j=>obtain⟨t',rfl⟩:=ry;exact PySem.EqNone.eq_none_str (qb I q (by simp))
  |_=>exact absurd (show false=true from hs) Bool.false_ne_true
 |bl i =>
  cases rx;cases y with
  |non=>cases ry;exact PySem.EqNone.eq_bool_none (qb I q (by simp))
  |bl j=>cases ry;exact eq_bool (qb I q xp)
  |str j=>obtain⟨t',rfl⟩:=ry;exact PySem.EqMixed.eq_bool_str (qb I q (by simp))
  |_=>exact absurd (show false=true from hs) Bool.false_ne_true
 |int i =>
  obtain⟨t,rfl⟩:=rx;cases y with
  |non=>cases ry;exact PySem.EqNone.eq_int_none (qb I q (by simp))
  |int j=>obtain⟨t',rfl⟩:=ry;exact eq_int (qb I q wp)
  |str j=>obtain⟨t',rfl⟩:=ry;exact PySem.EqMixed.eq_int_str (qb I q (by simp))
  |_=>exact absurd (show false=true from hs) Bool.false_ne_true
 |str i =>
  obtain⟨t,rfl⟩:=rx;cases y with
  |non=>cases ry;exact PySem.EqNone.eq_str_none (qb I q (by simp))
  |bl j=>cases ry;exact PySem.EqMixed.eq_str_bool (qb I q (by simp))
  |int j=>obtain⟨t',rfl⟩:=ry;exact PySem.EqMixed.eq_str_int (qb I q (by simp))
  |str j=>obtain⟨t',rfl⟩:=ry;exact eq_str (qb I q yp)
  |_=>exact absurd (show false=true from hs) Bool.false_ne_true
 |byt i =>
  obtain⟨t,rfl⟩:=rx;cases y with
  |byt j=>obtain⟨t',rfl⟩:=ry;exact W.eq_bytes (qb I q Ap)
  |_=>exact absurd (show false=true from hs) Bool.false_ne_true
 |_=>cases y<;>exact absurd (show false=true from hs) Bool.false_ne_true
def lf:OpR X (compareOp .NotEq) rNe:=by
 intro Q0 s σ H x y v u Q I rx ry h;obtain⟨hs,q⟩:=h;cases x with
 |non =>
  cases rx;cases y with
  |non=>cases ry;exact PySem.EqNone.ne_none_none (qb I q (by simp))
  |bl j=>cases ry;exact PySem.EqNone.ne_none_bool (qb I q (by simp))
  |int j=>obtain⟨t',rfl⟩:=ry;exact PySem.EqNone.ne_none_int (qb I q (by simp))
  |str j=>obtain⟨t',rfl⟩:=ry;exact PySem.EqNone.ne_none_str (qb I q (by simp))
  |_=>exact absurd (show false=true from hs) Bool.false_ne_true
 |bl i =>
  cases rx;cases y with
  |non=>cases ry;exact PySem.EqNone.ne_bool_none (qb I q (by simp))
  |bl j=>cases ry;exact ne_bool (qb I q (congrArg not xp))
  |str j=>obtain⟨t',rfl⟩:=ry;exact PySem.EqMixed.ne_bool_str (qb I q (by simp))
  |_=>exact absurd (show false=true from hs) Bool.false_ne_true
 |int i =>
  obtain⟨t,rfl⟩:=rx;cases y with
  |non=>cases ry;exact PySem.EqNone.ne_int_none (qb I q (by simp))
  |int j=>obtain⟨t',rfl⟩:=ry;exact ne_int (qb I q (congrArg not wp))
  |str j=>obtain⟨t',rfl⟩:=ry;exact PySem.EqMixed.ne_int_str (qb I q (by simp))
  |_=>exact absurd (show false=true from hs) Bool.false_ne_true
 |str i =>
  obtain⟨t,rfl⟩:=rx;cases y with
  |non=>cases ry;exact PySem.EqNone.ne_str_none (qb I q (by simp))
  |bl j=>cases ry;exact PySem.EqMixed.ne_str_bool (qb I q (by simp))
  |int j=>obtain⟨t',rfl⟩:=ry;exact PySem.EqMixed.ne_str_int (qb I q (by simp))
  |str j=>obtain⟨t',rfl⟩:=ry;exact ne_str (qb I q (congrArg not yp))
  |_=>exact absurd (show false=true from hs) Bool.false_ne_true
 |byt i =>
  obtain⟨t,rfl⟩:=rx;cases y with
  |byt j=>obtain⟨t',rfl⟩:=ry;exact W.ne_bytes (qb I q (congrArg not Ap))
  |_=>exact absurd (show false=true from hs) Bool.false_ne_true
 |_=>cases y<;>exact absurd (show false=true from hs) Bool.false_ne_true
def xi:OpR X (compareOp .Lt) (rI0 fun i j=>.bl (decide (i<j))):=opB0 fun _ _ _ _ _ _ _ q=>lt_int q
def ng:OpR X (compareOp .Gt) (rI0 fun i j=>.bl (decide (j<i))):=opB0 fun _ _ _ _ _ _ _ q=>gt_int q
def op_ge:OpR X (compareOp .GtE) (rI0 fun i j=>.bl (decide (j<=i))):=opB0 fun _ _ _ _ _ _ _ q=>ge_int q
def Uv:OpR X (compareOp .Is) (fun x y H Q=>y=.non/\Q (.bl (decide (x=.non))) H):=by
 intro Q0 s σ H x y v u Q I rx ry h;obtain⟨rfl,q⟩:=h;cases ry;refine is_none_gen (qb I q ?_);cases x<;>first
  |(cases rx;rfl)
  |(obtain⟨t,rfl⟩:=rx;rfl)
def Bp:OpR X (compareOp .IsNot) (fun x y H Q=>y=.non/\Q (.bl (!decide (x=.non))) H):=by
 intro Q0 s σ H x y v u Q I rx ry h;obtain⟨rfl,q⟩:=h;cases ry;refine isnot_none_gen (qb I q ?_);cases x<;>first
  |(cases rx;rfl)
  |(obtain⟨t,rfl⟩:=rx;rfl)
def Ha (b:Expr)(h:op≠.In:=by decide)(h2:op≠.NotIn:=by decide):behindInMarks op b=false:=qk b h h2
def og(ho:OpR X (compareOp op) r)(ha:PE X a ta)(hb:PE X b tb)(hm:behindInMarks op b=false):PE X (.Compare a [op] [b] pos) (tOp r ta tb):=by intro Q0 s σ H Q I h;exact wpAny_Compare1 (binT ha hb I h fun v u s2 x y H2 I2 rx ry q=>ho Q0 s2 σ H2 x y v u Q I2 rx ry q) hm
def q8u (t:TE):TT:=fun σ H Q=>t σ H fun x H'=>∃k,x=.bl k/\Q k H'
def Yd(ho:OpR X (compareOp op) r)(ha:PE X a ta)(hb:PE X b tb)(hm:behindInMarks op b=false):PT X (.Compare a [op] [b] pos) (q8u (tOp r ta tb)):=by
 intro Q0 s σ H Q I h;refine wpAny_isTrue_Compare1 (thn (ha Q0 s σ H _ I h) fun v s1 ⟨x,H1,I1,r1,q1⟩=>thn (hb Q0 s1 σ H1 _ I1 q1) fun u s2 ⟨y,H2,I2,r2,q2⟩ =>
  thn (ho Q0 s2 σ H2 x y v u _ I2 r1 r2 q2) fun c s3 ⟨z,H3,I3,r3,k,e,q3⟩=>?_) hm
 subst e;cases r3;exact wpAny_truthy_bool (fun _=>⟨H3,I3,q3⟩)
def TruV (K:W.Frag)(x:V)(H:Hp)(k:Bool):Prop :=
 match x with
 |.non=>k=false
 |.bl b=>k=b
 |.int i=>k=(i != 0)
 |.str y=>y.length<=sizeLine/\k=((y.length:Int) != 0)
 |.byt y=>y.size<=sizeLine/\k=((y.size:Int) != 0)
 |.ref p=>(∃xs,SqL K H p xs/\k = !xs.isEmpty)\/(∃xs,SqT K H p xs/\k = !xs.isEmpty) \/ ∃Y0,H p=some (.dK Y0)/\k = !Y0.isEmpty
 |_=>False
theorem Vv(r:KV Y0 vs):(!vs.isEmpty) = !Y0.isEmpty:=by cases r<;>rfl
def Ep(r:EB xs Z0):(!Z0.toArray.isEmpty) = !xs.isEmpty:=by cases r<;>simp
def mf:(sizeLine:Nat)<2 ^ 63:=by rw[sizeLine_eq];decide
def Wv:TruR X (fun x H Q=>∃k,TruV X.K x H k/\Q k H):=by
 intro Q0 s σ H x v Q I rx h;obtain⟨k,e,q⟩:=h;have hl:=mf;have hs:sizeLine=16777216:=sizeLine_eq;cases x with
 |non =>
  cases rx;have e':k=false:=e;subst e';exact truthy_none (fun _=>⟨H,I,q⟩)
 |bl b =>
  cases rx;have e':k=b:=e;subst e';exact wpAny_truthy_bool (fun _=>⟨H,I,q⟩)
 |int i =>
  obtain⟨t,rfl⟩:=rx;have e':k=(i != 0):=e;subst e';exact PySem.P.truthy_int (fun _=>⟨H,I,q⟩)
 |str y =>
  obtain⟨t,rfl⟩:=rx;obtain⟨hy,e'⟩:y.length<=sizeLine/\k=((y.length:Int) != 0):=e;subst e';exact PySem.P.truthy_str (by lia) (fun _=>⟨H,I.tok _,q⟩)
 |byt y =>
  obtain⟨t,rfl⟩:=rx;obtain⟨hy,e'⟩:y.size<=sizeLine/\k=((y.size:Int) != 0):=e;subst e';exact W.truthy_bytes (by lia) (fun _=>⟨H,I.tok _,q⟩)
 |ref p =>
  cases rx;have e':(∃xs,SqL X.K H p xs/\k = !xs.isEmpty)\/(∃xs,SqT X.K H p xs/\k = !xs.isEmpty) \/ ∃Y0,H p=some (.dK Y0)/\k = !Y0.isEmpty:=e;rcases e' with ⟨xs,hx,e'⟩|⟨xs,hx,e'⟩|⟨Y0,hx,e'⟩;subst e';obtain⟨Z0,r,pl,hz⟩:=I.list hx;have hlen:=r.length;exact wpAny_truthy_list pl.isList (by simp only[size_toArray];lia) (fun _=>⟨H,I.tok _,by rw[Ep r];exact q⟩);subst e';obtain⟨Z0,r,pl,hz⟩:=I.tuple hx;have hlen:=r.length;exact truthy_tuple pl (by simp only[size_toArray];lia) (fun _=>⟨H,I.tok _,by rw[Ep r];exact q⟩);subst e';obtain⟨hz,hS,vs,r,m⟩:Y0.length<=sizeLine/\(p == sysModules)=false/\∃vs,KV Y0 vs/\s.heap.DictOf (Zb X.prog X.w) p vs:=I.hok p _ hx;have hlen:Y0.length=vs.length:=Paired.length r;exact wpAny_truthy_dict hS m (by lia) (fun _=>⟨H,I.tok _,by rw[Vv r];exact q⟩)
 |_=>exact(show False from e).elim
def zk (ha:PE X a ta)(he:∀whole,isTrue a X.env whole=(do let v <-whole;standAt a.pos;holding [v] (truthy v))) :
  PT X a (fun σ H Q=>ta σ H fun x H'=>∃k,TruV X.K x H' k/\Q k H'):=by
 intro Q0 s σ H Q I h;exact isTrue_plain (thn (ha Q0 s σ H _ I h) fun v s1 ⟨x,H1,I1,r1,q1⟩=>Wv Q0 s1 σ H1 x v Q I1 r1 q1) (he _)
def Gp:OpR X (binaryOp .Add) (fun x y H Q=>∃i j,x=.str i/\y=.str j/\i.length+j.length<=sizeLine/\Q (.str (i++j)) H):=by intro Q0 s σ H x y v u Q I rx ry h;obtain⟨i,j,rfl,rfl,hz,q⟩:=h;obtain⟨t,rfl⟩:=rx;obtain⟨t',rfl⟩:=ry;exact add_str (fun t' tk=>(fun _=>⟨.str (i++j),H,I.tok _,⟨_,rfl⟩,q⟩)) hz
def Jc(r:EB [x] us):∃u,us=[u]/\GB x u:=by
 cases r with
 |cons r1 r2=>cases r2;exact⟨_,rfl,r1⟩
def yi(r:EB [x,y] us):∃u w',us=[u,w']/\GB x u/\GB y w':=by
 cases r with
 |cons r1 r2 =>
  cases r2 with
  |cons r3 r4=>cases r4;exact⟨_,_,rfl,r1,r3⟩
def Xv:yc X (.type "int") (fun xs H Q=>(∃i,xs=[.int i]/\Q (.int i) H) \/ ∃k,xs=[.bl k]/\Q (.int (if k then 1 else 0)) H):=by intro Q0 s σ H xs us Q I r h;rcases h with ⟨i,rfl,q⟩|⟨k,rfl,q⟩;obtain⟨u,rfl,t,rfl⟩:=Jc r;exact call_int_int (fun _=>⟨.int i,H,I,⟨_,rfl⟩,q⟩);obtain⟨u,rfl,r1⟩:=Jc r;cases r1;exact call_int_bool (fun _=>⟨.int (if k then 1 else 0),H,I.tok _,⟨_,rfl⟩,q⟩)
structure ObjM (h:Heap)(x dx C:Addr)(mA:Str->Option Value):Prop where
 obj:h.get? x=some (instObj C dx)
 ns:h.Ns1 dx mA
 ne:dx≠x
def Yv {h:Heap}(n:h.Ns1 dx mA):∃od,h.get? dx=some od/\∀name,lookIn name od=some (mA name):=by
 obtain⟨o,es,ep,ho,hd,hk,_,hm⟩:=n;refine⟨o,ho,fun name=>?_⟩;have e:=hm name;unfold nsFind findBy at e;rw[<-Array.find?_toList]at e;unfold lookIn;rw[hd];dsimp only;split;rename_i y q;rw[q]at e;exact congrArg some e;rename_i q;rw[q]at e;have a:es.toList.any (·.refKey)=false:=by
  rw[List.any_eq_false];intro y hy;obtain⟨z,t,hkey⟩:=hk y (Array.mem_toList_iff.mp hy);simp[DictEntry.refKey,hkey]
 have a':¬es.toList.any (·.refKey)=true:=by rw[a];exact Bool.false_ne_true
 rw[if_neg a'];exact congrArg some e
def ObjM.look(I:ObjM h x dx C mA):∃od,W.InstAt h x (instObj C dx) C (some od)/\∀name,lookIn name od=some (mA name) :=
 let ⟨od,ho,hl⟩:=Yv I.ns
 ⟨od,⟨I.obj,rfl,rfl,ho⟩,hl⟩
def DC.some_of(r:DC (some v) o):∃u,o=some u/\GB v u:=by
 cases o with
 |none=>exact(show False from r).elim
 |some u=>exact⟨u,rfl,r⟩
end
section
variable {P:Program}{w:World}{H H':Hp}{h h':Heap}{a C dx:Addr}{fs fs':List (Str×V)}
def Zv (hok:HOk P w H h)(e:H a=some (.ins C dx fs)):∃mA,ObjM h a dx C mA/\(∀f,DC (fs.lookup f) (mA f))/\PySem.Within mA (fs.map (·.1))/\fs.length<=1000/\H dx=some (.own a):=by obtain⟨d,z,ne,ob,mA,n,r,q⟩:=(show HB P w H h a (.ins C dx fs) from hok a _ e);exact⟨mA,⟨ob,n,ne⟩,r,q,z,d⟩
structure Cls (K:W.Frag)(C:Addr):Prop where
 pg:plainGet K C Str.empty=true
 hd:W.hasDictIn K C=true
 po:W.plainOver K C=true
 sa:findIn K (.ref C) "__setattr__" = some (some (.builtin "object.__setattr__"))
def Cls.get {K:W.Frag}(c:Cls K C)(f:Str):plainGet K C f=true:=c.pg
structure Con (K:W.Frag)(C:Addr)(f:Str)(v:V)(u:Value):Prop where
 at_:findIn K (.ref C) f=some (some u)
 rel:GB v u
 get:specialIn K u "__get__" = some none
 cp:W.copiedNames.contains f=false
structure Meth (K:W.Frag)(C:Addr)(m:Str)(f:Addr):Prop where
 at_:findIn K (.ref C) m=some (some (.ref f))
 fn:isFn K (.ref f)=true
 kp:keepIn K (.ref f)=true
variable {X:Cx}{Q0:List (Addr×Obj)}{σ:St}{s:Shared}{f:Str}{v:V}{A:Around}{E:Value->Shared->Prop}
def aw(hb:attributeBase e f env (eval e env)=eval e env)
  (h:wpAny (model prog w) A (eval e env) (fun o s₁=>wpAny (model prog w) A (getAttr o f true) Q E s₁) E s):wpAny (model prog w) A (eval (.Attribute e f pos) env) Q E s :=
 Attribute_any_ h (by rw[arm_eval_Attribute,hb])
variable {Q:Value->Shared->Prop}{c:Value}{b:Bool}
inductive ZB (K:W.Frag)(H:Hp):V->Value->Prop where
 |non:ZB K H .non (.type "NoneType")
 |bl (x:Bool):ZB K H (.bl x) (.type "bool")
 |int (i:Int):ZB K H (.int i) (.type "int")
 |str (x:Str):ZB K H (.str x) (.type "str")
 |flt (x:UInt64):ZB K H (.flt x) (.type "float")
 |lst {a:Addr}{xs:List V}(e:H a=some (.lst xs)):ZB K H (.ref a) (.type "list")
 |frz {a:Addr}{o:Obj}{xs:List V}(e:H a=some (.frz o (.lst xs))):ZB K H (.ref a) (.type "list")
 |tup {a:Addr}{xs:List V}(e:H a=some (.tup xs)):ZB K H (.ref a) (.type "tuple")
 |dK {a:Addr}{Y0:List (Key×V)}(e:H a=some (.dK Y0)):ZB K H (.ref a) (.type "dict")
 |dT {a:Addr}{Y0:List (List UB×V)}(e:H a=some (.dT Y0)):ZB K H (.ref a) (.type "dict")
 |ins {a C dx:Addr}{fs:List (Str×V)}(e:H a=some (.ins C dx fs)) (cl:Cls K C) (ha:findIn K (.ref C) "__class__" = some (some (.builtin "object.__class__")))
   (hn:specialIn K (.builtin "object.__class__") "__get__" = some (some (.builtin "getset_descriptor.__get__"))) (htk:W.takesIn K (.builtin "object.__class__")=some true)
   (hm:mroIn K C (.type "object")=some true):ZB K H (.ref a) (.ref C)
def bw(I:Inv X Q0 σ H s)(rx:GB x u)(ty:ZB X.K H x t)(e:kitOne X.K t c=some b)(h:∀tk,Q (.bool b) { s with toks:=tk }) :
  wpAny (model X.prog X.w) A (call (.builtin "isinstance") [u,c]) Q E s:=by
 cases ty with
 |non=>cases(show u=Value.none from rx);exact kia_one kitx_none I.kIn True.intro e (fun z=>nomatch z) h
 |bl y=>cases(show u=Value.bool y from rx);exact kia_one W.kitx_bool I.kIn True.intro e (fun z=>nomatch z) h
 |int i=>obtain⟨t,q⟩:=(show ∃t,u=Value.int i t from rx);cases q;exact kia_one W.kitx_int I.kIn True.intro e (fun z=>nomatch z) h
 |str y=>obtain⟨t,q⟩:=(show ∃t,u=Value.str y t from rx);cases q;exact kia_one W.kitx_str I.kIn True.intro e (fun z=>nomatch z) h
 |flt y=>obtain⟨t,q⟩:=(show ∃t,u=Value.float y t from rx);cases q;exact kia_one W.kitx_float I.kIn True.intro e (fun z=>nomatch z) h
 | @lst a xs ea =>
  cases(show u=Value.ref a from rx);obtain⟨_,_,n,_,h1⟩:=(show HB X.prog X.w H s.heap a (.lst xs) from I.hok a _ ea);exact kia_one kitx_list I.kIn ⟨_,h1,rfl⟩ e (fun z=>nomatch z) h
 | @frz a ob xs ea =>
  cases(show u=Value.ref a from rx);obtain⟨_,_,_,n,_,h1⟩:=(show HB X.prog X.w H s.heap a (.frz ob (.lst xs)) from I.hok a _ ea);exact kia_one kitx_list I.kIn ⟨_,h1,rfl⟩ e (fun z=>nomatch z) h
 | @tup a xs ea =>
  cases(show u=Value.ref a from rx);obtain⟨_,_,_,p⟩:=(show HB X.prog X.w H s.heap a (.tup xs) from I.hok a _ ea);obtain⟨o,h1,h2,_⟩:=p;exact kia_one W.kitx_tuple I.kIn ⟨o,h1,h2⟩ e (fun z=>nomatch z) h
 | @dK a Y0 ea =>
  cases(show u=Value.ref a from rx);obtain⟨_,_,vs,_,p⟩:=(show HB X.prog X.w H s.heap a (.dK Y0) from I.hok a _ ea);obtain⟨o,es,ep,h1,h2,_⟩:=p;exact kia_one kitx_dict I.kIn ⟨o,h1,h2.1⟩ e (fun z=>nomatch z) h
 | @dT a Y0 ea =>
  cases(show u=Value.ref a from rx);obtain⟨_,_,xs,_,o,es,ep,h1,h2,_⟩:=(show HB X.prog X.w H s.heap a (.dT Y0) from I.hok a _ ea);exact kia_one kitx_dict I.kIn ⟨o,h1,h2.1⟩ e (fun z=>nomatch z) h
 | @ins a C dx fs ea cl ha hn htk hm =>
  cases(show u=Value.ref a from rx);obtain⟨mA,O,_⟩:=Zv I.hok ea;obtain⟨od,J,_⟩:=O.look;exact kia_one (W.kitx_own (cl.get _) cl.hd ha hn htk hm) I.kIn J e (fun z=>nomatch z) h
structure KB (k:Nat)(A:Around):Prop where
 hd:A.handled=none
 dp:A.depth+2 * k+5<recursionLimit
 un:A.units+16 * k+200<cLine
def KB.mono(r:KB k A)(h:j<=k):KB j A:=⟨r.hd,by have:=r.dp;lia,by have:=r.un;lia⟩
def KB.deeper(r:KB (k+1) A)(env:Env):KB k (A.deeper env) :=
 ⟨r.hd,by have:=r.dp;show A.depth+1+2 * k+5<_;lia,by have:=r.un;show A.units+3+16 * k+200<_;lia⟩
def cw:(A.under (.builtin "type.__call__" ⟨.ref C::us,kw⟩)).depth=A.depth+1:=by first|rfl|simp[Around.under,Code.weight,Code.isCreation,Code.isGuard,Code.isCaller,Code.frames,Code.isFrame,guardIds]
def dw:(A.under (.builtin "type.__call__" ⟨.ref C::us,kw⟩)).units=A.units+1:=by first|rfl|simp[Around.under,Code.cUnits,Code.frames,Code.isFrame]
def KB.make(r:KB (k+1) A)(C:Addr)(us:List Value)(kw:List (Str×Value)):KB k (A.under (.builtin "type.__call__" ⟨.ref C::us,kw⟩)) :=
 ⟨r.hd,by have:=r.dp;rw[cw];lia,by have:=r.un;rw[dw];lia⟩
def KB.depth(r:KB k A):A.depth<recursionLimit:=by have:=r.dp;lia
def tNil:TA:=fun _ H Q=>Q [] H
def y0i (ta:TE)(tr:TA):TA:=fun σ H Q=>ta σ H fun x H1=>tr σ H1 fun xs H2=>Q (x::xs) H2
variable {e:Expr}{es:List Expr}{te:TE}{t:TA}{pos:Pos}
def Da:PA X [] tNil:=fun _ _ _ _ H Q I h=>Calls.spliced_nil (fun _=>⟨[],H,I,.nil,h⟩)
def Aa (ha:PE X e te)(hr:PA X es t)(hs:starEach (e::es) X.env=(false,eval e X.env)::starEach es X.env:=by rfl):PA X (e::es) (y0i te t):=by intro pos Q0 s σ H Q I h;rw[hs];show wpAny _ _ (spliced ((false,eval e X.env)::backTo pos (starEach es X.env))) _ _ s;refine Calls.spliced_cons (thn (ha Q0 s σ H _ I h) fun u s1 ⟨x,H1,I1,r1,q1⟩=>?_);exact thn (hr pos Q0 s1 σ H1 _ I1 q1) fun us s2 ⟨xs,H2,I2,r2,q2⟩=>(fun _=>⟨x::xs,H2,I2,.cons r1 r2,q2⟩)
def tTup (t:TA):TE:=fun σ H Q=>t σ H fun xs H1=>xs.length<=sizeLine/\∀p,H1 p=none->Q (.ref p) (upd H1 p (.tup xs))
def tLst (t:TA):TE:=fun σ H Q=>t σ H fun xs H1=>xs.length<=sizeLine/\∀p,H1 p=none->Q (.ref p) (upd H1 p (.lst xs))
def ah {x1}(h:PA X es t):PE X (.Tuple es x1 pos) (tTup t):=by intro Q0 s σ H Q I hq;refine wpAny_Tuple_spliced (thn (h pos Q0 s σ H _ I hq) fun us s1 ⟨xs,H1,I1,r,z,q⟩=>⟨by rw[<-r.length];exact z,?_⟩);have hf:H1 s1.heap.objs.size=none:=I1.hok.fresh (le_refl _);refine(fun _=>⟨.ref s1.heap.objs.size,upd H1 s1.heap.objs.size (.tup xs),I1.laid (t':=s1.toks) (fun b u e=>get?_push_of_some _ e) (le_refl _) ?_,rfl,q _ hf⟩);exact⟨z,us,r,⟨_,get?_push_size _ rfl,rfl,_,rfl⟩⟩
def ac (h:PA X es t):PE X (.List es pos) (tLst t):=by intro Q0 s σ H Q I hq;refine wpAny_List_spliced (thn (h pos Q0 s σ H _ I hq) fun us s1 ⟨xs,H1,I1,r,z,q⟩=>⟨by rw[<-r.length];exact z,?_⟩);have hf:H1 s1.heap.objs.size=none:=I1.hok.fresh (le_refl _);refine(fun _=>⟨.ref s1.heap.objs.size,upd H1 s1.heap.objs.size (.lst xs),I1.laid (t':=s1.toks) (fun b u e=>get?_push_of_some _ e) (le_refl _) ?_,rfl,q _ hf⟩);exact⟨z,us,0,r,get?_push_size _ rfl⟩
abbrev Sp:=List V->Hp->VK->XK->Prop
abbrev CXT:=List Env->Hp->Shared->XK->Value->Shared->Prop
end
section
structure VC (P:Program)(w:World)(K:W.Frag)(mg:Str->Option Value)(base:Heap)(A:Around)(V0:List Env)(s:Shared)(H:Hp):Prop where
 frames:A.frames=some V0
 mod:Mod K mg base
 bs:∀b o,base.get? b=some o->s.heap.get? b=some o/\H b=none
 bsz:base.objs.size<=s.heap.objs.size
 funs:s.heap.FunFrames base V0
 frf:∀b∈frs V0,H b=none
 lam:gk H
 hok:HOk P w H s.heap
 bare:AllBare s.gens
 pos:tk0<=s.toks
def CE (V0:List Env)(P:Program)(w:World)(H:Hp)(s:Shared)(Q:VK)(u:Value)(s':Shared):Prop :=
 ∃v H',s'.os=s.os/\AllBare s'.gens/\Un (frs V0) [] H H' s.heap s'.heap/\HOk P w H' s'.heap/\GB v u/\Q v H'
def CR (CX:CXT)(V0:List Env)(P:Program)(w:World)(H:Hp)(s:Shared)(Q:VK)(E:XK)(r:Result)(s':Shared):Prop :=
 match r with
 |.ok (.ret u)=>CE V0 P w H s Q u s'
 |.ok _=>False
 |.error e=>CX V0 H s E e s'
structure MB (P:Program)(w:World)(K:W.Frag)(mg:Str->Option Value)(base:Heap)(CX:CXT)(k:Nat)(f:Addr)(fd:FuncData)(ps:List Str)(sp:Sp):Prop where
 len:∀vs H Q E,sp vs H Q E->vs.length=ps.length
 run:∀(A:Around)(V0:List Env)(s:Shared)(H:Hp)(args:Args)(us:List Value)(vs:List V)(Q:VK)(E:XK),KB k A->VC P w K mg base A V0 s H->BindsTo s fd args (ps.zip us)->EB vs us->sp vs H Q E ->
  codeAny (model P w) A (.call (.ref f) args) (CR CX V0 P w H s Q E) s
def VC.make{K:W.Frag}(e:VC P w K mg base A V0 s H)(C:Addr)(us:List Value)(kw:List (Str×Value)) :
  VC P w K mg base (A.under (.builtin "type.__call__" ⟨.ref C::us,kw⟩)) V0 s H:=⟨by first|exact e.frames|(simpa[Around.under,Code.envs,Code.isFrame,pushEnvs] using e.frames),e.mod,e.bs,e.bsz,e.funs,e.frf,e.lam,e.hok,e.bare,e.pos⟩
variable {X:Cx}{Q0:List (Addr×Obj)}{σ:St}{H:Hp}{s s':Shared}
def Inv.env0 (I:Inv X Q0 σ H s):VC X.prog X.w X.K X.mg X.base X.A X.stack s H :=
 ⟨I.ok.frames,I.ok.mod,I.bs,le_trans I.ok.bsz I.sz,I.stack,I.stkFree,fun p e=>I.base.tbls p (I.ok.lam p e),I.hok,I.bare,I.pos⟩
def Inv.after(I:Inv X Q0 σ H s)(h:CE X.stack X.prog X.w H s Q u s'):EP X Q0 σ Q u s':=by obtain⟨v,H',os,bare,un,hok,r,q⟩:=h;obtain⟨hh,g,d,t,os'⟩:=s';obtain rfl:os' = s.os:=os;exact(fun _=>⟨v,H',I.call (h':=hh) (g':=g) (d':=d) (t':=t) (ch:=[]) un hok bare (fun b z=>absurd z (by simp)),r,q⟩)
def z8n (sp:Sp)(dvs:List V)(E:XK)(t:TA):TE:=fun σ H Q=>t σ H fun vs H1=>sp (vs++dvs) H1 Q E
def OB (K:W.Frag)(fd:FuncData)(ps:List Str)(ds:List Value):Prop :=
 ∀(s:Shared)(us:List Value),K.In s.heap->(us++ds).length=ps.length->BindsTo s fd ⟨us,[]⟩ (ps.zip (us++ds))
def OB.all {K:W.Frag}(h:∀us:List Value,us.length=ps.length->bindArgs fd ⟨us,[]⟩=pure (ps.zip us)):OB K fd ps []:=fun s us _ hl=>by
 rw[append_nil]at hl ⊢;exact .of_eq (h us hl)
def Zd (CX:CXT)(X:Cx)(E:XK):Prop:=∀(Q0:List (Addr×Obj))(σ:St)(H:Hp)(s:Shared)(e:Value)(s':Shared),Inv X Q0 σ H s->CX X.stack H s E e s'->X.xe e s'
variable {CX:CXT}{k:Nat}{f C:Addr}{fd:FuncData}{ps:List Str}{sp:Sp}{dvs:List V}{ds:List Value}{E:XK}{x m:Str}{p pos apos:Pos}{e o:Expr}{es:List Expr}{ta:TE}{t:TA}
def fw(F:MB X.prog X.w X.K X.mg X.base CX k f fd ps sp)(hr:KB k X.A)(hb:OB X.K fd ps ds)(hd:EB dvs ds)(hx:Zd CX X E)
  (I:Inv X Q0 σ H s)(r:EB vs us)(h:sp (vs++dvs) H Q E):wpAny (model X.prog X.w) X.A (call (.ref f) us) (EP X Q0 σ Q) X.xe s:=by
 have r2:EB (vs++dvs) (us++ds):=r.append hd;have hl:(us++ds).length=ps.length:=by rw[<-r2.length];exact F.len _ _ _ _ h
 refine wpAny_call (codeAny_mono (F.run X.A X.stack s H ⟨us,[]⟩ (us++ds) (vs++dvs) Q E hr I.env0 (hb s us I.kIn hl) r2 h) fun r s' hq=>?_);cases r with
 |error e=>exact hx Q0 σ H s e s' I hq
 |ok fl =>
  cases fl with
  |ret u=>exact I.after hq
  |next=>exact False.elim hq
  |brk=>exact False.elim hq
  |cont=>exact False.elim hq
def ae (F:MB X.prog X.w X.K X.mg X.base CX k f fd ps sp)(hr:KB k X.A)(hg:Gl X x)(hm:X.mg x=some (.ref f))(hk:keepIn X.K (.ref f)=true)(hb:OB X.K fd ps ds)(hd:EB dvs ds)(hx:Zd CX X E)
  (ha:PA X (e::es) t)(J0:(x == ("__debug__":Str))=false:=by decide)(he:starEach (e::es) X.env=(false,eval e X.env)::starEach es X.env:=by rfl)(K0:(backTo pos (starEach es X.env)).any (·.1)=false:=by rfl) :
  PE X (.Call (.Name x p) (e::es) [] pos) (z8n sp dvs E t):=by
 intro Q0 s σ H Q I h;refine wpAny_Call_Name_kw (ig I hg hm ?_ J0);refine callWith_K (h₀:=X.base) I.ok.mod.kin hk (thn (ha pos Q0 s σ H _ I h) fun us s1 ⟨vs,H1,I1,r,q⟩=>⟨I1.kIn,?_⟩) he K0;exact fw F hr hb hd hx I1 r q
structure Mk (K:W.Frag)(C f:Addr):Prop where
 makes:W.makesIn K C=true
 init:findIn K (.ref C) "__init__" = some (some (.ref f))
 fn:isFn K (.ref f)=true
 kp:keepIn K (.ref C)=true
variable {ks:List Str}{kpos:Pos}{kws:List Keyword}{te:TE}{tk:TA}{nm:Option Str}
structure KBinds (K:W.Frag)(fd:FuncData)(ps ks:List Str)(g:List Value->List Value->List Value)(gV:List V->List V->List V):Prop where
 to:∀(s:Shared)(us ws:List Value),K.In s.heap->(g us ws).length=ps.length->BindsTo s fd ⟨us,ks.zip ws⟩ (ps.zip (g us ws))
 rel:∀{vs:List V}{us:List Value}{zs:List V}{ws:List Value},EB vs us->EB zs ws->EB (gV vs zs) (g us ws)
structure CB (N P:List Str)(sc:Scope):Prop where
 kind:sc.kind=.function
 co:sc.isCoroutine=false
 gen:sc.isGenerator=false
 nd:N.Nodup
 pre:N.take P.length=P
 par:∀x∈P,sc.names.lookup x=some .local\/sc.names.lookup x=some .cell
 nofree:∀y∈sc.names,y.2≠.free
theorem Ip {kindOf:Str->Option NameKind}:∀{binds:List (Str×Value)}{m:Str->Option Value},(∀v,(x,v)∉binds)->bindL kindOf binds m x=m x
 | [],_,_=>rfl
 |(n,v)::r,m,h=>by
  unfold bindL;rw[Ip fun w hw=>h w (mem_cons_of_mem _ hw)];split
  ·have:x≠n:=by rintro rfl;exact h v mem_cons_self
   simp[this]
  rfl
theorem Jp {kindOf:Str->Option NameKind}:∀{binds:List (Str×Value)}{m:Str->Option Value},(∀v,(x,v)∉binds)->bindC kindOf binds m x=m x
 | [],_,_=>rfl
 |(n,v)::r,m,h=>by
  unfold bindC;rw[Jp fun w hw=>h w (mem_cons_of_mem _ hw)];split;rfl;have:x≠n:=by rintro rfl;exact h v mem_cons_self
  simp[this]
theorem Lp {kindOf:Str->Option NameKind}:∀{P:List Str}{vs:List Value}{i:Nat}{m:Str->Option Value},P.Nodup->P[i]? = some x->vs[i]? = some v->kindOf x=some .local ->
  bindL kindOf (P.zip vs) m x=some v
 | [],_,_,_,_,h,_,_=>by simp at h
 |_::_,[],_,_,_,_,h,_=>by simp at h
 |p::P,w::vs,0,m,nd,h1,h2,hk=>by
  simp at h1 h2;subst h1;subst h2;show bindL kindOf ((p,w)::P.zip vs) m p=_;unfold bindL;rw[Ip fun v hv=>(nodup_cons.mp nd).1 (of_mem_zip hv).1,if_pos hk];simp
 |p::P,w::vs,i+1,m,nd,h1,h2,hk=>by
  show bindL kindOf ((p,w)::P.zip vs) m x=_;unfold bindL;exact Lp (i:=i) (nodup_cons.mp nd).2 (by simpa using h1) (by simpa using h2) hk
theorem Mp {kindOf:Str->Option NameKind}:∀{P:List Str}{vs:List Value}{i:Nat}{m:Str->Option Value},P.Nodup->P[i]? = some x->vs[i]? = some v->kindOf x≠some .local ->
  bindC kindOf (P.zip vs) m x=some v
 | [],_,_,_,_,h,_,_=>by simp at h
 |_::_,[],_,_,_,_,h,_=>by simp at h
 |p::P,w::vs,0,m,nd,h1,h2,hk=>by
  simp at h1 h2;subst h1;subst h2;show bindC kindOf ((p,w)::P.zip vs) m p=_;unfold bindC;rw[Jp fun v hv=>(nodup_cons.mp nd).1 (of_mem_zip hv).1,if_neg hk];simp
 |p::P,w::vs,i+1,m,nd,h1,h2,hk=>by
  show bindC kindOf ((p,w)::P.zip vs) m x=_;unfold bindC;exact Mp (i:=i) (nodup_cons.mp nd).2 (by simpa using h1) (by simpa using h2) hk
noncomputable def start (N:List Str) (vs:List V):St:=vs.map some++replicate (N.length - vs.length) none
noncomputable def rC (CX:CXT) (P:Program) (w:World) (K:W.Frag) (mg:Str->Option Value) (base:Heap) (N:List Str) (qual:Str) (scope:Scope) (f:Addr) (cd:Value) (A:Around) (V0:List Env) (s:Shared) (H:Hp) (E:XK):Cx where
 prog:=P
 w:=w
 K:=K
 mg:=mg
 base:=base
 A:=A.deeper (envOfC qual scope s.heap.objs.size f cd)
 N:=N
 s₀:=s
 H₀:=H
 env:=envOfC qual scope s.heap.objs.size f cd
 V0:=V0
 stack:=envOfC qual scope s.heap.objs.size f cd::V0
 ex:=[]
 calm:=true
 fn:=fun _=>true
 pn:=[]
 xe:=fun e s'=>wpAny (model P w) (A.deeper (envOfC qual scope s.heap.objs.size f cd)) (leaving (envOfC qual scope s.heap.objs.size f cd) e) (fun _ s''=>CX V0 H s E e s'') (fun e' s''=>CX V0 H s E e' s'') s'
def Np {sc:Scope}(h:sc.names.lookup x=some .cell):∃c,(cellsFrom n sc.names []).lookup x=some c:=by have q:=cellsFrom_some sc.names n [] (.inl h);exact isSome_iff_exists.mp q
def iw{K:W.Frag} 
  (S:CB N ps scope)(hk1:tk0<=s1.toks)(hd:A.handled=none)(e0:VC P w K mg base A V0 s H)(hl:vs.length=ps.length)(r:EB vs us)
  (x:InCallC s s.heap.objs.size (bindL (envOfC qual scope s.heap.objs.size f cd).kindOf (ps.zip us) fun _=>none) (cellsFrom (s.heap.objs.size+1) scope.names []) (bindC (envOfC qual scope s.heap.objs.size f cd).kindOf (ps.zip us) fun _=>none) s1) :
  Inv (rC CX P w K mg base N qual scope f cd A V0 s H E) [] (start N vs) H s1:=by
 have K0:ps.length<=N.length:=by have:=congrArg List.length S.pre;rw[length_take]at this;lia
 obtain⟨h1,tk,rfl,hk⟩:=x.done;have noA:∀b:Addr,b∉(rC CX P w K mg base N qual scope f cd A V0 s H E).ex:=fun b z=>absurd (show b∈([]:List Addr) from z) (by simp);refine⟨⟨e0.mod,S.kind,rfl,rfl,le_refl _,fun y z c h1 h2=>?_,fun y hy=>?_,fun y c _ h=>?_,fun _=>hd,Around.frames_deeper e0.frames,.inr ⟨rfl,rfl⟩,fun b z=>absurd z (noA b),e0.bs,e0.bsz,fun b _ _=>noA b,fun b z=>absurd z (noA b),e0.funs,e0.frf,e0.lam⟩,
  rfl,e0.bare,Un.kept hk,⟨_,x.toInCall.ns,fun i y v h1 h2 h3=>?_⟩,fun y c h=>⟨_,x.cell y c h⟩,e0.hok.fresh (le_refl _),fun y c h=>?_,fun p hp=>absurd (show p∈([]:List (Addr×Obj)) from hp) (by simp),e0.hok.kept hk,?_,hk1⟩
 exact name_of_addr x.apart (PySem.mem_of_lookup h1) (PySem.mem_of_lookup h2)
 ·have hy:scope.names.lookup y=some .cell\/scope.names.lookup y=some .free:=hy;rcases hy with hy|hy;exact Np hy;exact absurd rfl (S.nofree _ (PySem.mem_of_lookup hy))
 exact le_of_lt (x.above y c (PySem.mem_of_lookup h))
 ·have hi:i<vs.length:=by
   unfold start at h2;by_cases hi:i<vs.length;exact hi;rw[getElem?_append_right (by simpa using hi)]at h2;rw[getElem?_replicate]at h2;split at h2<;>cases h2
  have ha:vs[i]? = some v:=by
   unfold start at h2;rw[getElem?_append_left (by simpa using hi),getElem?_map]at h2;cases e:vs[i]? with
   |none=>rw[e]at h2;cases h2
   |some a=>rw[e]at h2;cases h2;rfl
  obtain⟨u,hu,rv⟩:=r.get ha;have hp:ps[i]? = some y:=by
   rw[<-S.pre,List.getElem?_take_of_lt (by lia)];exact h1
  have ndP:ps.Nodup:=by rw[<-S.pre];exact S.nd.sublist (List.take_sublist _ _)
  refine⟨u,rv,?_⟩;rcases S.par y (mem_of_getElem? hp) with k|k;exact .inl ⟨k,Lp ndP hp hu k⟩;obtain⟨c,e⟩:=Np (n:=s.heap.objs.size+1) k;refine .inr ⟨.inl k,c,e,?_⟩;have q:=x.cell y c e;rw[Mp ndP hp hu (by show scope.names.lookup y≠_;rw[k];decide)]at q;exact q
 exact e0.hok.fresh (le_of_lt (x.above y c (PySem.mem_of_lookup h)));unfold start;show _=N.length;rw[length_append,length_map,List.length_replicate]
 lia
def Ak{K:W.Frag}{dV kV doc pm cdv ct oc:Value} 
(lk:K.lookup f=some ⟨oc,od,.func (fnOf name qual params body scope dV kV doc pm an cdv ct),O0⟩)(hcd:codeIn K cdv qual=true)(S:CB N ps scope)
  (len:∀vs H Q E,sp vs H Q E->vs.length=ps.length)
  (hbody:∀(A:Around)(V0:List Env)(s:Shared)(H:Hp)(vs:List V)(Q:VK)(E:XK),KB k (A.deeper (envOfC qual scope s.heap.objs.size f cdv))->sp vs H Q E ->
   ∃t,PSs (rC CX P w K mg base N qual scope f cdv A V0 s H E) body t/\t { nx:=fun _ H'=>Q .non H',rt:=Q } (start N vs) H) :
  MB P w K mg base CX (k+1) f (fnOf name qual params body scope dV kV doc pm an cdv ct) ps sp:=by
 refine⟨len,fun A V0 s H args us vs Q E hr e0 hb r hsp=>?_⟩;have hl:=len _ _ _ _ hsp;have KX:K.In s.heap:=e0.mod.kin.keeps fun b o e=>(e0.bs b o e).1;have lim:s.heap.NoLimit:=e0.mod.nolimit.keeps fun b o e=>(e0.bs b o e).1;have hkind:∀y∈ps.zip us,scope.names.lookup y.1=some .local\/(scope.names.lookup y.1=some .cell/\((cellsFrom (s.heap.objs.size+1) scope.names []).lookup y.1).isSome=true):=fun⟨n,v⟩ hy=>by
  rcases S.par n (of_mem_zip hy).1 with q|q;exact .inl q;exact .inr ⟨q,cellsFrom_some _ _ _ (.inl q)⟩
 refine codeAny_call_function hr.depth (KX _ _ lk) rfl S.co S.gen rfl (W.codeRec_of KX hcd) (hb _ _ _ _ ?_);refine wpAny_with_toks (n:=tk0) e0.pos ?_;refine wpAny_newFunctionEnv_cells S.kind hkind fun env he s1 x=>fun hk1=>?_;subst he;refine⟨lim.keeps x.toInCall.keep,codeAny_func ?_⟩;obtain⟨t,ht,hq⟩:=hbody A V0 s H vs Q E (hr.deeper _) hsp;have I:Inv (rC CX P w K mg base N qual scope f cdv A V0 s H E) [] (start N vs) H s1:=iw S hk1 hr.hd e0 hl r x;refine wpAny_mono (wpAny_toks_of I.pos (ht [] s1 (start N vs) H _ I hq)) (fun fl s' hs=>?_) fun e s' hs=>hs.2;replace hs:=hs.2 hs.1;have fin:∀{σ':St}{H':Hp}{v:V}{u:Value},Inv (rC CX P w K mg base N qual scope f cdv A V0 s H E) [] σ' H' s'->GB v u->Q v H'->CE V0 P w H s Q u s' :=
  fun {σ' H' v u} J rv q=>⟨v,H',J.os,J.bare,J.base,J.hok,rv,q⟩
 cases fl with
 |ret u =>
  obtain⟨v,σ',H',J,rv,q⟩:=hs;exact fin J rv q
 |next =>
  obtain⟨σ',H',J,q⟩:=hs;exact fin (v:=V.non) (u:=Value.none) J rfl q
 |brk =>
  obtain⟨_,_,_,q⟩:=hs;exact False.elim q
 |cont =>
  obtain⟨_,_,_,q⟩:=hs;exact False.elim q
variable {id T:String}{r:List V->Hp->VK->Prop}
def tCB (r:List V->Hp->VK->Prop)(t:TA):TE:=fun σ H Q=>t σ H fun vs H1=>r vs H1 Q
def Tc (hc:yc X (.builtin id) r)(hg:Gl X x)(hm:X.mg x=none)(hv:bootBuiltins x=some (.builtin id))(ha:PA X (e::es) t)(hn:x ≠ "__name__":=by decide)(J0:(x == ("__debug__":Str))=false:=by decide)
  (he:starEach (e::es) X.env=(false,eval e X.env)::starEach es X.env:=by rfl)(K0:(backTo pos (starEach es X.env)).any (·.1)=false:=by rfl):PE X (.Call (.Name x p) (e::es) [] pos) (tCB r t):=by
 intro Q0 s σ H Q I h;refine wpAny_Call_Name_kw (Od I hg hm hv ?_ hn J0);exact PyProof.Rows.callWith_builtin1 (thn (ha pos Q0 s σ H _ I h) fun us s1 ⟨vs,H1,I1,r1,q1⟩=>hc Q0 s1 σ H1 vs us Q I1 r1 q1) he K0
def Bk (hc:yc X (.type T) r)(hg:Gl X x)(hm:X.mg x=none)(hv:bootBuiltins x=some (.type T))(ha:PA X (e::es) t)(hn:x ≠ "__name__":=by decide)(J0:(x == ("__debug__":Str))=false:=by decide)
  (he:starEach (e::es) X.env=(false,eval e X.env)::starEach es X.env:=by rfl)(K0:(backTo pos (starEach es X.env)).any (·.1)=false:=by rfl):PE X (.Call (.Name x p) (e::es) [] pos) (tCB r t):=by
 intro Q0 s σ H Q I h;refine wpAny_Call_Name_kw (Od I hg hm hv ?_ hn J0);exact PyProof.Rows.callWith_type1 (thn (ha pos Q0 s σ H _ I h) fun us s1 ⟨vs,H1,I1,r1,q1⟩=>hc Q0 s1 σ H1 vs us Q I1 r1 q1) he K0
end
end L2
namespace HT
open PySem PyProof.Rows
open PySem.SeqAt
open PySem.AutoSeq1 (wpAny_loadPart')
open PySem.MeetsSeq PySem.MeetsSeq2 PySem.MeetsSeq3
section
variable {prog:Program}{w:World}{A:Around}{E:Value->Shared->Prop}{s:Shared}
noncomputable def sIx (n d:Nat):Option Int->Nat
 |none=>d
 |some v=>if v<0 then(v+(n:Int)).toNat else min v.toNat n
theorem sIx_none (n d:Nat):sIx n d none=d:=rfl
def sIx_nat (n d k:Nat):sIx n d (some (k:Int))=min k n:=by show(if (k:Int)<0 then((k:Int)+(n:Int)).toNat else min (k:Int).toNat n)=min k n;rw[if_neg (by lia),toNat_natCast]
end
end HT
namespace L2
open PySem PySem.Spec PyProof.Rows
abbrev TO:=St->Hp->(Option Int->Hp->Prop)->Prop
def PO (X:Cx)(e:Option Expr)(t:TO):Prop :=
 ∀(Q0:List (Addr×Obj))(s:Shared)(σ:St)(H:Hp)(Q:Option Int->Hp->Prop),Inv X Q0 σ H s->t σ H Q ->
  wpAny (model X.prog X.w) X.A (evalPart e X.env) (fun u s'=>tk0<=s'.toks->∃o H',Inv X Q0 σ H' s'/\IsPart u o/\Q o H') X.xe s
def lw:TO:=fun _ H Q=>Q none H
def tPart (t:TE):TO:=fun σ H Q=>t σ H fun x H1=>∃i,x=.int i/\Q (some i) H1
section
variable {X:Cx}{e:Expr}{te:TE}{lo hi:Option Expr}{tl th:TO}{pos p2:Pos}
def mw:PO X none lw:=by intro Q0 s σ H Q I h;rw[evalPart_none];exact wpAny_pure (fun _=>⟨none,H,I,.none,h⟩)
def Op (h:PE X e te):PO X (some e) (tPart te):=by intro Q0 s σ H Q I hw;rw[evalPart_some];refine thn (h Q0 s σ H _ I hw) fun u s1 ⟨x,H1,I1,r1,q1⟩=>?_;obtain⟨i,rfl,q⟩:=q1;obtain⟨t,rfl⟩:=r1;exact(fun _=>⟨some i,H1,I1,.int i t,q⟩)
def SlR (X:Cx)(r:V->Option Int->Option Int->Hp->VK->Prop):Prop :=
 ∀(Q0:List (Addr×Obj))(s:Shared)(σ:St)(H:Hp)(x:V)(v vl vu:Value)(lo hi:Option Int)(sl:Addr)(Q:VK),Inv X Q0 σ H s->GB x v->s.heap.IsSliceOf sl vl vu .none->IsPart vl lo->IsPart vu hi->r x lo hi H Q ->
  ∃T id,typeLookup (.type T) "__getitem__" = pure (some (.builtin id))/\s.TypeIs v T/\wpAny (model X.prog X.w) X.A (getItem v (.ref sl)) (EP X Q0 σ Q) X.xe s
def tSl (r:V->Option Int->Option Int->Hp->VK->Prop)(te:TE)(tl th:TO):TE:=fun σ H Q=>te σ H fun x H1=>tl σ H1 fun l H2=>th σ H2 fun u H3=>r x l u H3 Q
def zi(hr:SlR X r)(he:PE X e te)(hl:PO X lo tl)(hu:PO X hi th):PE X (.Subscript e (.Slice lo hi none p2) pos) (tSl r te tl th):=by intro Q0 s σ H Q I h;refine Subscript_ (thn (he Q0 s σ H _ I h) fun v s1 ⟨x,H1,I1,r1,q1⟩=>?_);refine wpAny_Slice (thn (hl Q0 s1 σ H1 _ I1 q1) fun vl s2 ⟨l,H2,I2,pl,q2⟩=>thn (hu Q0 s2 σ H2 _ I2 q2) fun vu s3 ⟨u,H3,I3,pu,q3⟩=>?_);rw[evalPart_none];refine wpAny_pure ?_;have I4:Inv X Q0 σ H3 { s3 with heap:=s3.heap.push { cls:=.type "slice",data:=.fields #[vl,vu,.none] } }:=I3.kept (t':=s3.toks) fun b ob q=>get?_push_of_some _ q;obtain⟨T,id,hT,ht,hg⟩:=hr Q0 { s3 with heap:=s3.heap.push { cls:=.type "slice",data:=.fields #[vl,vu,.none] } } σ H3 x v vl vu l u s3.heap.objs.size Q I4 r1 (Heap.IsSliceOf.new ..) pl pu q3;show wpAny (model X.prog X.w) X.A (subscriptTail e (.Slice lo hi none p2) v (.ref s3.heap.objs.size)) (EP X Q0 σ Q) X.xe { s3 with heap:=s3.heap.push { cls:=.type "slice",data:=.fields #[vl,vu,.none] } };exact tail_any (ops:=[.ref s3.heap.objs.size,v]) ht hT hg (by with_unfolding_all rfl)
noncomputable def oG (xs:List V) (lo hi:Option Int):List V:=(xs.drop (HT.sIx xs.length 0 lo)).take (HT.sIx xs.length xs.length hi - HT.sIx xs.length 0 lo)
def ow (xs:List V)(lo hi:Option Int):(oG xs lo hi).length<=xs.length:=by unfold oG;rw[length_take,length_drop];exact le_trans (Nat.min_le_right _ _) (sub_le _ _)
noncomputable def ixN (n:Nat) (i:Int):Option Nat:=if 0<=i then(if i<n then some i.toNat else none) else if -(n:Int)<=i then some (i+n).toNat else none
noncomputable def atI {α:Type}(xs:List α) (i:Int):Option α:=(ixN xs.length i).bind fun j=>xs[j]?
def Pp{i:Int}(h:ixN n i=some j):seqIndex? i n=some j/\j<n/\-(n:Int)<=i/\i<n:=by
 unfold ixN at h;by_cases h0:0<=i
 ·rw[if_pos h0]at h;by_cases h1:i<n;rw[if_pos h1]at h;have e:i.toNat=j:=Option.some.inj h;exact⟨by rw[seqIndex_of h0 h1,e],by lia,by lia,h1⟩;rw[if_neg h1]at h;cases h
 rw[if_neg h0]at h;by_cases h1:-(n:Int)<=i;rw[if_pos h1]at h;have e:(i+n).toNat=j:=Option.some.inj h;exact⟨by rw[seqIndex_neg (by lia) h1,e],by lia,h1,by lia⟩;rw[if_neg h1]at h;cases h
def Dk{i:Int}(h:atI xs i=some v):∃j,seqIndex? i xs.length=some j/\xs[j]? = some v/\j<xs.length/\-(xs.length:Int)<=i/\i<xs.length:=by
 unfold atI at h;cases e:ixN xs.length i with
 |none=>rw[e]at h;cases h
 |some j =>
  rw[e]at h;obtain⟨h1,h2,h3,h4⟩:=Pp e;exact⟨j,h1,h,h2,h3,h4⟩
def Pd{xs:List α}{j:Nat}{v:α}(h:xs[j]? = some v):atI xs (j:Int)=some v:=by
 have hj:j<xs.length:=(List.getElem?_eq_some_iff.mp h).1;have e:ixN xs.length (j:Int)=some j:=by
  unfold ixN;rw[if_pos (by lia),if_pos (by lia)];simp
 unfold atI;rw[e];exact h
def Qp(xs:List α)(v:α):atI (xs++[v]) (-1)=some v:=by
 have hl:(xs++[v]).length=xs.length+1:=by simp
 have e:ixN (xs++[v]).length (-1)=some xs.length:=by
  unfold ixN;rw[hl,if_neg (by decide),if_pos (by lia)];congr 1
  lia
 unfold atI;rw[e];show(xs++[v])[xs.length]? = some v;simp
def bh (b:Expr):Prop:=∀o i,subscripted b false o i=operate [o,i] (getItem o i)
def IxR (X:Cx)(r:R2):Prop :=
 ∀(value slice:Expr)(Q0:List (Addr×Obj))(s:Shared)(σ:St)(H:Hp)(x y:V)(v u:Value)(Q:VK),Inv X Q0 σ H s->GB x v->GB y u->r x y H Q ->
  subscripted slice false v u=operate [v,u] (getItem v u)->wpAny (model X.prog X.w) X.A (subscriptTail value slice v u) (EP X Q0 σ Q) X.xe s
def MtR (X:Cx)(id:String)(r:V->List V->Hp->VK->Prop):Prop :=
 ∀(Q0:List (Addr×Obj))(s:Shared)(σ:St)(H:Hp)(x:V)(xs:List V)(v:Value)(us:List Value)(Q:VK),Inv X Q0 σ H s->GB x v->EB xs us->r x xs H Q ->
  wpAny (model X.prog X.w) X.A (call (.builtin id) (v::us)) (EP X Q0 σ Q) X.xe s
variable {a b:Expr}{ta tb:TE}
def Bb(hr:IxR X r)(ha:PE X a ta)(hb:PE X b tb)(hs:bh b):PE X (.Subscript a b pos) (tOp r ta tb):=by intro Q0 s σ H Q I h;exact Subscript_ (binT ha hb I h fun v u s2 x y H2 I2 rx ry q=>hr a b Q0 s2 σ H2 x y v u Q I2 rx ry q (hs _ _))
def rIxL (K:W.Frag):R2:=fun x y H Q=>∃p xs i v,x=.ref p/\y=.int i/\SqL K H p xs/\atI xs i=some v/\Q v H
def rIxT (K:W.Frag):R2:=fun x y H Q=>∃p xs i v,x=.ref p/\y=.int i/\SqT K H p xs/\atI xs i=some v/\Q v H
def rIxS:R2:=fun x y H Q=>∃z i c,x=.str z/\y=.int i/\z.length<=sizeLine/\atI z.cps.toList i=some c/\Q (.str ⟨#[c]⟩) H
def Rp:IxR X (rIxL X.K):=by
 intro value slice Q0 s σ H x y v u Q I rx ry h hs;obtain⟨p,xs,i,z,rfl,rfl,hq,he,q⟩:=h;cases rx;obtain⟨t,rfl⟩:=ry;obtain⟨Z0,r,pl,hz⟩:=I.list hq;obtain⟨j,h1,h2,h3,h4,h5⟩:=Dk he;obtain⟨w,ew,rw'⟩:=r.get h2;have hl:=r.length;have hn:=mf;have fin:EP X Q0 σ Q w s:=(fun _=>⟨z,H,I,rw',q⟩);by_cases h0:0<=i
 ·have hj:i.toNat=j:=by
   rw[seqIndex_of h0 h5]at h1;exact Option.some.inj h1
  exact item_listR pl.isList h0 (by lia) (by rw[hj];simpa using ew) fin hs
 have hj:(i+(Z0.toArray.size:Int)).toNat=j:=by
  rw[seqIndex_neg (by lia) h4]at h1;rw[size_toArray,<-hl];exact Option.some.inj h1
 exact subscriptTail_builtinR (x:=w) pl.isList.typeIs slot_list_getitem.lookup
  (wpAny_getItem_list_neg (Q:=fun r s'=>r=w/\EP X Q0 σ Q r s') pl.isList (by lia) (by rw[size_toArray]<;>lia) (by lia) (by rw[hj];simpa using ew) ⟨rfl,fin⟩) hs
def ix_tup:IxR X (rIxT X.K):=by
 intro value slice Q0 s σ H x y v u Q I rx ry h hs;obtain⟨p,xs,i,z,rfl,rfl,hq,he,q⟩:=h;cases rx;obtain⟨t,rfl⟩:=ry;obtain⟨Z0,r,pl,hz⟩:=I.tuple hq;obtain⟨j,h1,h2,h3,h4,h5⟩:=Dk he;obtain⟨w,ew,rw'⟩:=r.get h2;have hl:=r.length;have hn:=mf;have fin:EP X Q0 σ Q w s:=(fun _=>⟨z,H,I,rw',q⟩);exact subscriptTail_builtinR (x:=w) pl.typeIs slot_tuple_getitem.lookup
  (getItem_tuple (j:=j) (Q:=fun r s'=>r=w/\EP X Q0 σ Q r s') pl (by lia) (by lia) (by rw[size_toArray,<-hl];exact h1) (by simpa using ew) ⟨rfl,fin⟩) hs
def Tp:IxR X rIxS:=by
 intro value slice Q0 s σ H x y v u Q I rx ry h hs;obtain⟨z,i,c,rfl,rfl,hz,he,q⟩:=h;obtain⟨t,rfl⟩:=rx;obtain⟨t',rfl⟩:=ry;obtain⟨j,h1,h2,h3,h4,h5⟩:=Dk he;have hl:z.cps.toList.length=z.length:=by simp[Str.length]
 rw[hl]at h1 h4 h5;have hn:=mf;exact tail_any (typeIs_str s z t) slot_str_getitem.lookup (getItem_str (c:=c) (by
  have e1:decide (i < -(2 ^ 63:Int))=false:=decide_eq_false (by lia);have e2:decide (i ≥ 2 ^ 63)=false:=decide_eq_false (by lia);rw[e1,e2,Bool.or_false]) (by rw[h1];simpa using h2) (fun _=>⟨.str ⟨#[c]⟩,H,I.tok _,⟨_,rfl⟩,q⟩)) hs
def qw (Z0:List Value)(n j:Nat)(u:Value):Obj.mapSeq (·.setIfInBounds j u) { cls:=.type "list",data:=.seq Z0.toArray n } = { cls:=.type "list",data:=.seq (Z0.set j u).toArray n }:=by simp[Obj.mapSeq]
def Inv.lst(I:Inv X Q0 σ H s)(h:H p=some (.lst xs)) :
  ∃(Z0:List Value)(n:Nat),EB xs Z0/\s.heap.get? p=some { cls:=.type "list",data:=.seq Z0.toArray n }/\xs.length<=sizeLine:=by
 obtain⟨z,Z0,n,r,e⟩:=I.hok p _ h;exact⟨Z0,n,r,e,z⟩
def Inv.lstUpd{Z0 its':List Value}(I:Inv X Q0 σ H s)(h:H p=some (.lst xs))
  (ho:s.heap.get? p=some { cls:=.type "list",data:=.seq Z0.toArray n })(hf:f { cls:=.type "list",data:=.seq Z0.toArray n } = { cls:=.type "list",data:=.seq its'.toArray n' })(r:EB ys its')(hz:ys.length<=sizeLine)(t:Nat)(hk:tk0<=t:=by walk_at "p") :
  Inv X Q0 σ (upd H p (.lst ys)) { s with heap:=s.heap.update p f,toks:=t }:=by
 have e:(s.heap.update p f).get? p=some { cls:=.type "list",data:=.seq its'.toArray n' }:=by
  rw[get?_update_self f ho (by rw[hf]<;>rfl),hf]
 refine I.write (x:=p) (e:=p) (by rw[h];trivial) (.inl rfl) (fun b u hb q=>(get?_update_other _ _ (Ne.symm hb)).trans q) ⟨_,e⟩ ?_;exact⟨hz,its',n',r,e⟩
def rSetL:V->V->V->Hp->(Hp->Prop)->Prop:=fun o i v H Q=>∃p xs k j,o=.ref p/\i=.int k/\H p=some (.lst xs)/\ixN xs.length k=some j/\Q (upd H p (.lst (xs.set j v)))
def sw:PSet X rSetL:=by
 intro Q0 s σ H o i v ov iv u Q I ro ri rv h;obtain⟨p,xs,k,j,rfl,rfl,hp,hj,q⟩:=h;cases ro;obtain⟨t,rfl⟩:=ri;obtain⟨Z0,n,r,ho,hz⟩:=I.lst hp;obtain⟨h1,h2,h3,h4⟩:=Pp hj;have hl:=r.length;have hn:=mf;have I':Inv X Q0 σ (upd H p (.lst (xs.set j v))) { s with heap:=s.heap.update p (Obj.mapSeq (·.setIfInBounds j u)) } :=
  I.lstUpd hp ho (qw Z0 n j u) (r.set rv j) (by rw[List.length_set];exact hz) s.toks
 by_cases h0:0<=k
 ·have hk:k.toNat=j:=by
   rw[seqIndex_of h0 h4]at h1;exact Option.some.inj h1
  exact W.ki_setAt ho h0 (by lia) (by rw[size_toArray,<-hl];exact h4) (by rw[hk];exact(fun _=>⟨_,I',q⟩))
 have hk:(k+(Z0.toArray.size:Int)).toNat=j:=by
  rw[seqIndex_neg (by lia) h3]at h1;rw[size_toArray,<-hl];exact Option.some.inj h1
 exact W.ki_setBack ho (by lia) (by rw[size_toArray,<-hl];exact h3) (by lia) (by rw[hk];exact(fun _=>⟨_,I',q⟩))
def slb1 (i:Int)(n:Nat)(h:i<0):max 0 (min (i + ↑n) ↑n) = ↑(i + ↑n).toNat:=by rw[Int.min_eq_left (Int.le_trans (Int.add_le_add_right (Int.le_of_lt h) _) (Int.le_of_eq (Int.zero_add _))),Int.ofNat_toNat,Int.max_comm]
def slb2 (i:Int)(n:Nat)(h:¬i<0):max 0 (min i ↑n) = ↑(min i.toNat n):=by obtain⟨k,rfl⟩:=Int.eq_ofNat_of_zero_le (Int.not_lt.mp h);rw[toNat_natCast];rcases Nat.le_total k n with h|h;rw[min_eq_left h,Int.min_eq_left (Int.ofNat_le.mpr h)];exact Int.max_eq_right (Int.natCast_nonneg _);rw[Nat.min_eq_right h,Int.min_eq_right (Int.ofNat_le.mpr h)];exact Int.max_eq_right (Int.natCast_nonneg _)
end
section
variable {X:Cx}{a b:Expr}{ta tb:TE}{pos:Pos}
def uw (lo hi:Option Int)(n:Nat):(sliceBounds lo hi none n).1=((HT.sIx n 0 lo:Nat):Int)/\(sliceBounds lo hi none n).2.1=((HT.sIx n n hi:Nat):Int)/\(sliceBounds lo hi none n).2.2=1:=by
 refine⟨?_,?_,rfl⟩
 ·cases lo with
  |none=>simp[sliceBounds,HT.sIx]
  |some i =>
   simp only[sliceBounds,HT.sIx,getD_none,show(1:Int) > 0 by decide,if_true];by_cases h:i<0;simp only[h,if_true];exact slb1 _ _ h;simp only[h,if_false];exact slb2 _ _ h
 cases hi with
 |none=>simp[sliceBounds,HT.sIx]
 |some i =>
  simp only[sliceBounds,HT.sIx,getD_none,show(1:Int) > 0 by decide,if_true];by_cases h:i<0;simp only[h,if_true];exact slb1 _ _ h;simp only[h,if_false];exact slb2 _ _ h
def y7 (Z0:List Value)(lo hi:Option Int):slicePick Z0.toArray lo hi none=((Z0.drop (HT.sIx Z0.length 0 lo)).take (HT.sIx Z0.length Z0.length hi - HT.sIx Z0.length 0 lo)).toArray:=by obtain⟨h1,h2,h3⟩:=uw lo hi Z0.toArray.size;unfold slicePick;rw[h1,h2,h3];simp only[sliceRange_one,pick_run,size_toArray]<;>rfl
def rSlL (K:W.Frag):V->Option Int->Option Int->Hp->VK->Prop:=fun x lo hi H Q=>∃a xs,x=.ref a/\SqL K H a xs/\∀p,H p=none->Q (.ref p) (upd H p (.lst (oG xs lo hi)))
def Vp:SlR X (rSlL X.K):=by intro Q0 s σ H x v vl vu lo hi sl Q I rx hs pl pu h;obtain⟨a,xs,rfl,hx,q⟩:=h;cases rx;obtain⟨Z0,r,ht,hz⟩:=I.list hx;have hlen:=r.length;refine⟨"list",_,slot_list_getitem.lookup,ht.isList.typeIs,?_⟩;refine wpAny_getItem_list_slice ht.isList hs pl pu .none (by simp) ?_ (by rw[size_toArray]<;>lia);rw[y7,<-hlen];refine(fun _=>⟨.ref s.heap.objs.size,_,I.laid (t':=s.toks) (o:=.lst (oG xs lo hi)) (fun b ob q=>get?_push_of_some _ q) (le_refl _) ?_,rfl,q _ (I.hok.fresh (le_refl _))⟩);exact⟨le_trans (ow xs lo hi) hz,_,0,(r.drop (HT.sIx xs.length 0 lo)).take (HT.sIx xs.length xs.length hi - HT.sIx xs.length 0 lo),get?_push_size _ rfl⟩
noncomputable def Lb:V->Bool
 |.non=>true
 |.bl _=>true
 |.int _=>true
 |.str _=>true
 |_=>false
noncomputable def eqV:V->V->Bool
 |.non,.non=>true
 |.bl a,.bl b=>a == b
 |.bl a,.int b=>(if a then 1 else 0) == b
 |.int a,.bl b=>a == (if b then 1 else 0)
 |.int a,.int b=>a == b
 |.str a,.str b=>a == b
 |_,_=>false
def Wp(ry:GB y u)(rx:GB x v)(fy:Lb y=true)(fx:Lb x=true):SeqAt.EqAt A s u v (eqV y x):=by
 cases y with
 |non =>
  cases ry;cases x with
  |non=>cases rx;exact SeqAt.EqAt.same _
  |bl b=>cases rx;exact SeqAt.EqAt.none_bool b
  |int b=>obtain⟨t,rfl⟩:=rx;exact SeqAt.EqAt.none_int b t
  |str b=>obtain⟨t,rfl⟩:=rx;exact SeqAt.EqAt.none_str b t
  |_=>exact absurd (show false=true from fx) Bool.false_ne_true
 |bl a =>
  cases ry;cases x with
  |non=>cases rx;exact SeqAt.EqAt.bool_none a
  |bl b=>cases rx;exact SeqAt.EqAt.bool_bool a b
  |int b=>obtain⟨t,rfl⟩:=rx;exact SeqAt.EqAt.bool_int a b t
  |str b=>obtain⟨t,rfl⟩:=rx;exact SeqAt.EqAt.bool_str a b t
  |_=>exact absurd (show false=true from fx) Bool.false_ne_true
 |int a =>
  obtain⟨t',rfl⟩:=ry;cases x with
  |non=>cases rx;exact SeqAt.EqAt.int_none a t'
  |bl b=>cases rx;exact SeqAt.EqAt.int_bool a t' b
  |int b=>obtain⟨t,rfl⟩:=rx;exact SeqAt.EqAt.int_int a t' b t
  |str b=>obtain⟨t,rfl⟩:=rx;exact SeqAt.EqAt.int_str a t' b t
  |_=>exact absurd (show false=true from fx) Bool.false_ne_true
 |str a =>
  obtain⟨t',rfl⟩:=ry;cases x with
  |non=>cases rx;exact SeqAt.EqAt.str_none a t'
  |bl b=>cases rx;exact SeqAt.EqAt.str_bool a t' b
  |int b=>obtain⟨t,rfl⟩:=rx;exact SeqAt.EqAt.str_int a t' b t
  |str b=>obtain⟨t,rfl⟩:=rx;exact SeqAt.EqAt.str_str a t' b t
  |_=>exact absurd (show false=true from fx) Bool.false_ne_true
 |_=>exact absurd (show false=true from fy) Bool.false_ne_true
noncomputable def eqU (x:V) (u:Value):Bool:=match u with
 |.none=>eqV .non x
 |.bool b=>eqV (.bl b) x
 |.int i _=>eqV (.int i) x
 |.str z _=>eqV (.str z) x
 |_=>false
def Xp(r:GB y u)(f:Lb y=true):eqU x u=eqV y x:=by
 cases y with
 |non=>cases r;rfl
 |bl b=>cases r;rfl
 |int i=>obtain⟨t,rfl⟩:=r;rfl
 |str z=>obtain⟨t,rfl⟩:=r;rfl
 |_=>exact absurd (show false=true from f) Bool.false_ne_true
def Ai:∀{xs:List V}{us:List Value},EB xs us->xs.all Lb=true->us.any (eqU x)=xs.any fun y=>eqV y x:=by
 intro xs us h;induction h with
 |nil=>intro _;rfl
 |cons r t ih =>
  intro f;have f':=(and_eq_true _ _).mp f;rw[any_cons,any_cons,Xp r f'.1,ih f'.2]
theorem dh(rx:GB x v)(fx:Lb x=true):∀{xs:List V}{us:List Value},EB xs us->xs.all Lb=true->∀u∈us,SeqAt.EqAt A s u v (eqU x u)
 |_,_,.nil,_=>fun u hu=>by cases hu
 |y::xs,u::us,.cons r t,f=>fun u' hu=>by
  rw[all_cons,and_eq_true]at f;rcases mem_cons.mp hu with rfl|hu;rw[Xp r f.1];exact Wp r rx f.1 fx;exact dh rx fx t f.2 u' hu
noncomputable def inV (x:V) (xs:List V):Bool:=xs.any fun y=>eqV y x
def rIn (K:W.Frag)(neg:Bool):R2:=fun x y H Q=>∃p xs,y=.ref p/\(SqL K H p xs\/SqT K H p xs)/\Lb x=true/\xs.all Lb=true/\Q (.bl (if neg then !inV x xs else inV x xs)) H
def Yp:OpR X (compareOp .In) (rIn X.K false):=by intro Q0 s σ H x y v u Q I rx ry h;obtain⟨p,xs,rfl,hq,fx,fs,q⟩:=h;cases ry;rcases hq with hq|hq;obtain⟨Z0,r,pl,hz⟩:=I.list hq;refine SeqAt.in_listAt (eqU x) pl.isList (fun w hw=>dh rx fx r fs w (by simpa using hw)) (fun _=>⟨.bl _,H,I,rfl,?_⟩);rw[show Z0.toArray.any (eqU x)=Z0.any (eqU x) by simp,Ai r fs];exact q;obtain⟨Z0,r,pl,hz⟩:=I.tuple hq;refine SeqAt.in_tupleAt (eqU x) pl (fun w hw=>dh rx fx r fs w (by simpa using hw)) (fun _=>⟨.bl _,H,I,rfl,?_⟩);rw[show Z0.toArray.any (eqU x)=Z0.any (eqU x) by simp,Ai r fs];exact q
def vw:OpR X (compareOp .NotIn) (rIn X.K true):=by intro Q0 s σ H x y v u Q I rx ry h;obtain⟨p,xs,rfl,hq,fx,fs,q⟩:=h;cases ry;rcases hq with hq|hq;obtain⟨Z0,r,pl,hz⟩:=I.list hq;refine SeqAt.notIn_listAt (eqU x) pl.isList (fun w hw=>dh rx fx r fs w (by simpa using hw)) (fun _=>⟨.bl _,H,I,rfl,?_⟩);rw[show Z0.toArray.any (eqU x)=Z0.any (eqU x) by simp,Ai r fs];exact q;obtain⟨Z0,r,pl,hz⟩:=I.tuple hq;refine SeqAt.notIn_tupleAt (eqU x) pl (fun w hw=>dh rx fx r fs w (by simpa using hw)) (fun _=>⟨.bl _,H,I,rfl,?_⟩);rw[show Z0.toArray.any (eqU x)=Z0.any (eqU x) by simp,Ai r fs];exact q
def Zp:yc X (.builtin "len") (fun xs H Q=>∃p ys,xs=[.ref p]/\(SqL X.K H p ys\/SqT X.K H p ys)/\Q (.int ys.length) H):=by intro Q0 s σ H xs us Q I r h;obtain⟨p,ys,rfl,hq,q⟩:=h;obtain⟨u,rfl,rx⟩:=Jc r;cases rx;have hn:=mf;rcases hq with hq|hq;obtain⟨Z0,r',pl,hz⟩:=I.list hq;have hlen:=r'.length;exact Calls.call_len_list pl.isList (by simp only[size_toArray]<;>lia) (fun _=>⟨.int ys.length,H,I.tok _,⟨s.toks+1,by rw[size_toArray,hlen]⟩,q⟩);obtain⟨Z0,r',pl,hz⟩:=I.tuple hq;have hlen:=r'.length;exact len_tuple pl (by simp only[size_toArray]<;>lia) (fun _=>⟨.int ys.length,H,I.tok _,⟨s.toks+1,by rw[size_toArray,hlen]⟩,q⟩)
def ww:yc X (.builtin "len") (fun xs H Q=>∃z,xs=[.str z]/\z.length<=sizeLine/\Q (.int z.length) H):=by intro Q0 s σ H xs us Q I r h;obtain⟨z,rfl,hz,q⟩:=h;obtain⟨u,rfl,t,rfl⟩:=Jc r;have hn:=mf;exact len_str (by lia) (fun _=>⟨.int z.length,H,I.tok _,⟨_,rfl⟩,q⟩)
def yw:yc X (.type "list") (fun xs H Q=>∃p ys,xs=[.ref p]/\(SqL X.K H p ys\/SqT X.K H p ys)/\∀l,H l=none->Q (.ref l) (upd H l (.lst ys))):=by
 intro Q0 s σ H xs us Q I r h;obtain⟨p,ys,rfl,hq,q⟩:=h;obtain⟨u,rfl,rx⟩:=Jc r;cases rx;have fin:∀(Z0:List Value),EB ys Z0->ys.length<=sizeLine->∀(h':Heap)(c':Nat),(∀b o',s.heap.get? b=some o'->h'.get? b=some o') ->
   h'.get? s.heap.objs.size=some { cls:=.type "list",dict:=none,data:=.seq Z0.toArray c',slots:=#[] }->EP X Q0 σ Q (.ref s.heap.objs.size) { s with heap:=h' }:=fun Z0 r' hz h' c' kp e =>
  (fun _=>⟨.ref s.heap.objs.size,_,I.laid (t':=s.toks) kp (le_refl _) (show HB X.prog X.w _ h' _ (.lst ys) from⟨hz,Z0,c',r',e⟩),rfl,q _ (I.hok.fresh (le_refl _))⟩)
 rcases hq with hq|hq;obtain⟨Z0,r',pl,hz⟩:=I.list hq;have hlen:=r'.length;obtain⟨o,ho,hc,n,hd⟩:=pl.isList;exact call_list_seq p (.inl rfl) ho hc hd (fun h' c' kp e=>fin Z0 r' hz h' c' kp e) (by simp only[size_toArray]<;>lia);obtain⟨Z0,r',pl,hz⟩:=I.tuple hq;have hlen:=r'.length;obtain⟨o,ho,hc,n,hd⟩:=pl;exact call_list_seq p (.inr rfl) ho hc hd (fun h' c' kp e=>fin Z0 r' hz h' c' kp e) (by simp only[size_toArray]<;>lia)
def tyV (K:W.Frag)(T:String)(x:V)(H:Hp):Prop:=match x with
 |.str _=>T = "str"
 |.int _=>T = "int"
 |.ref p=>(T = "list"/\∃xs,SqL K H p xs)\/(T = "tuple"/\∃o,K.lookup p=some o/\o.cls=.type "tuple"/\o.dict=none) \/
   (T = "dict"/\((∃Y0,H p=some (.dK Y0)) \/ ∃Y0,H p=some (.dT Y0)))\/(T = "set"/\∃S n,H p=some (.set S n))
 |_=>False
def Ek(I:Inv X Q0 σ H s)(r:GB x v)(ty:tyV X.K T x H) :
  s.TypeIs v T/\∀a,v=.ref a->∃ob,s.heap.get? a=some ob/\ob.dict=none:=by
 cases x with
 |str z =>
  obtain⟨t,rfl⟩:=r;cases(show T = "str" from ty);exact⟨typeIs_str s z t,fun _ e=>nomatch e⟩
 |int i =>
  obtain⟨t,rfl⟩:=r;cases(show T = "int" from ty);exact⟨typeIs_int s i t,fun _ e=>nomatch e⟩
 |ref p =>
  cases r;rcases ty with ⟨rfl,xs,hq⟩|⟨rfl,o,hk,hc,hd⟩|⟨rfl,hk⟩|⟨rfl,S,n,hk⟩;obtain⟨Z0,_,pl,_⟩:=I.list hq;refine⟨pl.isList.typeIs,fun a e=>?_⟩;cases e;obtain⟨o,n,e,c,hd,_⟩:=pl;exact⟨o,e,hd⟩;refine⟨⟨o,I.kIn p o hk,hc⟩,fun a e=>?_⟩;cases e;exact⟨o,I.kIn _ o hk,hd⟩
  ·have z:∃o,s.heap.get? p=some o/\o.ExactDict:=by
    rcases hk with ⟨Y0,hk⟩|⟨Y0,hk⟩;obtain⟨_,_,_,_,o,_,_,e,ex,_⟩:=I.hok p _ hk;exact⟨o,e,ex⟩;obtain⟨_,_,_,_,o,_,_,e,ex,_⟩:=I.hok p _ hk;exact⟨o,e,ex⟩
   obtain⟨o,e,ex⟩:=z;refine⟨⟨o,e,ex.1⟩,fun a e2=>?_⟩;cases e2;exact⟨o,e,ex.2.1⟩
  obtain⟨o,_,_,_,e,ex,_⟩:=I.hok p _ hk;refine⟨⟨o,e,ex.1⟩,fun a e2=>?_⟩;cases e2;exact⟨o,e,ex.2.1⟩
 |_=>exact False.elim ty
def tBM (K:W.Frag)(T:String)(r:V->List V->Hp->VK->Prop)(to:TE)(t:TA):TE:=fun σ H Q=>to σ H fun x H1=>tyV K T x H1/\t σ H1 fun xs H2=>r x xs H2 Q
variable {o e:Expr}{es:List Expr}{to:TE}{t:TA}{name:Str}{apos cpos:Pos}{T id:String}{r:V->List V->Hp->VK->Prop}
def pe_bm (pa:PlainAttrs T)(slot:Slot T name id)(hty:typeOf (.builtin id)=pure (.type "method_descriptor"))(hm:MtR X id r)(ho:PE X o to)(ha:PA X (e::es) t)
  (B0:attributeBase o name X.env (eval o X.env)=eval o X.env:=by rfl)
  (D0:((backTo cpos (starEach (e::es) X.env)).all (fun x=>!x.1)&&(backToKw cpos (keywordEach [] X.env)).all (fun x=>x.1.isSome)
  &&decide ((e::es).length+([]:List Keyword).length+(if ([]:List Keyword).isEmpty then 0 else 1)<30))=true:=by rfl)
  (A0:(apos.endLine == cpos.line)=true:=by rfl)(hs:starEach (e::es) X.env=(false,eval e X.env)::starEach es X.env:=by rfl)(C0:(backTo cpos (starEach es X.env)).any (·.1)=false:=by rfl) :
  PE X (.Call (.Attribute o name apos) (e::es) [] cpos) (tBM X.K T r to t):=by
 intro Q0 s σ H Q I h;refine wpAny_Call_method_late B0 D0 A0 rfl (thn (ho Q0 s σ H _ I h) fun v s1 zq=>?_);obtain⟨x,H1,I1,r1,ty,q1⟩:=zq;obtain⟨h1,h2⟩:=Ek I1 r1 ty;refine⟨T,id,pa,slot,hty,h1,h2,?_⟩;have hA:=ha cpos Q0 s1 σ H1 _ I1 q1;rw[hs]at hA ⊢;refine Calls.callWith_builtin (by show(false||(backTo cpos (starEach es X.env)).any (·.1))=false;rw[C0]<;>rfl) (Calls.evalArgs_plain ?_);exact thn hA fun us s2 ⟨vs,H2,I2,r2,q2⟩=>hm Q0 s2 σ H2 x vs v us Q I2 r1 r2 q2
end
section
def MtM (X:Cx)(id:String)(r:V->List V->Hp->VK->Prop):Prop :=
 ∀(Q0:List (Addr×Obj))(s:Shared)(σ:St)(H:Hp)(x:V)(xs:List V)(v:Value)(us:List Value)(Q:VK),Inv X Q0 σ H s->GB x v->EB xs us->r x xs H Q ->
  wpAny (model X.prog X.w) X.A (call (.builtin id) (v::us)) (EP X Q0 σ Q) X.xe s
def EB.one(h:EB [x] us):∃u,us=[u]/\GB x u:=by
 cases h with
 |cons r t=>cases t;exact⟨_,rfl,r⟩
theorem EB.zero:∀{us:List Value},EB [] us->us=[]
 |_,.nil=>rfl
def EB.dropLast(h:EB xs us):EB xs.dropLast us.dropLast:=by
 induction h with
 |nil=>exact .nil
 |cons r t ih =>
  cases t with
  |nil=>exact .nil
  |cons q t'=>exact .cons r ih
def EB.reverse(h:EB xs us):EB xs.reverse us.reverse:=by
 induction h with
 |nil=>exact .nil
 |cons r t ih=>rw[reverse_cons,reverse_cons];exact EB.append ih (.cons r .nil)
def zw(l:List α):l.eraseIdx (l.length - 1)=l.dropLast:=by
 induction l with
 |nil=>rfl
 |cons a r ih =>
  cases r with
  |nil=>rfl
  |cons b r =>
   have e:(a::b::r).length - 1=((b::r).length - 1)+1:=by
    have h1:(a::b::r).length=r.length+2:=rfl;have h2:(b::r).length=r.length+1:=rfl
    lia
   rw[e,List.eraseIdx_cons_succ,ih]
   all_goals rfl
variable {X:Cx}{Q0:List (Addr×Obj)}{σ:St}{H:Hp}{s:Shared}{l b:Addr}{xs ys zs:List V}
def Inv.lset {Z0 its':List Value}(I:Inv X Q0 σ H s)(hH:H l=some (.lst xs))
  (e:s.heap.get? l=some { cls:=.type "list",data:=.seq Z0.toArray n })(hf:f Z0.toArray=its'.toArray)(hv:EB ys its')(hz:ys.length<=sizeLine)(hk:tk0<=t':=by walk_at "p") :
  Inv X Q0 σ (upd H l (.lst ys)) { s with heap:=s.heap.update l (Obj.mapSeq f),toks:=t' }:=by
 have q:=PySem.IsL.update e f;rw[hf]at q;refine I.write (x:=l) (e:=l) (by rw[hH];exact trivial) (.inl rfl) (fun b' u hb hu=>(get?_update_other s.heap (Obj.mapSeq f) (Ne.symm hb)).trans hu) ⟨_,q⟩ ?_;exact⟨hz,its',_,hv,q⟩
def Inv.lnew(I:Inv X Q0 σ H s)(hv:EB ys Z0)(hz:ys.length<=sizeLine)(hk:tk0<=t':=by walk_at "p") :
  Inv X Q0 σ (upd H s.heap.objs.size (.lst ys)) { s with heap:=s.heap.push { cls:=.type "list",data:=.seq Z0.toArray },toks:=t' } :=
 I.laid (fun _ _ q=>get?_push_of_some _ q) (le_refl _) ⟨hz,Z0,0,hv,get?_push_size _ rfl⟩
def Inv.fresh (I:Inv X Q0 σ H s):H s.heap.objs.size=none:=I.hok.fresh (le_refl _)
def Inv.lstM (I:Inv X Q0 σ H s)(hH:H l=some (.lst xs)):xs.length<=sizeLine/\∃(Z0:List Value)(n:Nat),EB xs Z0/\xs.length=Z0.length/\s.heap.get? l=some { cls:=.type "list",data:=.seq Z0.toArray n }:=by obtain⟨z,Z0,n,r,e⟩:=I.hok l _ hH;exact⟨z,Z0,n,r,r.length,e⟩
def Aw(h:n<=sizeLine):Builtin.List.listTooLong n=false:=by unfold Builtin.List.listTooLong;exact decide_eq_false (by lia)
def z5s:V->List V->Hp->VK->Prop:=fun x vs H Q=>∃l xs y,x=.ref l/\vs=[y]/\H l=some (.lst xs)/\xs.length<sizeLine/\Q .non (upd H l (.lst (xs++[y])))
def qf:MtM X "list.append" z5s:=by
 intro Q0 s σ H x vs v us Q I rx rv h;obtain⟨l,xs,y,rfl,rfl,hH,hz,q⟩:=h;cases rx;obtain⟨u,rfl,ru⟩:=rv.one;obtain⟨z,Z0,n,r,hl,e⟩:=I.lstM hH;refine call_meets F.slot_list_append ⟨_,e,rfl⟩ F.entry_list_append (F.args_list_append_2 _ _) (PySem.list_append l Z0.toArray n u (by rw[size_toArray];lia)) ⟨e,?_⟩;refine(fun _=>⟨.non,_,I.lset (its':=Z0++[u]) hH e (by simp) (r.append (.cons ru .nil)) ?_,rfl,q⟩);rw[length_append,List.length_singleton]
 lia
def z7h:V->List V->Hp->VK->Prop:=fun x vs H Q=>∃l b xs zs,x=.ref l/\vs=[.ref b]/\H l=some (.lst xs)/\H b=some (.lst zs)/\xs.length+zs.length<=sizeLine/\Q .non (upd H l (.lst (xs++zs)))
def eh:MtM X "list.extend" z7h:=by
 intro Q0 s σ H x vs v us Q I rx rv h;obtain⟨l,b,xs,zs,rfl,rfl,hH,hB,hz,q⟩:=h;cases rx;obtain⟨u,rfl,ru⟩:=rv.one;cases ru;obtain⟨z,Z0,n,r,hl,e⟩:=I.lstM hH;obtain⟨z2,its2,n2,r2,hl2,e2⟩:=I.lstM hB;have hsz:Z0.toArray.size+its2.toArray.size<=sizeLine:=by rw[size_toArray,size_toArray];lia
 have hlong:¬(!Z0.toArray.isEmpty&&Builtin.List.listTooLong (Z0.toArray.size+its2.toArray.size))=true:=by
  rw[Aw hsz,Bool.and_false];exact Bool.false_ne_true
 refine call_meets F.slot_list_extend ⟨_,e,rfl⟩ F.entry_list_extend (F.args_list_extend_2 _ _)
  (AutoSeq1.list_extend_list_list_0 l Z0.toArray n b its2.toArray n2 hlong (by rw[size_toArray];lia) (by lia)) ⟨e,e2,?_⟩
 refine(fun _=>⟨.non,_,I.lset (its':=Z0++its2) hH e (by simp) (r.append r2) ?_,rfl,q⟩);rw[length_append]
 lia
def rPop:V->List V->Hp->VK->Prop:=fun x vs H Q=>∃l xs y,x=.ref l/\vs=[]/\H l=some (.lst xs)/\xs[xs.length - 1]? = some y/\Q y (upd H l (.lst xs.dropLast))
def Bi:MtM X "list.pop" rPop:=by
 intro Q0 s σ H x vs v us Q I rx rv h;obtain⟨l,xs,y,rfl,rfl,hH,hy,q⟩:=h;cases rx;have hus:=rv.zero;subst hus;obtain⟨z,Z0,n,r,hl,e⟩:=I.lstM hH;obtain⟨u,hu,ru⟩:=r.get hy;have hy':Z0.toArray[Z0.toArray.size - 1]? = some u:=by
  show Z0.toArray[Z0.length - 1]? = some u;rw[<-Array.getElem?_toList,<-hl];exact hu
 refine call_meets F.slot_list_pop ⟨_,e,rfl⟩ F.entry_list_pop (F.args_list_pop_1 _) (MeetsSeq.list_pop_last l Z0.toArray n u hy' (by rw[size_toArray];lia)) ⟨e,?_⟩;refine(fun _=>⟨y,_,I.lset (its':=Z0.dropLast) hH e ?_ r.dropLast ?_,ru,q⟩);show Z0.toArray.eraseIdxIfInBounds (Z0.toArray.size - 1)=Z0.dropLast.toArray;rw[size_toArray,List.eraseIdxIfInBounds_toArray,zw];rw[List.length_dropLast]
 lia
def rCat:R2:=fun x y H Q=>∃l b xs zs,x=.ref l/\y=.ref b/\H l=some (.lst xs)/\H b=some (.lst zs)/\xs.length+zs.length<=sizeLine/\∀p,H p=none->Q (.ref p) (upd H p (.lst (xs++zs)))
def ub:OpR X (binaryOp .Add) rCat:=by
 intro Q0 s σ H x y v u Q I rx ry h;obtain⟨l,b,xs,zs,rfl,rfl,hH,hB,hz,q⟩:=h;cases rx;cases ry;obtain⟨z,Z0,n,r,hl,e⟩:=I.lstM hH;obtain⟨z2,its2,n2,r2,hl2,e2⟩:=I.lstM hB;refine PySem.P.add_list e e2 ?_ (by rw[size_toArray,size_toArray];lia);have ea:Z0.toArray++its2.toArray=(Z0++its2).toArray:=by simp
 rw[ea];exact(fun _=>⟨.ref _,_,I.lnew (t':=s.toks) (r.append r2) (by rw[length_append];lia),rfl,q _ I.fresh⟩)
variable {κ:Type}[DecidableEq κ]
noncomputable def iB (Y0:List (κ×V)) (k:κ):Option V:=(Y0.find? fun kv=>decide (kv.1=k)).map (·.2)
noncomputable def rB (Y0:List (κ×V)) (k:κ) (v:V):List (κ×V) :=
 if (Y0.any fun kv=>decide (kv.1=k))=true then Y0.map (fun kv=>if kv.1=k then(kv.1,v) else kv) else Y0++[(k,v)]
def Sd {p:κ×V}{r:List (κ×V)}{k:κ}(e:p.1=k):iB (p::r) k=some p.2:=by simp[iB,find?_cons,e]
def Td {p:κ×V}{r:List (κ×V)}{k:κ}(e:¬p.1=k):iB (p::r) k=iB r k:=by simp[iB,find?_cons,e]
theorem Ci (k:κ):∀Y0:List (κ×V),(Y0.any fun kv=>decide (kv.1=k))=(iB Y0 k).isSome
 | []=>rfl
 |p::r=>by
  rw[any_cons];by_cases e:p.1=k;simp only[Sd e,decide_eq_true e,Bool.true_or,Option.isSome_some];rw[Td e,decide_eq_false e,Bool.false_or];exact Ci k r
theorem bq (k j:κ)(y:V):∀Y0:List (κ×V),iB (Y0.map fun kv=>if kv.1=k then(kv.1,y) else kv) j=(iB Y0 j).map fun x=>if j=k then y else x
 | []=>rfl
 |p::r=>by
  have ih:=bq k j y r;rw[map_cons];by_cases h:p.1=k
  ·rw[if_pos h];by_cases e:p.1=j;rw[Sd (p:=(p.1,y)) e,Sd e,map_some,if_pos (e.symm.trans h)];rw[Td (p:=(p.1,y)) e,Td e,ih]
  rw[if_neg h];by_cases e:p.1=j;rw[Sd (p:=p) e,Sd e,map_some,if_neg (fun z=>h (e.trans z))];rw[Td (p:=p) e,Td e,ih]
theorem cq (k j:κ)(y:V):∀Y0:List (κ×V),iB Y0 k=none->iB (Y0++[(k,y)]) j=if j=k then some y else iB Y0 j
 | [],_=>by
  by_cases e:k=j;rw[if_pos e.symm];exact Sd (p:=(k,y)) e;rw[if_neg (fun z=>e z.symm)];exact Td (p:=(k,y)) e
 |p::r,hn=>by
  rw[cons_append];have hk:¬p.1=k:=fun z=>by rw[Sd z]at hn;cases hn
  rw[Td hk]at hn;have ih:=cq k j y r hn;by_cases e:p.1=j;rw[Sd e,Sd e,if_neg (fun z=>hk (e.trans z))];rw[Td e,Td e,ih]
def fq (Y0:List (κ×V))(k j:κ)(y:V):iB (rB Y0 k y) j=if j=k then some y else iB Y0 j:=by
 unfold rB;by_cases a:(Y0.any fun kv=>decide (kv.1=k))=true
 ·rw[if_pos a,bq];rw[Ci]at a;by_cases e:j=k;obtain⟨x,hx⟩:=isSome_iff_exists.mp a;rw[if_pos e,e,hx,map_some,if_pos rfl];rw[if_neg e];cases iB Y0 j with
  |none=>rfl
  |some x=>rw[map_some,if_neg e]
 rw[if_neg a];refine cq k j y Y0 ?_;rw[Ci]at a;cases q:iB Y0 k with
 |none=>rfl
 |some x=>rw[q]at a;exact(a rfl).elim
def Fk (Y0:List (κ×V))(k:κ)(v:V):(rB Y0 k v).length<=Y0.length+1:=by unfold rB;split;rw[length_map];lia;rw[length_append,length_cons,length_nil];lia
def DC.isSome_eq(r:DC o u):o.isSome=u.isSome:=by
 cases o with
 |none=>cases u with
  |none=>rfl
  |some _=>exact(show False from r).elim
 |some _=>cases u with
  |none=>exact(show False from r).elim
  |some _=>rfl
def KV.val(r:KV Y0 vs)(k:κ):DC (iB Y0 k) (valueAt vs k):=by
 unfold KV at r;induction r with
 |nil=>exact True.intro
 | @cons p q ps qs h t ih =>
  obtain⟨h1,h2⟩:=h;by_cases e:p.1=k
  ·have e':q.1=k:=h1.symm.trans e;have b:valueAt (q::qs) k=some q.2:=by simp[valueAt,find?_cons,e']
   rw[Sd e,b];exact h2
  have e':¬q.1=k:=fun z=>e (h1.trans z);have b:valueAt (q::qs) k=valueAt qs k:=by simp[valueAt,find?_cons,e']
  rw[Td e,b];exact ih
def KV.any(r:KV Y0 vs)(k:κ):(Y0.any fun kv=>decide (kv.1=k))=vs.any fun kv=>decide (kv.1=k):=by
 unfold KV at r;induction r with
 |nil=>rfl
 |cons h t ih=>rw[any_cons,any_cons,ih,h.1]
def KV.repl(r:KV Y0 vs)(k:κ)(ry:GB y u) :
  KV (Y0.map fun kv=>if kv.1=k then(kv.1,y) else kv) (vs.map fun kv=>if kv.1=k then(kv.1,u) else kv):=by
 unfold KV at r ⊢;induction r with
 |nil=>exact .nil
 | @cons p q ps qs h t ih =>
  rw[map_cons,map_cons];refine .cons ?_ ih;obtain⟨h1,h2⟩:=h;by_cases e:p.1=k;rw[if_pos e,if_pos (h1.symm.trans e)];exact⟨h1,ry⟩;rw[if_neg e,if_neg (fun z=>e (h1.trans z))];exact⟨h1,h2⟩
def KV.put(r:KV Y0 vs)(k:κ)(ry:GB y u):KV (rB Y0 k y) (stored vs k u):=by unfold rB stored;rw[r.any k];by_cases e:(vs.any fun kv=>decide (kv.1=k))=true;rw[if_pos e,if_pos e];exact r.repl k ry;rw[if_neg e,if_neg e];exact Paired.snoc r ⟨rfl,ry⟩
def KV.length(r:KV Y0 vs):Y0.length=vs.length:=Paired.length r
def qg(r:GB (kV k) u):(Zb P w).is k u=true:=by
 cases k with
 |inl i=>obtain⟨t,e⟩:=(show ∃t,u=Value.int i t from r);subst e;exact Bv P w i t
 |inr x=>obtain⟨t,e⟩:=(show ∃t,u=Value.str x t from r);subst e;exact Cv P w x t
def kO_is(r:GB (kO k) u):(kf P w).is k u=true:=by
 cases k with
 |none=>cases(show u=Value.none from r);rfl
 |some k=>exact(qg r:(Zb P w).is k u=true)
theorem gq:∀{ks:List UB}{us:List Value},EB (ks.map kO) us->ItemsAre (kf P w) ks us
 | [],_,r=>by rw[map_nil]at r;cases r;exact .nil
 |k::ks,_,r=>by
  rw[map_cons]at r;cases r with
  |cons h t=>exact .cons (kO_is h) (gq t)
abbrev KT (H:Hp):List (List UB×V)->List (List UB×Addr×Value)->Prop:=Paired fun p q=>p.1=q.1/\H q.2.1=some (.tup (p.1.map kO))/\GB p.2 q.2.2
def KT.val{xs:List (List UB×Addr×Value)}(r:KT H Y0 xs)(k:List UB):DC (iB Y0 k) ((atKey xs k).map (·.2)):=by
 induction r with
 |nil=>exact True.intro
 | @cons p q ps qs h t ih =>
  obtain⟨h1,_,h2⟩:=h;by_cases e:p.1=k
  ·have e':q.1=k:=h1.symm.trans e;have b:atKey (q::qs) k=some q.2:=by simp[atKey,find?_cons,e']
   rw[Sd e,b];exact h2
  have e':¬q.1=k:=fun z=>e (h1.trans z);have b:atKey (q::qs) k=atKey qs k:=by simp[atKey,find?_cons,e']
  rw[Td e,b];exact ih
def KT.repl{xs:List (List UB×Addr×Value)}(r:KT H Y0 xs)(k:List UB)(ry:GB y u) :
  KT H (Y0.map fun kv=>if kv.1=k then(kv.1,y) else kv) (xs.map (putAt k u)):=by
 induction r with
 |nil=>exact .nil
 | @cons p q ps qs h t ih =>
  rw[map_cons,map_cons];refine .cons ?_ ih;obtain⟨h1,h2,h3⟩:=h;unfold putAt;by_cases e:p.1=k;rw[if_pos e,if_pos (h1.symm.trans e)];exact⟨h1,h2,ry⟩;rw[if_neg e,if_neg (fun z=>e (h1.trans z))];exact⟨h1,h2,h3⟩
def KT.put{xs:List (List UB×Addr×Value)}(r:KT H Y0 xs)(k:List UB)(hb:H b=some (.tup (k.map kO)))(ry:GB y u) :
  KT H (rB Y0 k y) (storedH xs k b u):=by
 have e:(Y0.any fun kv=>decide (kv.1=k))=(atKey xs k).isSome:=by
  rw[Ci,(r.val k).isSome_eq,isSome_map]
 unfold rB storedH;rw[e];by_cases q:(atKey xs k).isSome=true;rw[if_pos q,if_pos q];exact r.repl k ry;rw[if_neg q,if_neg q];exact Paired.snoc r ⟨rfl,hb,ry⟩
def KT.keeps{xs:List (List UB×Addr×Value)}(r:KT H Y0 xs)(ht:∀b ys,H b=some (.tup ys)->H' b=some (.tup ys)):KT H' Y0 xs :=
 Paired.mapP r fun _ _ z=>⟨z.1,ht _ _ z.2.1,z.2.2⟩
variable {P:Program}{w:World}{h:Heap}{a:Addr}
def iq(ok:HOk P w H h)(e:Rd H a u):HB P w H h a u:=e.ok ok
def fh(ok:HOk P w H h)(e:Rd H a (.dK Y0)):Y0.length<=sizeLine/\(a == sysModules)=false/\∃vs,KV Y0 vs/\h.DictOf (Zb P w) a vs :=
 show HB P w H h a (.dK Y0) from iq ok e
def dk_of(ok:HOk P w H h)(e:H a=some (.dK Y0)):Y0.length<=sizeLine/\(a == sysModules)=false/\∃vs,KV Y0 vs/\h.DictOf (Zb P w) a vs:=fh ok (.inl e)
def gh(ok:HOk P w H h)(e:H a=some (.tup (ks.map kO))):(tupleKind (kf P w)).is h ks a:=by obtain⟨_,Z0,r,o,h1,h2,n,h3⟩:=(show HB P w H h a (.tup (ks.map kO)) from ok a _ e);exact⟨o,Z0.toArray,n,h1,h2,h3,by simpa using gq r⟩
def jh(ok:HOk P w H h)(e:Rd H a (.dT Y0)):Y0.length<=sizeLine/\(a == sysModules)=false /\
  ∃xs,KT H Y0 xs/\h.DictOfH (tupleKind (kf P w)) a xs:=by
 obtain⟨z,y,xs,r,o,es,ep,h1,h2,h3,h4,h5⟩:=(show HB P w H h a (.dT Y0) from iq ok e);refine⟨z,y,xs,r,o,es,ep,h1,h2,h3,h4,fun x hx=>?_,h5⟩;have all:∀{l:List (List UB×V)}{m:List (List UB×Addr×Value)},KT H l m->∀x∈m,(tupleKind (kf P w)).is h x.1 x.2.1:=by
  intro l m q;induction q with
  |nil=>intro x hx;exact nomatch hx
  | @cons p q ps qs hq t ih =>
   intro x hx;rcases mem_cons.mp hx with e|hx;subst e;exact gh ok (by rw[<-hq.1];exact hq.2.1);exact ih x hx
 exact all r x hx
def dt_of(ok:HOk P w H h)(e:H a=some (.dT Y0)):Y0.length<=sizeLine/\(a == sysModules)=false /\
  ∃xs,KT H Y0 xs/\h.DictOfH (tupleKind (kf P w)) a xs:=jh ok (.inl e)
def NB (H:Hp)(a:Addr)(y:V)(r:Option V):Prop :=
 (∃Y0 k,Rd H a (.dK Y0)/\y=kV k/\r=iB Y0 k) \/ ∃Y0 k b,Rd H a (.dT Y0)/\y=.ref b/\H b=some (.tup (k.map kO))/\r=iB Y0 k
def HC (H:Hp)(a:Addr)(y v:V)(H':Hp):Prop :=
 (∃Y0 k,H a=some (.dK Y0)/\y=kV k/\Y0.length<sizeLine/\H' = upd H a (.dK (rB Y0 k v))) \/
 ∃Y0 k b,H a=some (.dT Y0)/\y=.ref b/\H b=some (.tup (k.map kO))/\Y0.length<sizeLine/\H' = upd H a (.dT (rB Y0 k v))
theorem NB.k{k:Key}(e:H a=some (.dK Y0)):NB H a (kV k) (iB Y0 k):=.inl ⟨Y0,k,.inl e,rfl,rfl⟩
theorem HC.k{k:Key}(e:H a=some (.dK Y0))(hl:Y0.length<sizeLine):HC H a (kV k) v (upd H a (.dK (rB Y0 k v))):=.inl ⟨Y0,k,e,rfl,hl,rfl⟩
variable {y v:V}{u r:Value}{o:Option V}{A:Around}{E:Value->Shared->Prop}
def Inv.big (I:Inv X Q0 σ H s):sysModules<s.heap.objs.size:=by have h:mainGlobals<s.heap.objs.size:=(I.mod.glob.keeps I.bk).lt;exact lt_trans (by decide) h
def Bw(hu:A.units+1<cLine)(I:Inv X Q0 σ H s)(g:NB H a y (some v))(ry:GB y u)(h:∀w' s',Inv X Q0 σ H s'->GB v w'->Q w' s') :
  wpAny (model X.prog X.w) A (getItem (.ref a) u) Q E s:=by
 rcases g with ⟨Y0,k,e,ey,l⟩|⟨Y0,k,b,e,ey,eb,l⟩;subst ey;obtain⟨z,hd,vs,rel,dd⟩:=fh I.hok e;obtain⟨w',hw,rw'⟩:=DC.some_of (v:=v) (o:=valueAt vs k) (by rw[l];exact rel.val k);exact wpAny_getItem_of (qg ry) dd.mapOf hw (h w' _ (I.tok _) rw');subst ey;cases(show u=Value.ref b from ry);obtain⟨z,hd,xs,rel,dd⟩:=jh I.hok e;obtain⟨w',hw,rw'⟩:=DC.some_of (v:=v) (o:=(atKey xs k).map (·.2)) (by rw[l];exact rel.val k);obtain⟨p,hp,hp2⟩:=map_eq_some_iff.mp hw;refine wpAny_getItem_heap (tupleKind_room_in1 hu) (gh I.hok eb) dd hp ?_;rw[hp2];exact h w' _ (I.tok _) rw'
def d_in(hu:A.units+1<cLine)(I:Inv X Q0 σ H s)(g:NB H a y o)(ry:GB y u)(h:∀s',Inv X Q0 σ H s'->Q (.bool o.isSome) s') :
  wpAny (model X.prog X.w) A (compareOp .In u (.ref a)) Q E s:=by
 rcases g with ⟨Y0,k,e,ey,l⟩|⟨Y0,k,b,e,ey,eb,l⟩;subst ey;obtain⟨z,hd,vs,rel,dd⟩:=fh I.hok e;refine wpAny_in_of (qg ry) hd dd.mapOf ?_;rw[<-(rel.val k).isSome_eq,<-l];exact h _ (I.tok _);subst ey;cases(show u=Value.ref b from ry);obtain⟨z,hd,xs,rel,dd⟩:=jh I.hok e;refine wpAny_in_heap (tupleKind_room_in1 hu) (gh I.hok eb) hd dd ?_;have q:=(rel.val k).isSome_eq;rw[isSome_map]at q;rw[<-q,<-l];exact h _ (I.tok _)
def Cw(hu:A.units+1<cLine)(I:Inv X Q0 σ H s)(g:NB H a y o)(ry:GB y u)(h:∀s',Inv X Q0 σ H s'->Q (.bool (!o.isSome)) s') :
  wpAny (model X.prog X.w) A (compareOp .NotIn u (.ref a)) Q E s:=by
 rcases g with ⟨Y0,k,e,ey,l⟩|⟨Y0,k,b,e,ey,eb,l⟩;subst ey;obtain⟨z,hd,vs,rel,dd⟩:=fh I.hok e;refine wpAny_notIn_of (qg ry) hd dd.mapOf ?_;rw[<-(rel.val k).isSome_eq,<-l];exact h _ (I.tok _);subst ey;cases(show u=Value.ref b from ry);obtain⟨z,hd,xs,rel,dd⟩:=jh I.hok e;refine wpAny_notIn_heap (tupleKind_room_in1 hu) (gh I.hok eb) hd dd ?_;have q:=(rel.val k).isSome_eq;rw[isSome_map]at q;rw[<-q,<-l];exact h _ (I.tok _)
def jq(I:Inv X Q0 σ H s)(mu:Mut (H a))(hs:Heap.SameBut a s.heap h')(he:∃q,h'.get? a=some q)(new:HB X.prog X.w (upd H a ob) h' a ob)(hk:tk0<=t':=by walk_at "p") :
  Inv X Q0 σ (upd H a ob) { s with heap:=h',toks:=t' } :=
 I.write (x:=a) (e:=a) mu (.inl rfl) (fun b q hb z=>(hs.2 b hb).trans z) he new
def lq(z:Y0.length<=sizeLine)(hd:(a == sysModules)=false)(rel:KV Y0 vs)(dd:h'.DictOf (Zb P w) a vs) :
  HB P w H' h' a (.dK Y0):=⟨z,hd,vs,rel,dd⟩
def Dw(hu:A.units+1<cLine)(I:Inv X Q0 σ H s)(g:HC H a y v H')(ry:GB y u)(rv:GB v r)(h:∀s',Inv X Q0 σ H' s'->Q () s') :
  wpAny (model X.prog X.w) A (setItem (.ref a) u r) Q E s:=by
 rcases g with ⟨Y0,k,e,ey,l,eH⟩|⟨Y0,k,b,e,ey,eb,l,eH⟩
 ·subst ey eH;obtain⟨z,hd,vs,rel,dd⟩:=dk_of I.hok e;have hz:vs.length<=sizeLine:=by rw[<-rel.length];exact z
  have hl:(rB Y0 k v).length<=sizeLine:=by have:=Fk Y0 k v;lia
  refine wpAny_setItem_pairs (hsz:=hz) (qg ry) dd fun h' dd' hs=>h _ ?_;have he:∃q,h'.get? a=some q:=let ⟨q,_,_,hq,_⟩:=dd';⟨q,hq⟩;exact jq I (by rw[e];exact True.intro) hs he (lq hl hd (rel.put k rv) dd')
 subst ey eH;cases(show u=Value.ref b from ry);obtain⟨z,hd,xs,rel,dd⟩:=dt_of I.hok e;have hz:xs.length<=sizeLine:=by rw[<-Paired.length rel];exact z
 have hl:(rB Y0 k v).length<=sizeLine:=by have:=Fk Y0 k v;lia
 refine wpAny_setItem_heap (hsz:=hz) (tupleKind_room_in1 hu) (gh I.hok eb) dd fun h' dd' hs=>h _ ?_;obtain⟨q,es,ep,hq,h2,h3,h4,_,h5⟩:=dd';refine jq I (by rw[e];exact True.intro) hs ⟨q,hq⟩ ⟨hl,hd,_,(rel.put k eb rv).keeps fun c ys ec=>?_,q,es,ep,hq,h2,h3,h4,h5⟩;rw[ya (Wd ec e (fun z=>nomatch z))];exact ec
def NoSl (i:Expr):Prop:=∀ov iv,subscripted i false ov iv=operate [ov,iv] (getItem ov iv)
def Ew{T id:String} 
  (hl:typeLookup (.type T) "__getitem__" = pure (some (.builtin id)))(hs:NoSl slice)
  (h:wpAny (model prog w) A (eval value env) (fun o s₁=>wpAny (model prog w) A (eval slice env) (fun i s₂=>s₂.TypeIs o T/\wpAny (model prog w) A (getItem o i) Q E s₂) E s₁) E s) :
  wpAny (model prog w) A (eval (.Subscript value slice pos) env) Q E s:=by
 refine Subscript_ (wpAny_mono h (fun o s₁ h₁=>wpAny_mono h₁ (fun i s₂ h₂=>?_) fun _ _ x=>x) fun _ _ x=>x);obtain⟨hT,h₂⟩:=h₂;unfold subscriptTail;refine wpAny_bind ?_;rw[getitemInPython_of_ne hT.not_modules];refine wpAny_bind (wpAny_specialOf hT hl ?_);have fin:wpAny (model prog w) A (subscripted slice false o i) (fun r s₃=>wpAny (model prog w) A (letTemporaryGo value o r >>= fun _=>pure r) Q E s₃) E s₂:=by
  rw[hs o i];exact wpAny_operating (wpAny_mono h₂ (fun r s₃ h₃=>wpAny_bind (wpAny_letTemporaryGo (wpAny_pure h₃))) fun _ _ x=>x)
 first
  |exact wpAny_pure (wpAny_bind fin)
  |exact wpAny_bind (wpAny_pure (wpAny_bind fin))
  |exact wpAny_bind fin
def Fw(I:Inv X Q0 σ H s)(g:NB H a y o):s.TypeIs (.ref a) "dict":=by rcases g with ⟨Y0,k,e,_,_⟩|⟨Y0,k,b,e,_,_,_⟩;obtain⟨_,_,vs,_,dd⟩:=fh I.hok e;exact dd.typeIs;obtain⟨_,_,xs,_,dd⟩:=jh I.hok e;exact dd.typeIs
def j6k (td ty:TE):TE:=fun σ H Q=>td σ H fun x H1=>ty σ H1 fun y H2=>∃a v,x=.ref a/\NB H2 a y (some v)/\Q v H2
def tDIn (ty td:TE):TE:=fun σ H Q=>ty σ H fun y H1=>td σ H1 fun x H2=>∃a o,x=.ref a/\NB H2 a y o/\Q (.bl o.isSome) H2
def z7c (ty td:TE):TE:=fun σ H Q=>ty σ H fun y H1=>td σ H1 fun x H2=>∃a o,x=.ref a/\NB H2 a y o/\Q (.bl (!o.isSome)) H2
def j6g (td ty tv:TE):TS:=fun D σ H=>tv σ H fun v H1=>td σ H1 fun x H2=>ty σ H2 fun y H3=>∃a H4,x=.ref a/\HC H3 a y v H4/\D.nx σ H4
end
section
variable {X:Cx}{o i e value:Expr}{pos pos' tpos:Pos}{td ty tv:TE}
def Di (hu:X.A.units+1<cLine)(ho:PE X o td)(hi:PE X i ty)(hs:NoSl i):PE X (.Subscript o i pos) (j6k td ty):=by intro Q0 s σ H Q I h;refine Ew PySem.F.slot_dict_getitem.lookup hs (thn (ho Q0 s σ H _ I h) fun u s1 ⟨x,H1,I1,rx,q1⟩=>thn (hi Q0 s1 σ H1 _ I1 q1) fun iv s2 ⟨y,H2,I2,ry,a,v,ex,g,q2⟩=>?_);subst ex;obtain rfl:u=Value.ref a:=rx;exact⟨Fw I2 g,Bw hu I2 g ry fun w' s3 I3 rw'=>(fun _=>⟨v,H2,I3,rw',q2⟩)⟩
def kh (hu:X.A.units+1<cLine)(hi:PE X i ty)(ho:PE X o td):PC X .In i o (tDIn ty td):=by intro Q0 s σ H Q I h;refine thn (hi Q0 s σ H _ I h) fun iv s1 ⟨y,H1,I1,ry,q1⟩=>thn (ho Q0 s1 σ H1 _ I1 q1) fun u s2 zq=>?_;obtain⟨x,H2,I2,rx,a,ov,ex,g,q2⟩:=zq;subst ex;obtain rfl:u=Value.ref a:=rx;exact d_in hu I2 g ry fun s3 I3=>(fun _=>⟨.bl ov.isSome,H2,I3,rfl,q2⟩)
def mq (hu:X.A.units+1<cLine)(hi:PE X i ty)(ho:PE X o td):PC X .NotIn i o (z7c ty td):=by intro Q0 s σ H Q I h;refine thn (hi Q0 s σ H _ I h) fun iv s1 ⟨y,H1,I1,ry,q1⟩=>thn (ho Q0 s1 σ H1 _ I1 q1) fun u s2 zq=>?_;obtain⟨x,H2,I2,rx,a,ov,ex,g,q2⟩:=zq;subst ex;obtain rfl:u=Value.ref a:=rx;exact Cw hu I2 g ry fun s3 I3=>(fun _=>⟨.bl (!ov.isSome),H2,I3,rfl,q2⟩)
def Ei (hu:X.A.units+1<cLine)(ho:PE X o td)(hi:PE X i ty)(hv:PE X value tv)(hs:swapsWith value (some (.Subscript o i pos')) pos.line X.env=pure false) :
  PS X (.Assign [.Subscript o i pos'] value pos) (j6g td ty tv):=by
 intro Q0 s σ H D I h;refine wpAny_Assign_Subscript (thn (hv Q0 s σ H _ I h) fun r s1 ⟨v,H1,I1,rv,q1⟩=>thn (ho Q0 s1 σ H1 _ I1 q1) fun u s2 ⟨x,H2,I2,rx,q2⟩=>thn (hi Q0 s2 σ H2 _ I2 q2) fun iv s3 zq=>?_) hs;obtain⟨y,H3,I3,ry,a,H4,ex,g,q3⟩:=zq;subst ex;obtain rfl:u=Value.ref a:=rx;exact Dw hu I3 g ry rv fun s4 I4=>(fun _=>⟨σ,H4,I4,q3⟩)
def Gw(h:Heap)(hb:sysModules<h.objs.size):HB P w H (h.push { cls:=.type "dict",data:=.dict #[] }) h.objs.size (.dK []) :=
 ⟨zero_le _,beq_eq_false_iff_ne.mpr (Ne.symm (ne_of_lt hb)),[],.nil,Heap.DictOf.new h⟩
def q0s:TE:=fun _ H Q=>∀p,H p=none->Q (.ref p) (upd H p (.dK []))
def Fi:PE X (.Dict [] [] pos) q0s:=fun Q0 s σ H Q I h =>
 wpAny_Dict_empty (fun _=>⟨.ref s.heap.objs.size,_,I.laid (a:=s.heap.objs.size) (o:=.dK []) (t':=s.toks) (fun _ _ q=>get?_push_of_some _ q) (le_refl _) (Gw s.heap I.big),rfl,h _ (I.hok.fresh (le_refl _))⟩)
noncomputable def ce (Y0 more:List (Key×V)):List (Key×V):=more.foldl (fun n0 kv=>rB n0 kv.1 kv.2) Y0
def KV.merge:∀{more:List (Key×V)}{rs:List (Key×Value)}{Y0:List (Key×V)}{vs:List (Key×Value)},KV more rs->KV Y0 vs->KV (ce Y0 more) (merged vs rs):=by
 intro more rs Y0 vs r;unfold KV at r;induction r generalizing Y0 vs with
 |nil=>intro q;exact q
 | @cons p q ps qs h t ih =>
  intro r0;have e:KV (rB Y0 p.1 p.2) (stored vs q.1 q.2):=by
   have:=r0.put p.1 h.2;rw[<-h.1];exact this
  exact ih e
structure M1 (X:Cx)(o:Expr)(m:Str)(apos:Pos)(e:Expr)(cpos:Pos):Prop where
 base:attributeBase o m X.env (eval o X.env)=eval o X.env
 few:((backTo cpos (starEach [e] X.env)).all (fun x=>!x.1)&&(backToKw cpos (keywordEach [] X.env)).all (fun x=>x.1.isSome)
 &&decide (([e]:List Expr).length+([]:List Keyword).length+(if ([]:List Keyword).isEmpty then 0 else 1)<30))=true
 line:(apos.endLine == cpos.line)=true
 trees:backTo cpos (starEach [e] X.env)=[(false,eval e X.env)]
structure M2 (X:Cx)(o:Expr)(m:Str)(apos:Pos)(e f:Expr)(cpos:Pos):Prop where
 base:attributeBase o m X.env (eval o X.env)=eval o X.env
 few:((backTo cpos (starEach [e,f] X.env)).all (fun x=>!x.1)&&(backToKw cpos (keywordEach [] X.env)).all (fun x=>x.1.isSome)
 &&decide (([e,f]:List Expr).length+([]:List Keyword).length+(if ([]:List Keyword).isEmpty then 0 else 1)<30))=true
 line:(apos.endLine == cpos.line)=true
 trees:backTo cpos (starEach [e,f] X.env)=[(false,eval e X.env),(false,eval f X.env)]
end
end L2
namespace Att
open PySem PySem.W PySem.Calls PyProof.Rows
def Hw:∀(ns:List Int)(vs:List Value),WellAll P h vs (ns.map WData.int)->IntsAre vs ns:=by
 intro ns;induction ns with
 |nil =>
  intro vs w;rw[map_nil]at w;cases w;exact .nil
 |cons n ns ih =>
  intro vs w;rw[map_cons]at w;cases w with
  |cons a b =>
   cases a;exact .cons _ _ (ih _ b)
def script_of {l:OpenLaw}(hn:l.most=some n) 
  (hpre:l.row.toRowW.claim.pre args=true)(hwl:WellAll P h vals args) :
  ∃a vs ns,vals=[Value.ref a]/\args=[WData.list (ns.map WData.int)]/\h.get? a=some { cls:=.type "list",data:=.seq vs.toArray }/\IntsAre vs ns/\ns.length<=n:=by
 have hsh:WShape.hasAll [] args [.list .int]=true:=(pre_splitW hpre).1;have hc:l.pre.holds [] { args:=args }=true:=(pre_splitW hpre).2;obtain⟨d,r,rfl,h1,h2⟩:=hasAllW_cons hsh;obtain rfl:=hasAllW_nil h2;obtain⟨xs,rfl,h3⟩:=hasW_list h1;obtain⟨ns,rfl⟩:=items_int h3;have hlen:ns.length<=n:=by
  unfold OpenLaw.pre at hc;have h4:(WTm.not (.lt (.lit (.int (n:Int))) (.len (.arg 0)))).holds [] { args:=[.list (ns.map .int)] }=true:=by
   have h4:=(holds_andW hc).1;rw[hn]at h4;exact h4
  have h5:=condW_of h4 (w_not (w_lt w_lit (w_len_list (w_arg rfl))));rw[length_map]at h5;refine Nat.le_of_not_lt fun q=>?_;have q':(n:Int)<((ns.length:Nat):Int):=by lia
  first
   |(rw[decide_eq_true q']at h5;exact absurd h5 (by decide))
   |(simp at h5;lia)
 cases hwl with
 |cons w1 w2 =>
  cases w2;cases w1 with
  |list ho hall=>exact⟨_,_,ns,rfl,rfl,ho,Hw ns _ hall,hlen⟩
def post_true (l:OpenLaw)(args:List WData):l.row.toRowW.claim.post args (.bool true) args=true :=
 postW_of (r:=l.row.toRowW) (X:=(true == true))
  (show WShape.has [] (.bool true) .bool=true by first|rfl|decide|simp[WShape.has,WShape.arms,WShape.armsAll])
  (show(WTm.eq .res (.lit (.bool true))).value [] { args:=args,res:=some (.bool true),after:=args }=some (.bool (true == true)) from w_eq_bool (w_res rfl) w_lit) rfl
end Att
namespace L2
open PySem PySem.Spec PyProof.Rows
theorem nq:∀{vs:List Value}{ns:List Int},IntsAre vs ns->EB (ns.map V.int) vs
 |_,_,.nil=>.nil
 |_,_,.cons n t h=>.cons ⟨t,rfl⟩ (nq h)
def Only (H:Hp):Prop:=∀b,H b=none\/(∃o xs,H b=some (.frz o (.lst xs)))\/(H b=some .lam/\zE=some b)
def Iw{K:W.Frag} 
  (hpos:tk0<=s₁.toks)(KX:K.In s₁.heap)(hns:s₁.heap.Ns mainGlobals mg)(hb:s₁.heap.Ns builtinsNs mb)(hbb:∀x:Str,x ≠ "__name__"->mb x=bootBuiltins x)(hlim:s₁.heap.NoLimit)(hg:s₁.gens = #[])
  (hbm:∃bm ob,mg "__builtins__" = some (.ref bm)/\bm≠builtinsNs/\s₁.heap.get? bm=some ob/\ob.cls=.type "module"/\ob.dict=some builtinsNs/\ob.data=.plain)
  (hP:∀p,zE=some p->s₁.heap.get? p=some { cls:=.none,data:=.fields #[] }/\K.lookup p=none/\∃c,W.CodeHd s₁.heap c p)
  (ha:s₁.heap.get? a=some { cls:=.type "list",data:=.seq vs.toArray })(hi:IntsAre vs ns)(hl:ns.length<=sizeLine)(hr:KB k callerA)
  (F:∀base:Heap,K.In base->base.Ns mainGlobals mg->MB P w K mg base CX k fa fd [x] sp)(hbind:∀(s:Shared)(u:Value),BindsTo s fd ⟨[u],[]⟩ [(x,u)])
  (hsp:∀H:Hp,Only H->SqL K H a (ns.map V.int)->sp [.ref a] H (fun v _=>v=.bl true) fun _ _ _=>False)
  (hCX:∀H e s',CX [] H s₁ (fun _ _ _=>False) e s'->False) :
  codeAny (model P w) callerA (.call (.ref fa) ⟨[.ref a],[]⟩) (fun r s'=>r=.ok (.ret (.bool true))/\OldK s₁.heap s'.heap/\s'.os=s₁.os/\AllBare s'.gens) s₁:=by
 have rv:=nq hi;have lenV:=hi.length;have core:∀H:Hp,Only H->SqL K H a (ns.map V.int)->HOk P w H s₁.heap->(∀b,H b≠none->b=a\/zE=some b)->(H a≠none->K.lookup a=none)->gk H ->
   codeAny (model P w) callerA (.call (.ref fa) ⟨[.ref a],[]⟩) (fun r s'=>r=.ok (.ret (.bool true))/\OldK s₁.heap s'.heap/\s'.os=s₁.os/\AllBare s'.gens) s₁:=by
  intro H hO hS hok hA hK hL;have base_of:∀{b:Addr}{o:Obj},s₁.heap.get? b=some o->H b=none->(nG s₁.heap H).get? b=some o:=fun e n=>Gv e n;have noA:∀{b:Addr}{o:Obj}{es:Array DictEntry}{ep:Nat},s₁.heap.get? b=some o->o.data=.dict es ep->H b=none:=fun {b o es ep} e d=>by
   cases q:H b with
   |none=>rfl
   |some u =>
    rcases hA b (by rw[q];simp) with e' | e';subst e';rw[ha]at e;cases e;have d':Data.seq vs.toArray _=Data.dict es ep:=d;cases d';rw[(hP b e').1]at e;cases e;cases d
  have noB:∀{b:Addr}{o:Obj},s₁.heap.get? b=some o->o.data=.plain->H b=none:=fun {b o} e d=>by
   cases q:H b with
   |none=>rfl
   |some u =>
    rcases hA b (by rw[q];simp) with e' | e';subst e';rw[ha]at e;cases e;have d':Data.seq vs.toArray _=Data.plain:=d;cases d';rw[(hP b e').1]at e;cases e;cases d
  have nsK:∀{b:Addr}{m:Str->Option Value},s₁.heap.Ns b m->(nG s₁.heap H).Ns b m:=fun {b m} ⟨o,es,ep,e,d,r⟩=>⟨o,es,ep,base_of e (noA e d),d,r⟩;have hKb:K.In (nG s₁.heap H):=fun b o e=>base_of (KX b o e) (by
   cases q:H b with
   |none=>rfl
   |some u =>
    rcases hA b (by rw[q];simp) with e' | e';subst e';rw[hK (by rw[q];simp)]at e;cases e;rw[(hP b e').2.1]at e;cases e)
  have hM:Mod K mg (nG s₁.heap H):=⟨hKb,nsK hns,⟨mb,nsK hb,hbb⟩,let ⟨mc,h1,h2⟩:=hlim;⟨mc,nsK h1,h2⟩,let ⟨bm,ob,b1,b2,b3,b4,b5,b6⟩:=hbm;⟨bm,ob,b1,b2,base_of b3 (noB b3 b6),b4,b5,b6⟩⟩;have e0:VC P w K mg (nG s₁.heap H) callerA [] s₁ H:=⟨rfl,hM,fun b o e=>Hv e,le_of_eq (Fv _ _),trivial,fun b hb=>absurd (show b∈([]:List Addr) from hb) (by simp),hL,hok,.of_eq hg,hpos⟩;refine codeAny_mono ((F _ hKb (nsK hns)).run callerA [] s₁ H ⟨[.ref a],[]⟩ [.ref a] [.ref a] _ _ hr e0 (hbind s₁ (.ref a)) (.cons rfl .nil) (hsp H hO hS)) fun r s' h=>?_;cases r with
  |error e=>exact(hCX H e s' h).elim
  |ok fl =>
   cases fl with
   |next=>exact False.elim h
   |brk=>exact False.elim h
   |cont=>exact False.elim h
   |ret u =>
    obtain⟨v,H',os,bare,un,hok',r',q⟩:=h;have q':v=.bl true:=q;subst q';obtain rfl:u=Value.bool true:=r';refine⟨rfl,⟨fun b o e=>?_,fun b o e=>un.there b o e (by simp)⟩,os,bare⟩;cases q:H b with
    |none=>exact .inl (un.keep b o e q (by intro z;exact absurd (show b∈([]:List Addr) from z) (by simp)) (by simp))
    |some u =>
     rcases hO b with z|⟨ob,xs,z⟩|⟨z,zp⟩;rw[q]at z;cases z;have z2:=un.frzs b ob _ z;obtain⟨e1,_⟩:=hok b _ z;obtain⟨e2,_⟩:=hok' b _ z2;rw[e]at e1;cases e1;exact .inl e2;obtain⟨ps,e2,_⟩:=hok' b _ (un.tbls b z);obtain⟨e1,_,c,C⟩:=hP b zp;have ht:=C.tab e1;rw[e1]at e;cases e;exact .inr (.inl ⟨ht.isCodeTable,rfl,#[],ps,rfl,by simpa using e2⟩)
 have naP:∀b,zE=some b->b≠a:=fun b e z=>by subst z;have:=(hP b e).1;rw[ha]at this;cases this
 cases hk:K.lookup a with
 |some o =>
  have e:=KX a o hk;rw[ha]at e;cases e;refine core (fun b=>if zE=some b then some .lam else none) (fun b=>?_) (.inr ⟨_,vs.toArray,_,hk,rfl,rfl,rfl,by rw[size_toArray,lenV];exact hl,by simpa using rv⟩) (fun b u z=>?_) (fun b z=>?_) (fun z=>?_) (fun p e=>if_pos e)
  ·by_cases hb:zE=some b;exact .inr (.inr ⟨if_pos hb,hb⟩);exact .inl (if_neg hb)
  ·by_cases hb:zE=some b;have z':=(if_pos hb).symm.trans z;cases z';exact⟨#[],(hP b hb).1,.inl rfl⟩;have z':=(if_neg hb).symm.trans z;cases z'
  ·by_cases hb:zE=some b;exact .inr hb;exact absurd (if_neg hb) z
  by_cases hb:zE=some a;exact absurd rfl (naP a hb);exact absurd (if_neg hb) z
 |none =>
  refine core (fun b=>if b=a then some (.frz { cls:=.type "list",data:=.seq vs.toArray } (.lst (ns.map V.int))) else if zE=some b then some .lam else none) (fun b=>?_) (.inl (.inr ⟨{ cls:=.type "list",data:=.seq vs.toArray },if_pos rfl⟩)) (fun b u z=>?_) (fun b z=>?_) (fun _=>hk) (fun p e=>?_)
  ·by_cases hb:b=a;exact .inr (.inl ⟨_,_,if_pos hb⟩);by_cases hp:zE=some b;exact .inr (.inr ⟨(if_neg hb).trans (if_pos hp),hp⟩);exact .inl ((if_neg hb).trans (if_neg hp))
  ·by_cases hb:b=a;have z':=(if_pos hb).symm.trans z;cases z';subst hb;exact⟨ha,by rw[length_map];exact hl,vs,_,rv,ha⟩;by_cases hp:zE=some b;have z':=((if_neg hb).trans (if_pos hp)).symm.trans z;cases z';exact⟨#[],(hP b hp).1,.inl rfl⟩;have z':=((if_neg hb).trans (if_neg hp)).symm.trans z;cases z'
  ·by_cases hb:b=a;exact .inl hb;by_cases hp:zE=some b;exact .inr hp;exact absurd ((if_neg hb).trans (if_neg hp)) z
  exact(if_neg (naP p e)).trans (if_pos e)
noncomputable def Gk (s:Stmt) (j:Nat):Stmt:=match s with
 |.ClassDef _ _ _ body _ _ _ _ _ _ _=>body.getD j (.Pass ⟨0,0,0,0⟩)
 |_=>.Pass ⟨0,0,0,0⟩
noncomputable def md (s:Stmt):Arguments:=match s with
 |.FunctionDef _ a _ _ _ _ _ _ _ _=>a
 |_=>{ posonlyargs:=[],args:=[],vararg:=none,kwonlyargs:=[],kw_defaults:=[],kwarg:=none,defaults:=[] }
noncomputable def jc (s:Stmt):List Stmt:=match s with
 |.FunctionDef _ _ b _ _ _ _ _ _ _=>b
 |_=>[]
noncomputable def Ca (s:Stmt):Scope:=match s with
 |.FunctionDef _ _ _ _ _ _ sc _ _ _=>sc
 |_=>{ kind:=.function,names:=[],isGenerator:=false,isCoroutine:=false }
abbrev CX0:CXT:=fun _ _ _ _ _ _=>False
abbrev E0:XK:=fun _ _ _=>False
def tf:Zd CX0 X E0:=fun _ _ _ _ _ _ _ h=>h.elim
structure Fun (K:W.Frag)(x qual:Str)(st:Stmt)(f:Addr)(fd:FuncData):Prop where
 ex:∃(oc:Value)(od:Option Addr)(kV doc pm:Value)(an:Option Addr)(cdv ct:Value)(O0:Array (Option Value)),
  fd=fnOf x qual (md st) (jc st) (Ca st) .none kV doc pm an cdv ct/\K.lookup f=some ⟨oc,od,.func fd,O0⟩/\codeIn K cdv qual=true
 kp:keepIn K (.ref f)=true
section
variable {P:Program}{w:World}{K:W.Frag}{mg:Str->Option Value}{base:Heap}
def Fun.ok{st:Stmt}(F:Fun K x qual st f fd)(S:CB N ps (Ca st))(len:∀vs H Q E,sp vs H Q E->vs.length=ps.length)
  (hbody:∀(cdv:Value)(A:Around)(V0:List Env)(s:Shared)(H:Hp)(vs:List V)(Q:VK)(E:XK),KB k (A.deeper (envOfC qual (Ca st) s.heap.objs.size f cdv))->sp vs H Q E ->
   ∃t,PSs (rC CX0 P w K mg base N qual (Ca st) f cdv A V0 s H E).nox (jc st) t/\t { nx:=fun _ H'=>Q .non H',rt:=Q } (start N vs) H):MB P w K mg base CX0 (k+1) f fd ps sp:=by
 obtain⟨oc,od,kV,doc,pm,an,cdv,ct,O0,rfl,lk,hcd⟩:=F.ex;refine Ak lk hcd S len fun A V0 s H vs Q E hr hsp=>?_;obtain⟨t,h,q⟩:=hbody cdv A V0 s H vs Q E hr hsp;exact⟨t,h.nox,q⟩
def Fun.binds{st:Stmt}(F:Fun K x qual st f fd)
  (h:∀(kV doc pm:Value)(an:Option Addr)(cdv ct:Value)(us:List Value),us.length=ps.length->bindArgs (fnOf x qual (md st) (jc st) (Ca st) .none kV doc pm an cdv ct) ⟨us,[]⟩=pure (ps.zip us)):OB K fd ps []:=by
 obtain⟨oc,od,kV,doc,pm,an,cdv,ct,O0,rfl,lk,hcd⟩:=F.ex;exact .all (h kV doc pm an cdv ct)
def lh{st:Stmt}{kV doc pm cdv ct:Value}(l:K.lookup f=some ⟨oc,od,.func (fnOf x qual (md st) (jc st) (Ca st) .none kV doc pm an cdv ct),O0⟩)
  (c:codeIn K cdv qual=true)(k:keepIn K (.ref f)=true):Fun K x qual st f (fnOf x qual (md st) (jc st) (Ca st) .none kV doc pm an cdv ct):=⟨⟨oc,od,kV,doc,pm,an,cdv,ct,O0,rfl,l,c⟩,k⟩
variable {X:Cx}
def pv (i:Nat)(hN:X.N[i]? = some x:=by rfl)(hv:Vis X.env.scope x:=by first|exact Or.inl rfl|exact Or.inr (Or.inl rfl)|exact Or.inr (Or.inr rfl))(hd:(x == ("__debug__":Str))=false:=by decide)
  (hcd:(x == ("__classdict__":Str))=false:=by decide):PE X (.Name x pos) (tVar i):=dg hN hv hd hcd
def kB {A B:Prop}(h:B):if false=true then A else B:=by rw[if_neg Bool.false_ne_true];exact h
def aF {A B:Prop}(h:A):if true=true then A else B:=by rw[if_pos rfl];exact h
def jB {c A B:Prop}[Decidable c](h1:c->A)(h2:¬c->B):if c then A else B:=by by_cases h:c;rw[if_pos h];exact h1 h;rw[if_neg h];exact h2 h
def BB (H H':Hp):Prop:=∀b o,H b=some o->H' b=some o
def BB.refl (H:Hp):BB H H:=fun _ _ h=>h
def BB.trans(a:BB H H1)(b:BB H1 H2):BB H H2:=fun c o h=>b c o (a c o h)
def BB.free(e:BB H H')(h:H' l=Option.none):H l=Option.none:=by
 cases q:H l with
 |none=>rfl
 |some o =>
  rw[e l o q]at h;cases h
def BB.seq(e:BB H H')(h:SqL K H a xs):SqL K H' a xs:=by rcases h with (h|⟨o,h⟩)|h;exact .inl (.inl (e _ _ h));exact .inl (.inr ⟨o,e _ _ h⟩);exact .inr h
variable {κ:Type}[DecidableEq κ]
theorem oq:∀{l:List κ}{k:κ},l.Nodup->¬k∈l->(l++[k]).Nodup
 | [],k,_,_=>by simp
 |a::r,k,h,hk=>by
  obtain⟨h1,h2⟩:=nodup_cons.mp h;show(a::(r++[k])).Nodup;refine nodup_cons.mpr ⟨fun m=>?_,oq h2 fun m=>hk (mem_cons.mpr (Or.inr m))⟩;rcases mem_append.mp m with q|q;exact h1 q;exact hk (mem_cons.mpr (Or.inl (mem_singleton.mp q).symm))
def tH{m:Sem β}{P P':β->Shared->Prop}(h:wpAny M A m (fun a r=>tk0<=r.toks->P a r) F s)(hP:∀a r,P a r->P' a r)(hF:∀e r,F e r->F' e r)(hs:tk0<=s.toks:=by first|assumption|exact Inv.pos (by assumption)):wpAny M A m P' F' s :=
 wpAny_mono (wpAny_toks_of hs h) (fun _ _ x=>hP _ _ (x.2 x.1)) fun _ _ x=>hF _ _ x.2
def Mb:OpR X (binaryOp .FloorDiv) (rI (fun _ j=>0<j/\j.natAbs.log2<9000) fun i j=>.int (i / j)):=opI fun i j _ _ _ _ _ hc q=>by
 have h1:(0:Int)<j:=hc.1;exact floordiv_int (by lia) (by rw[Int.fdiv_eq_ediv_of_nonneg i (by lia)];exact q) (.inl (PyProof.noPylong_of_log2 hc.2))
def Hk(hK:X.K=K):yc X (.builtin "isinstance") (fun xs H Q=>∃x T t b,xs=[x,.ty T]/\ZB K H x t/\kitOne K t (.type T)=some b/\Q (.bl b) H):=by subst hK;intro Q0 s σ H xs us Q I r h;obtain⟨x,T,t,b,rfl,ty,e,q⟩:=h;obtain⟨u,w',rfl,rx,rt⟩:=yi r;cases(show w' = Value.type T from rt);exact bw I rx ty e fun tk=>fun hk=>⟨.bl b,H,I.tok tk hk,rfl,q⟩
theorem Jw:typeLookup (.type "list_reverseiterator") "__len__" = pure none:=by rw[typeLookup_type,builtinLookup_eq_fast];kernel_rfl
theorem Kw:typeLookup (.type "list_reverseiterator") "__length_hint__" = pure (some (.builtin "list_reverseiterator.__length_hint__")):=by rw[typeLookup_type,builtinLookup_eq_fast];kernel_rfl
def Lw {items n0:Array Value}(h:ItemsOf (fun i v=>items[items.size - 1 - i]? = some v) n0 items.size):n0.toList=items.toList.reverse:=by
 obtain⟨h1,h2⟩:=h;apply List.ext_getElem?;intro j;by_cases hj:j<n0.size
 ·have e:=h2 j n0[j] (by simp[hj]);have hj':j<items.toList.length:=by simpa[h1] using hj
  rw[List.getElem?_reverse hj'];have e1:n0.toList[j]? = some n0[j]:=by simp[hj]
  rw[e1];have e2:items.toList[items.toList.length - 1 - j]? = items[items.size - 1 - j]?:=by simp
  rw[e2,e]
 rw[List.getElem?_eq_none (by simpa using hj),List.getElem?_eq_none (by simp;lia)]
variable {prog:Program}{A:Around}{E:Value->Shared->Prop}{s:Shared}
def Mw(hh:A.handled=none)(hr:s.heap.IsRevIter r l ((items.size:Int) - 1))(hl:s.heap.IsList l items)(hne:l≠r)(hn:items.size<=sizeLine)
  (hSr:S≠r)(hSl:S≠l)(hS:s.heap.get? S=some { cls:=.type "list",data:=.seq #[] c₀ })
  (hR:∀h' tk acc' c',(∀b o,b≠r->b≠S->s.heap.get? b=some o->h'.get? b=some o)->h'.get? S=some { cls:=.type "list",dict:=none,data:=.seq acc' c',slots:=#[] }->acc'.toList=items.toList.reverse->R (.ok (.ret res)) { s with heap:=h',toks:=tk }) :
  wpAny (model prog w) A.in1 (Builtin.List.listExtendWith (.ref S) (.ref r) res)
   (fun fin s'=>match fin with | .done f=>R (.ok f) s' | .again c'=>c'.quiet=true/\codeAny (model prog w) A c' R s') (fun e s'=>R (.error e) s') s:=by
 have W:=(Walks.listRev (prog:=prog) (w:=w) (A:=A.in1) hh r l hne items).toS;have hST:s.TypeIs (.ref r) "list_reverseiterator":=hr.typeIs;have h1:Builtin.List.listSameRef (.ref S) (.ref r)=false:=by
  unfold Builtin.List.listSameRef;exact beq_eq_false_iff_ne.mpr hSr
 have I0:(0:Nat)<=items.size/\s.heap.IsRevIter r l ((items.size:Int) - 1 - ((0:Nat):Int))/\s.heap.IsList l items:=⟨zero_le _,by simpa using hr,hl⟩;unfold Builtin.List.listExtendWith;refine wpAny_bind (wpAny_typeOf hST ?_);rw[if_neg (by rw[h1];decide)];refine wpAny_bind (W.self 0 _ _ _ I0 ?_);refine wpAny_bind (wpAny_holding ?_);unfold Builtin.List.listLengthHint;refine wpAny_bind (wpAny_specialOf hST Jw ?_);show wpAny _ A.in1 (specialOf (Value.ref r) (Str.ofString "__length_hint__") >>= _) _ _ _;refine wpAny_bind (wpAny_specialOf hST Kw ?_);generalize hid:("list_reverseiterator.__length_hint__":String)=id0
 wp_delta
 rw[show splitId id0=some ("list_reverseiterator","__length_hint__") from by subst hid;decide +kernel];subst hid;refine wpAny_bind (wpAny_isInstance (b:=true) hST (by rw[isSubtype_type];kernel_rfl) ?_);refine wpAny_pure ?_;rw[if_neg (by decide)];refine wpAny_pure ⟨plainId_quiet F.plain_extend_loop _,codeAny_extend_loopS W hn S (by simp[hSr,hSl]) res items.size 0 _ #[] c₀ rfl (zero_le _) I0 hS (ItemsOf.nil _) fun s' acc' c' hm hS' hacc=>?_⟩;rw[Moved.eq_with hm];exact hR s'.heap s'.toks acc' c' (fun b o hb hb' e=>hm.heap b o (by simp[hb,hb']) e) hS' (Lw hacc)
def Nw(hh:A.handled=none)(hr:s.heap.IsRevIter r l ((items.size:Int) - 1))(hl:s.heap.IsList l items)(hne:l≠r)(hn:items.size<=sizeLine)
  (hQ:∀h' tk acc' c',(∀b o,b≠r->s.heap.get? b=some o->h'.get? b=some o)->h'.get? s.heap.objs.size=some { cls:=.type "list",dict:=none,data:=.seq acc' c',slots:=#[] }->acc'.toList=items.toList.reverse ->
   Q (.ref s.heap.objs.size) { s with heap:=h',toks:=tk }) :
  wpAny (model prog w) A (call (.type "list") [.ref r]) Q E s:=by
 obtain⟨or,hor,_⟩:=id hr;obtain⟨ol,hol,_⟩:=id hl;have hlr:=lt_size hor;have hll:=lt_size hol;refine callType_codes (Q₁:=fun obj s₁=>obj=.ref s.heap.objs.size/\s₁ = { s with heap:=s.heap.push { cls:=.type "list",data:=.seq #[] } }) F.called_list (F.typeCall_list_1 _) F.entry_list_init
  (code_list_new _ ⟨rfl,rfl⟩) fun obj s₁ h₁=>?_
 obtain⟨rfl,rfl⟩:=h₁;have hS:(s.heap.push { cls:=.type "list",data:=.seq #[] }).get? s.heap.objs.size=some { cls:=.type "list",data:=.seq #[] }:=get?_push_size _ rfl;refine⟨⟨_,hS,rfl⟩,F.args_list_init_2 _ _,?_⟩;show wpAny _ _ (do let old <-Builtin.List.listItems (.ref s.heap.objs.size);Builtin.List.listUpdate (.ref s.heap.objs.size) (fun _=>#[]);letGo old.toList.reverse;Builtin.List.listExtendWith (.ref s.heap.objs.size) (.ref r) .none) _ _ _;refine wpAny_bind ?_;unfold Builtin.List.listItems;refine wpAny_bind (wpAny_seqItems hS rfl (wpAny_pure ?_));show wpAny _ _ (updateSeq s.heap.objs.size (fun _=>#[]) >>= fun _=>letGo (#[]:Array Value).toList.reverse >>= fun _=>Builtin.List.listExtendWith (.ref s.heap.objs.size) (.ref r) .none) _ _ _;refine wpAny_bind (wpAny_updateSeq hS rfl ?_);have hS₂:=get?_update_self (Obj.mapSeq (fun _=>(#[]:Array Value))) hS rfl;have oth:∀b o,b≠s.heap.objs.size->s.heap.get? b=some o->((s.heap.push { cls:=.type "list",data:=.seq #[] }).update s.heap.objs.size (Obj.mapSeq (fun _=>(#[]:Array Value)))).get? b=some o :=
  fun b o hb e=>(get?_update_other _ _ (Ne.symm hb)).trans (get?_push_of_some _ e)
 refine wpAny_bind (wpAny_letGo ?_);refine Mw (A:=A.in1) hh (hr.at fun o e=>oth r o (ne_of_lt hlr) e) (hl.at fun o e=>oth l o (ne_of_lt hll) e) hne hn (ne_of_gt hlr) (ne_of_gt hll) hS₂ fun h' tk acc' c' hk hS' hacc=>?_;exact⟨rfl,hQ h' tk acc' c' (fun b o hb e=>hk b o hb (ne_of_lt (lt_size e)) (oth b o (ne_of_lt (lt_size e)) e)) hS' hacc⟩
def Inv.turnLaid(I:Inv X Q0 σ H s)(k:∀b u,b≠it->s.heap.get? b=some u->h'.get? b=some u)(f:EC X Q0 H it)(hp:s.heap.objs.size<=a)
  (new:HB X.prog X.w (upd H a o) h' a o)(hk:tk0<=t':=by walk_at "p"):Inv X Q0 σ (upd H a o) { s with heap:=h',toks:=t' }:=by
 obtain⟨f0,f1,f2,f3,f4,f5⟩:=f;have hn:H a=none:=I.hok.fresh hp;have ne:∀b u,s.heap.get? b=some u->b≠a:=fun b u e=>ne_of_lt (lt_of_lt_of_le (lt_size e) hp);have nit:∀b u,H b=some u->b≠it:=fun b u e z=>by rw[z,f0]at e;cases e
 have ni:∀b,b∉[it]->b≠it:=fun b hb z=>hb (by simp[z]);refine I.step (g':=s.gens) (d':=s.drawn) (ch:=[it]) (fun b hb=>?_) (fun b u _ _ hc e _=>k b u (ni b hc) e) (fun b u _ _ hc e _=>⟨u.slots,k b u (ni b hc) e⟩) (fun b u _ e n=>by rw[ya (ne b u e)];exact n)
  (fun b u hc e=>⟨u,k b u (ni b hc) e⟩) (fun b xs e=>by rw[ya (Sa e hn)];exact e) (fun b u v e=>by rw[ya (Sa e hn)];exact e) (fun b e=>by rw[ya (Sa e hn)];exact e) (fun m hm=>?_) (fun b u e=>?_) I.bare
 ·have e:b=it:=by simpa using hb
  subst e;exact⟨f3,f1,f4,f5⟩
 obtain⟨o',es,ep,ho,r⟩:=hm;exact⟨o',es,ep,k _ o' (Ne.symm f1) ho,r⟩;by_cases hb:b=a;subst hb;rw[z0g]at e;cases e;exact new;rw[ya hb]at e;refine(I.hok b u e).stay (fun c v hc q=>k c v ?_ q) (fun c q=>by rw[ya (Sa q hn)];exact q) fun c xs q=>by rw[ya (Sa q hn)];exact q
 rcases hc with z|z;rw[z];exact nit b u e;exact nit c _ z
def tRev (K:W.Frag)(te:TE):TE:=fun σ H Q=>te σ H fun x H1=>∃a ys,x=.ref a/\H1 a=some (.lst ys)/\∀l,H1 l=none->Q (.ref l) (upd H1 l (.lst ys.reverse))
def pq(hc:X.calm=true)(hgL:Gl X "list")(hmL:X.mg "list" = none)(hgR:Gl X "reversed")(hmR:X.mg "reversed" = none)(he:PE X e te)
  (hs1:starEach [.Call (.Name "reversed" p2) [e] [] p3] X.env=[(false,eval (.Call (.Name "reversed" p2) [e] [] p3) X.env)]:=by rfl)(hs2:starEach [e] X.env=[(false,eval e X.env)]:=by rfl) :
  PE X (.Call (.Name "list" p1) [.Call (.Name "reversed" p2) [e] [] p3] [] pos) (tRev X.K te):=by
 intro Q0 s σ H Q I h;refine wpAny_Call_Name_kw (Od I hgL hmL boot_list ?_);refine PyProof.Rows.callWith_type1 ?_ hs1 rfl;rw[hs1];show wpAny _ _ (spliced ((false,eval _ X.env)::[])) _ _ s;refine Calls.spliced_cons (wpAny_Call_Name_kw (Od I hgR hmR boot_reversed ?_));refine PyProof.Rows.callWith_type1 ?_ hs2 rfl;rw[hs2];show wpAny _ _ (spliced ((false,eval e X.env)::[])) _ _ s;refine Calls.spliced_cons (thn (he Q0 s σ H _ I h) fun v s1 ⟨x,H1,I1,r1,q1⟩=>Calls.spliced_nil ?_);obtain⟨a,ys,rfl,hq,q⟩:=q1;cases r1;obtain⟨Z0,rv,pl,hz⟩:=I1.list (SqL.of hq);have hlen:=rv.length;obtain⟨ol,hol,_⟩:=id pl.isList;refine call_reversed_list pl.isList (Calls.spliced_nil ?_);have I2:Inv X Q0 σ H1 { s1 with heap:=s1.heap.push (revObj a ((Z0.toArray.size:Int) - 1)) }:=I1.kept (t':=s1.toks) fun b o e=>get?_push_of_some _ e;obtain⟨f0,f1,f2,f3,f4,f5⟩:=I1.fpOk (le_refl _) I1.fresh;refine Nw (I1.ok.hd hc) ⟨_,get?_push_size _ rfl,rfl,rfl⟩ (pl.isList.push _) (ne_of_lt (lt_size hol)) (by rw[size_toArray];lia) fun h' tk n0 c kp eS ea=>?_;have rr:EB ys.reverse n0.toList:=by rw[ea];exact rv.reverse
 have e8:n0=n0.toList.toArray:=by simp
 refine fun hk=>⟨.ref _,_,I2.turnLaid (t':=tk) (it:=s1.heap.objs.size) kp ⟨f0,f1,f2,f3,f4,f5⟩ (le_refl _) (show HB X.prog X.w _ h' _ (.lst ys.reverse) from⟨by rw[length_reverse];exact hz,n0.toList,c,rr,by rw[<-e8];exact eS⟩) hk,rfl,q _ ?_⟩;exact I2.fresh
noncomputable def zc:List (Str×NameKind)->List (Str×Addr)->List (Str×Addr)->List (Str×Addr)
 | [],_,cs=>cs
 |(n,k)::r,cells,cs=>zc r cells (if k == .free then(n,(cells.lookup n).getD 0)::cs else cs)
noncomputable def y0 (env:Env) (x:Str×NameKind) (r:List (Str×Addr)):Sem (ForInStep (List (Str×Addr))) :=
 if (x.2 == NameKind.free)=true then cellOf env x.1 >>= fun a=>pure (ForInStep.yield ((x.1,a)::r)) else pure (ForInStep.yield r)
def qq(h:∀y∈scope.names,y.2=.free->∃c,env.cells.lookup y.1=some c):closureFor scope env=pure (zc scope.names env.cells []):=by
 have key:∀(l:List (Str×NameKind))(cs:List (Str×Addr)),(∀y∈l,y.2=.free->∃c,env.cells.lookup y.1=some c)->(forIn l cs (y0 env):Sem (List (Str×Addr)))=pure (zc l env.cells cs):=by
  intro l;induction l with
  |nil=>intro cs _;rfl
  |cons y r ih =>
   intro cs hl;obtain⟨n,k⟩:=y;rw[List.forIn_cons];by_cases hk:(k == NameKind.free)=true
   ·obtain⟨c,hc⟩:=hl (n,k) mem_cons_self (by simpa using hk);have hc':env.cells.lookup n=some c:=hc;have e:y0 env (n,k) cs=pure (ForInStep.yield ((n,c)::cs)):=by simp only[y0,hk,if_true,cellOf,hc',pure_bind]
    rw[e,pure_bind];show forIn r ((n,c)::cs) (y0 env)=_;rw[ih _ fun y hy=>hl y (mem_cons_of_mem _ hy)];simp[zc,hk,hc']
   have e:y0 env (n,k) cs=pure (ForInStep.yield cs):=by simp only[y0,hk,if_false];rfl
   rw[e,pure_bind];show forIn r cs (y0 env)=_;rw[ih _ fun y hy=>hl y (mem_cons_of_mem _ hy)];simp[zc,hk]
 have e0:closureFor scope env=(forIn scope.names [] (y0 env):Sem (List (Str×Addr))) >>= fun cs=>pure cs:=by rfl
 rw[e0,key _ _ h,pure_bind]
theorem rq:∀(l:List (Str×NameKind))(cs:List (Str×Addr)),(∀z∈l,z.2=.free->∃c,cells.lookup z.1=some c)->(cs.lookup y=some c->cells.lookup y=some c) ->
  (zc l cells cs).lookup y=some c->cells.lookup y=some c
 | [],cs,_,h,e=>h e
 |(n,k)::r,cs,hl,h,e=>by
  refine rq r _ (fun z hz=>hl z (mem_cons_of_mem _ hz)) (fun e'=>?_) e;by_cases hk:(k == NameKind.free)=true
  ·rw[if_pos hk]at e';obtain⟨c',hc⟩:=hl (n,k) mem_cons_self (by simpa using hk);have hc':cells.lookup n=some c':=hc;rw[lookup_cons,hc']at e';by_cases hy:(y == n)=true;simp only[hy]at e';rw[eq_of_beq hy,hc'];exact e';simp only[hy]at e';exact h e'
  rw[if_neg hk]at e';exact h e'
theorem Ik:∀(l:List (Str×NameKind))(cs:List (Str×Addr)),(y,NameKind.free)∈l\/(cs.lookup y).isSome=true->((zc l cells cs).lookup y).isSome=true
 | [],cs,h=>by
  rcases h with h|h;cases h;exact h
 |(n,k)::r,cs,h=>by
  refine Ik r _ ?_;rcases h with h|h
  ·rcases mem_cons.mp h with h|h;cases h;refine .inr ?_;simp;exact .inl h
  refine .inr ?_;by_cases hk:(k == NameKind.free)=true
  ·rw[if_pos hk,lookup_cons];cases hy:y == n;exact h;rfl
  rw[if_neg hk];exact h
theorem mh:∀{l:List (Str×NameKind)},l.lookup y=some k->(y,k)∈l
 | [],h=>by cases h
 |(n,k')::r,h=>by
  rw[lookup_cons]at h;cases hy:y == n;rw[hy]at h;exact mem_cons_of_mem _ (mh h);rw[hy]at h;cases h;rw[eq_of_beq hy];exact mem_cons_self
def Jk(h:(relabel scope env).names.lookup y=some k):scope.names.lookup y=some k\/(k=.cell/\scope.names.lookup y=some .free):=by
 have key:∀l:List (Str×NameKind),(l.map fun(n,k)=>if (k == NameKind.free&&env.scope.kind == .function&&env.kindOf n == some .cell) then(n,NameKind.cell) else(n,k)).lookup y=some k->l.lookup y=some k\/(k=.cell/\l.lookup y=some .free):=by
  intro l;induction l with
  |nil=>intro h;simp at h
  |cons z r ih =>
   obtain⟨n,k'⟩:=z;intro h;rw[map_cons]at h;rw[lookup_cons];by_cases hc:(k' == NameKind.free&&env.scope.kind == .function&&env.kindOf n == some .cell)=true
   ·have e:(match (n,k') with|(n,k)=>if (k == NameKind.free&&env.scope.kind == .function&&env.kindOf n == some .cell)=true then(n,NameKind.cell) else(n,k))=(n,NameKind.cell):=by simp only[hc,if_true]
    rw[e,lookup_cons]at h;cases hy:y == n;rw[hy]at h;exact ih h;rw[hy]at h;have hk:k' = .free:=by simp at hc;exact hc.1.1
    cases h;exact .inr ⟨rfl,by rw[hk]⟩
   have e:(match (n,k') with|(n,k)=>if (k == NameKind.free&&env.scope.kind == .function&&env.kindOf n == some .cell)=true then(n,NameKind.cell) else(n,k))=(n,k'):=by simp only[hc,if_false];rfl
   rw[e,lookup_cons]at h;cases hy:y == n;rw[hy]at h;exact ih h;rw[hy]at h;exact .inl h
 exact key _ h
def Ow(h:scope.names.lookup y=some .free):(relabel scope env).names.lookup y=some .cell\/(relabel scope env).names.lookup y=some .free:=by
 have key:∀l:List (Str×NameKind),l.lookup y=some .free->(l.map fun(n,k)=>if (k == NameKind.free&&env.scope.kind == .function&&env.kindOf n == some .cell) then(n,NameKind.cell) else(n,k)).lookup y=some .cell \/
  (l.map fun(n,k)=>if (k == NameKind.free&&env.scope.kind == .function&&env.kindOf n == some .cell) then(n,NameKind.cell) else(n,k)).lookup y=some .free:=by
  intro l;induction l with
  |nil=>intro h;simp at h
  |cons z r ih =>
   obtain⟨n,k'⟩:=z;intro h;rw[lookup_cons]at h;rw[map_cons];cases hy:y == n
   ·rw[hy]at h;rcases ih h with q|q
    ·left;rw[lookup_cons];split;rename_i hb;split at hb<;>(simp only at hb;rw[hy]at hb;cases hb);exact q
    right;rw[lookup_cons];split;rename_i hb;split at hb<;>(simp only at hb;rw[hy]at hb;cases hb);exact q
   rw[hy]at h;cases h;by_cases hc:(NameKind.free == NameKind.free&&env.scope.kind == .function&&env.kindOf n == some .cell)=true;left;simp only[hc,if_true,lookup_cons,hy];right;show List.lookup y ((if (NameKind.free == NameKind.free&&env.scope.kind == .function&&env.kindOf n == some .cell)=true then(n,NameKind.cell) else(n,NameKind.free))::_)=_;rw[if_neg hc,lookup_cons,hy]
 exact key _ h
def PF (X:Cx)(P0:List Expr)(t:TT):Prop :=
 ∀(Q0:List (Addr×Obj))(s:Shared)(σ:St)(H:Hp)(Q:Bool->Hp->Prop),Inv X Q0 σ H s->t σ H Q ->
  wpAny (model X.prog X.w) X.A (forIn P0 true fun c r=>if r=true then do let ok <-isTrue c X.env (eval c X.env);pure (ForInStep.yield ok) else pure (ForInStep.yield r)) (TP X Q0 σ Q) X.xe s
def tYes:TT:=fun _ H Q=>Q true H
def tq:PF X [] tYes:=fun _ _ _ H _ I h=>wpAny_pure fun _=>⟨H,I,h⟩
def Pw(h:PT X c t):PF X [c] t:=fun Q0 s σ H Q I q=>wpAny_tests_one (h Q0 s σ H Q I q)
noncomputable def Rb (X:Cx) (scope:Scope) (N:List Str) (Q0:List (Addr×Obj)) (ex:List Addr) (H₀:Hp) (s₀:Shared) (C:Addr):Cx :=
 { X with N:=N,s₀:=s₀,H₀:=H₀,env:=compEnvC scope (zc scope.names X.env.cells []) C X.env,V0:=X.stack,stack:=X.stack,ex:=ex,fn:=fun _=>false,pn:=X.pn++Q0,xe:=fun _ _=>False }
noncomputable def oC (sc:Scope):List Str->List Str->Bool
 | [],[]=>true
 |n::N,m::M=>(sc.names.lookup m == none||(m == n&&sc.names.lookup m == some .free))&&oC sc N M
 |_,_=>false
theorem oC.get:∀{N M:List Str},oC sc N M=true->N.length=M.length/\∀(i:Nat)(y:Str),M[i]? = some y->sc.names.lookup y=none\/(N[i]? = some y/\sc.names.lookup y=some .free)
 | [],[],_=>⟨rfl,fun i y h=>by simp at h⟩
 |n::N,m::M,h=>by
  obtain⟨h1,h2⟩:=(and_eq_true _ _).mp (show((sc.names.lookup m == none||(m == n&&sc.names.lookup m == some .free))&&oC sc N M)=true from h);obtain⟨l,ih⟩:=oC.get h2;refine⟨by simp[l],fun i y e=>?_⟩;cases i with
  |zero =>
   have e':m=y:=by simpa using e
   subst e';rcases(or_eq_true _ _).mp h1 with h|h;exact .inl (by simpa using h);obtain⟨h3,h4⟩:=(and_eq_true _ _).mp h;exact .inr ⟨by rw[eq_of_beq h3];rfl,by simpa using h4⟩
  |succ i=>simpa using ih i y (by simpa using e)
 | [],_::_,h=>by cases h
 |_::_,[],h=>by cases h
structure CScope (osc:Scope)(N:List Str)(x:Str)(sc:Scope)(M:List Str):Prop where
 kind:sc.kind=.function
 cell:∀y∈sc.names,y.2≠.cell
 names:∀y∈sc.names,y.2=.local->sc.names.lookup y.1=some .local
 hx:sc.names.lookup x=some .local
 free:∀y∈sc.names,y.2=.free->osc.names.lookup y.1=some .cell\/osc.names.lookup y.1=some .free
 nd:(x::M).Nodup
 ok:oC sc N M=true
inductive EqT (H:Hp):Nat->V->V->Prop
 |int {n:Nat}(i:Int):EqT H n (.int i) (.int i)
 |str {n:Nat}(x:Str):EqT H n (.str x) (.str x)
 |lst {n:Nat}{a b:Addr}{xs ys:List V}(ha:H a=some (.lst xs)) (hb:H b=some (.lst ys)) (hl:xs.length=ys.length) (h:∀(i:Nat) x y,xs[i]? = some x->ys[i]? = some y->EqT H n x y):EqT H (n+1) (.ref a) (.ref b)
 |tup {n:Nat}{a b:Addr}{xs ys:List V}(ha:H a=some (.tup xs)) (hb:H b=some (.tup ys)) (hl:xs.length=ys.length) (h:∀(i:Nat) x y,xs[i]? = some x->ys[i]? = some y->EqT H n x y):EqT H (n+1) (.ref a) (.ref b)
def Gi (n:Nat):(range n).all (fun _=>true)=true:=by simp
def EqT.items {X:Cx}{H:Hp}{n:Nat}(r1:EB xs us)(r2:EB ys ws)(hl:xs.length=ys.length)
  (ih:∀(i:Nat) x y,xs[i]? = some x->ys[i]? = some y->∀{v' u':Value},GB x v'->GB y u'->SeqAt.EqAt A.in1 s v' u' true)(j:Nat)(h1:j<us.toArray.size)(h2:j<ws.toArray.size):SeqAt.EqAt A.in1 s us.toArray[j] ws.toArray[j] true:=by
 have l1:=r1.length;have l2:=r2.length;have hj:j<xs.length:=by simpa[l1] using h1
 have hj2:j<ys.length:=by lia
 obtain⟨u,e1,q1⟩:=r1.get (i:=j) (x:=xs[j]) (by simp[hj]);obtain⟨w',e2,q2⟩:=r2.get (i:=j) (x:=ys[j]) (by simp[hj2]);have z1:us.toArray[j]=u:=by
  have:us[j]? = some (us.toArray[j]):=by simp at h1;simp[h1]
  rw[this]at e1;exact Option.some.inj e1
 have z2:ws.toArray[j]=w':=by
  have:ws[j]? = some (ws.toArray[j]):=by simp at h2;simp[h2]
  rw[this]at e2;exact Option.some.inj e2
 rw[z1,z2];exact ih j xs[j] ys[j] (by simp[hj]) (by simp[hj2]) q1 q2
theorem EqT.at(I:Inv X Q0 σ H s)(h:EqT H n v u):∀{A:Around}{v' u':Value},GB v v'->GB u u'->A.units+n<cLine->SeqAt.EqAt A s v' u' true:=by
 induction h with
 |int i =>
  intro A v' u' r1 r2 _;obtain⟨t,rfl⟩:=r1;obtain⟨t',rfl⟩:=r2;have q:=SeqAt.EqAt.int_int (A:=A) (s:=s) i t i t';rw[beq_self_eq_true]at q;exact q
 |str x =>
  intro A v' u' r1 r2 _;obtain⟨t,rfl⟩:=r1;obtain⟨t',rfl⟩:=r2;have q:=SeqAt.EqAt.str_str (A:=A) (s:=s) x t x t';rw[beq_self_eq_true]at q;exact q
 | @lst n a b xs ys ha hb hl h ih =>
  intro A v' u' r1 r2 hu;cases r1;cases r2;by_cases hab:a=b;subst hab;exact SeqAt.EqAt.same _;obtain⟨us,ru,pu,_⟩:=I.list (SqL.of ha);obtain⟨ws,rw',pw,_⟩:=I.list (SqL.of hb);have q:=SeqAt.RcAt.lists (A:=A) (e:=fun _=>true) pu.isList pw.isList (by simp[<-ru.length,<-rw'.length,hl]) (by lia) (fun j h1 h2=>EqT.items (X:=X) (H:=H) (n:=n) ru rw' hl (fun i x y e1 e2 _ _ q1 q2=>ih i x y e1 e2 q1 q2 (by show A.units+1+n<cLine;lia)) j h1 h2);rw[Gi]at q;exact SeqAt.EqAt.of_refs hab q
 | @tup n a b xs ys ha hb hl h ih =>
  intro A v' u' r1 r2 hu;cases r1;cases r2;by_cases hab:a=b;subst hab;exact SeqAt.EqAt.same _;obtain⟨us,ru,pu,_⟩:=I.tuple (SqT.of ha);obtain⟨ws,rw',pw,_⟩:=I.tuple (SqT.of hb);have q:=SeqAt.RcAt.tuples (A:=A) (e:=fun _=>true) (show s.heap.IsTuple a us.toArray from pu) (show s.heap.IsTuple b ws.toArray from pw) (by lia) (fun j h1 h2=>EqT.items (X:=X) (H:=H) (n:=n) ru rw' hl (fun i x y e1 e2 _ _ q1 q2=>ih i x y e1 e2 q1 q2 (by show A.units+1+n<cLine;lia)) j h1 h2);have e:us.toArray.size=ws.toArray.size:=by simp[<-ru.length,<-rw'.length,hl]
  rw[Gi,e,beq_self_eq_true,Bool.true_and]at q;exact SeqAt.EqAt.of_refs hab q
def Qw:OpR X (compareOp .Eq) (fun x y H Q=>∃n a b xs ys,x=.ref a/\y=.ref b/\H a=some (.lst xs)/\H b=some (.lst ys)/\xs.length=ys.length/\(∀(i:Nat) x y,xs[i]? = some x->ys[i]? = some y->EqT H n x y)/\X.A.units+n+1<cLine/\Q (.bl true) H):=by intro Q0 s σ H x y v u Q I rx ry h;obtain⟨n,a,b,xs,ys,rfl,rfl,ha,hb,hl,h,hu,q⟩:=h;cases rx;cases ry;obtain⟨us,ru,pu,_⟩:=I.list (SqL.of ha);obtain⟨ws,rw',pw,_⟩:=I.list (SqL.of hb);refine SeqAt.eq_listAt (e:=fun _=>true) pu.isList pw.isList (by simp[<-ru.length,<-rw'.length,hl]) (by lia) (fun j h1 h2=>EqT.items (X:=X) (H:=H) (n:=n) ru rw' hl (fun i x y e1 e2 _ _ q1 q2=>(h i x y e1 e2).at I q1 q2 (by show X.A.units+1+n<cLine;lia)) j h1 h2) ?_;rw[Gi];exact fun _=>⟨.bl true,H,I,rfl,q⟩
def uq (K:PySem.W.Frag)(a:Addr)(g:TG)(tb:TS)(D:GC)(σ:St)(H:Hp):Prop:=∃W:Nat->Nat->St->Hp->Prop,(∃m,W 0 m σ H)/\∀i m σ H,W i m σ H ->
 ((Itl K a).stop i H/\D.nx σ H)\/((Itl K a).go i H/\∃N:St->Hp->Prop,(∀σ' H',N σ' H'->∃m',m' < m/\W (i+1) m' σ' H')/\∀x H',(Itl K a).yld i H x H'->g x σ H' fun σ2 H2=>tb { D with nx:=N,ct:=N,bk:=D.nx } σ2 H2)
theorem q9r:tFor (yk K tl) g tb D σ H=tl σ H fun x H1=>∃a,x=.ref a/\(∃xs,SqL K H1 a xs)/\uq K a g tb D σ H1:=rfl
def uf(Pv:Nat->St->Hp->Prop)(h0:Pv 0 σ H)(hl:∀i σ H,i<=xs.length->Pv i σ H->SqL K H a xs)
  (hs:∀i x σ H,xs[i]? = some x->Pv i σ H->g x σ H fun σ2 H2=>tb { D with nx:=Pv (i+1),ct:=Pv (i+1),bk:=D.nx } σ2 H2)(hd:∀σ H,Pv xs.length σ H->D.nx σ H):uq K a g tb D σ H:=Tv Pv h0 hl hs hd
theorem BB.upd(s:BB H H')(h:H a=none):BB H (upd H' a o):=fun b u e=>by
 rw[ya (Sa e h)];exact s b u e
def BB.of_new(h:H a=none):BB H (L2.upd H a o):=(BB.refl H).upd h
theorem q9z{E:XK}:(rC CX P w K mg base N qual scope f cd A V0 s H E).K=K:=rfl
theorem j1l{E:XK}:(rC CX P w K mg base N qual scope f cd A V0 s H E).A=A.deeper (envOfC qual scope s.heap.objs.size f cd):=rfl
def Ae:IxR X (fun x y H Q=>∃p i,x=.ref p/\y=.int i/\∃xs,H p=some (.lst xs)/\∃v,atI xs i=some v/\Q v H):=fun value slice Q0 s σ H x y v u Q I rx ry h hs =>
 Rp value slice Q0 s σ H x y v u Q I rx ry (by obtain⟨p,i,e1,e2,xs,e3,v,e4,q⟩:=h;exact⟨p,xs,i,v,e1,e2,SqL.of e3,e4,q⟩) hs
def Eb:IxR X (fun x y H Q=>∃p i,x=.ref p/\y=.int i/\∃xs,H p=some (.tup xs)/\∃v,atI xs i=some v/\Q v H):=fun value slice Q0 s σ H x y v u Q I rx ry h hs =>
 ix_tup value slice Q0 s σ H x y v u Q I rx ry (by obtain⟨p,i,e1,e2,xs,e3,v,e4,q⟩:=h;exact⟨p,xs,i,v,e1,e2,SqT.of e3,e4,q⟩) hs
def oh:yc X (.builtin "len") (fun xs H Q=>∃p,xs=[.ref p]/\∃ys,H p=some (.lst ys)/\Q (.int ys.length) H):=fun Q0 s σ H xs us Q I r h =>
 Zp Q0 s σ H xs us Q I r (by obtain⟨p,e,ys,e2,q⟩:=h;exact⟨p,ys,e,.inl (SqL.of e2),q⟩)
def Hi:yc X (.type "list") (fun xs H Q=>∃p,xs=[.ref p]/\∃ys,H p=some (.lst ys)/\∀l,H l=none->Q (.ref l) (upd H l (.lst ys))):=fun Q0 s σ H xs us Q I r h =>
 yw Q0 s σ H xs us Q I r (by obtain⟨p,e,ys,e2,q⟩:=h;exact⟨p,ys,e,.inl (SqL.of e2),q⟩)
def vq:SlR X (fun x lo hi H Q=>∃a,x=.ref a/\∃xs,H a=some (.lst xs)/\∀p,H p=none->Q (.ref p) (upd H p (.lst (oG xs lo hi)))):=fun Q0 s σ H x v vl vu lo hi sl Q I rx hs pl pu h =>
 Vp Q0 s σ H x v vl vu lo hi sl Q I rx hs pl pu (by obtain⟨a,e,xs,e2,q⟩:=h;exact⟨a,xs,e,SqL.of e2,q⟩)
def wq(h:H p=some (.lst xs)):tyV K "list" (.ref p) H:=.inl ⟨rfl,_,SqL.of h⟩
variable {o e:Expr}{es:List Expr}{to:TE}{t:TA}{name:Str}{apos cpos:Pos}{id:String}{r:V->List V->Hp->VK->Prop}
def tLM (r:V->List V->Hp->VK->Prop)(to:TE)(t:TA):TE:=fun σ H Q=>to σ H fun x H1=>∃p,x=.ref p/\(∃xs,H1 p=some (.lst xs))/\t σ H1 fun vs H2=>r (.ref p) vs H2 Q
def tLM0 (r:V->List V->Hp->VK->Prop)(to:TE):TE:=fun σ H Q=>to σ H fun x H1=>∃p,x=.ref p/\(∃xs,H1 p=some (.lst xs))/\r (.ref p) [] H1 Q
def Kk (slot:Slot "list" name id)(hty:typeOf (.builtin id)=pure (.type "method_descriptor"))(hm:MtR X id r)(ho:PE X o to)
  (B0:attributeBase o name X.env (eval o X.env)=eval o X.env:=by rfl)(A0:(apos.endLine == cpos.line)=true:=by rfl):PE X (.Call (.Attribute o name apos) [] [] cpos) (tLM0 r to):=by
 intro Q0 s σ H Q I h;refine wpAny_Call_method0_late B0 A0 (thn (ho Q0 s σ H _ I h) fun v s1 zq=>?_);obtain⟨x,H1,I1,r1,p,e1,⟨xs,hx⟩,q1⟩:=zq;subst e1;obtain⟨h1,h2⟩:=Ek I1 r1 (wq hx);exact⟨"list",id,PySem.F.plainAttrs_list,slot,hty,h1,h2,Calls.callWith_builtin rfl (PySem.evalArgs_none (hm Q0 s1 σ H1 _ [] v [] Q I1 r1 .nil q1))⟩
def Be (slot:Slot "list" name id)(hty:typeOf (.builtin id)=pure (.type "method_descriptor"))(hm:MtR X id r)(ho:PE X o to)(ha:PA X (e::es) t)
  (B0:attributeBase o name X.env (eval o X.env)=eval o X.env:=by rfl)
  (D0:((backTo cpos (starEach (e::es) X.env)).all (fun x=>!x.1)&&(backToKw cpos (keywordEach [] X.env)).all (fun x=>x.1.isSome)
  &&decide ((e::es).length+([]:List Keyword).length+(if ([]:List Keyword).isEmpty then 0 else 1)<30))=true:=by rfl)
  (A0:(apos.endLine == cpos.line)=true:=by rfl)(hs:starEach (e::es) X.env=(false,eval e X.env)::starEach es X.env:=by rfl)(C0:(backTo cpos (starEach es X.env)).any (·.1)=false:=by rfl) :
  PE X (.Call (.Attribute o name apos) (e::es) [] cpos) (tLM r to t):=by
 intro Q0 s σ H Q I h;refine wpAny_Call_method_late B0 D0 A0 rfl (thn (ho Q0 s σ H _ I h) fun v s1 zq=>?_);obtain⟨x,H1,I1,r1,p,e1,⟨xs,hx⟩,q1⟩:=zq;subst e1;obtain⟨h1,h2⟩:=Ek I1 r1 (wq hx);refine⟨"list",id,PySem.F.plainAttrs_list,slot,hty,h1,h2,?_⟩;have hA:=ha cpos Q0 s1 σ H1 _ I1 q1;rw[hs]at hA ⊢;refine Calls.callWith_builtin (by show(false||(backTo cpos (starEach es X.env)).any (·.1))=false;rw[C0]<;>rfl) (Calls.evalArgs_plain ?_);exact thn hA fun us s2 ⟨vs,H2,I2,r2,q2⟩=>hm Q0 s2 σ H2 _ vs v us Q I2 r1 r2 q2
theorem j4{o:HO}:upd H a o b=if b=a then some o else H b:=rfl
def upd_none{o:HO}:upd H a o b=none↔b≠a/\H b=none:=by rw[j4];by_cases h:b=a<;>simp[h]
def aC:atI (a::l) 0=some a:=by have:=Pd (xs:=a::l) (j:=0) (v:=a) rfl;simpa using this
def tF:atI (a::b::l) 1=some b:=by have:=Pd (xs:=a::b::l) (j:=1) (v:=b) rfl;simpa using this
def atI2:atI (a::b::c::l) 2=some c:=by have:=Pd (xs:=a::b::c::l) (j:=2) (v:=c) rfl;simpa using this
def Oa:sizeLine=16777216:=sizeLine_eq
theorem scII {a b:Int}:scal (.int a) (.int b)=true:=rfl
open PySem.SeqAt
def Ii:plainId "list.__eq__.loop" = true:=by decide +kernel
def xq:entryFor table "list.__eq__.loop" = some Builtin.«list.__eq__.loop»:=entryFor_of_tree (by kernel_rfl)
open AutoSeq1 (wpAny_loadPart')
def Sw (l b:Addr)(us ws:Array Value)(n n2:Nat)(hsz:us.size=ws.size)(k:Nat) :
  ∀i:Nat,us.size - i=k->Meets (Builtin.«list.__eq__.loop» ⟨[.ref l,.ref b,rawInt i,rawInt 3],[]⟩)
   (fun A R s=>s.heap.get? l=some { cls:=.type "list",data:=.seq us n }/\s.heap.get? b=some { cls:=.type "list",data:=.seq ws n2 } /\
    (∀j (h1:j<us.size) (h2:j<ws.size),EqAt A.in1 s us[j] ws[j] true)/\R (.ok (.ret (.bool false))) s):=by
 induction k with
 |zero =>
  intro i hk prog w A R s h;obtain⟨hp,g,d,tk,os⟩:=s;obtain⟨hl,hb,he,h⟩:=h
  wp_walk using wpAny_loadPart' hl,wpAny_loadPart' hb
  have hi1:us[((i:Nat):Int).toNat]? = none:=by simp;lia
  have hi2:ws[((i:Nat):Int).toNat]? = none:=by simp;lia
  rw[hi1,hi2]
  wp_walk using wpAny_loadPart' hl,wpAny_loadPart' hb
  show R (.ok (.ret (.bool (us.size != ws.size)))) _;rw[hsz];simpa using h
 |succ k ih =>
  intro i hk prog w A R s h;obtain⟨hp,g,d,tk,os⟩:=s;obtain⟨hl,hb,he,h⟩:=h
  wp_walk using wpAny_loadPart' hl,wpAny_loadPart' hb
  have hlt:i<us.size:=by lia
  have hlt2:i<ws.size:=by lia
  have hi1:us[((i:Nat):Int).toNat]? = some us[i]:=by simp[hlt]
  have hi2:ws[((i:Nat):Int).toNat]? = some ws[i]:=by simp[hlt2]
  have hc:((i:Int)+1)=((i+1:Nat):Int):=by lia
  rw[hi1,hi2];refine wpAny_bind (he i hlt hlt2 prog w _ _ ?_)
  wp_walk
  rw[hc];exact⟨plainId_quiet Ii _,codeAny_builtin xq (by
   rw[Around.under_plainId Ii _];exact ih (i+1) (by lia) prog w A R _ ⟨hl,hb,he,h⟩)⟩
def Tw (l b:Addr)(us ws:Array Value)(n n2:Nat)(hsz:us.size=ws.size) :
  Meets (Builtin.«list.__ne__» ⟨[.ref l,.ref b],[]⟩)
   (fun A R s=>s.heap.get? l=some { cls:=.type "list",data:=.seq us n }/\s.heap.get? b=some { cls:=.type "list",data:=.seq ws n2 } /\
    (∀j (h1:j<us.size) (h2:j<ws.size),EqAt A.in1 s us[j] ws[j] true)/\R (.ok (.ret (.bool false))) s):=by
 intro prog w A R s h;obtain⟨hp,g,d,tk,os⟩:=s;obtain⟨hl,hb,he,h⟩:=h;have f3:=AutoSeq1.sub_list_list;have hne:¬(us.size != ws.size)=true:=by simp[hsz]
 wp_walk using wpAny_loadPart' hl,wpAny_loadPart' hb
 exact⟨plainId_quiet Ii _,codeAny_builtin xq (by
  rw[Around.under_plainId Ii _];exact Sw l b us ws n n2 hsz _ 0 rfl prog w A R _ ⟨hl,hb,he,h⟩)⟩
def Uw (l b:Addr)(us ws:Array Value)(n n2:Nat)(hc0:(us.size != ws.size)=true) :
  Meets (Builtin.«list.__ne__» ⟨[.ref l,.ref b],[]⟩)
   (fun _ R s=>s.heap.get? l=some { cls:=.type "list",data:=.seq us n }/\s.heap.get? b=some { cls:=.type "list",data:=.seq ws n2 }/\R (.ok (.ret (.bool true))) s) :=
 .of_wp fun prog w A R s h=>by
  obtain⟨hp,g,d,tk,os⟩:=s;obtain⟨hl,hb,h⟩:=h;have f3:=AutoSeq1.sub_list_list
  wp_walk using wpAny_loadPart' hl,wpAny_loadPart' hb
  exact⟨_,rfl,h⟩
def Inv.plainL(I:Inv X Q0 σ H s)(h:H p=some (.lst xs)) :
  ∃(Z0:List Value)(n:Nat),EB xs Z0/\s.heap.get? p=some { cls:=.type "list",data:=.seq Z0.toArray n }:=by
 obtain⟨_,Z0,n,r,e⟩:=I.hok p _ h;exact⟨Z0,n,r,e⟩
def Ji:OpR X (compareOp .NotEq) (fun x y H Q=>∃a b,x=.ref a/\y=.ref b/\∃xs,H a=some (.lst xs)/\∃ys,H b=some (.lst ys)/\X.A.units<cLine /\
  ((xs.length≠ys.length/\Q (.bl true) H)\/(xs.length=ys.length/\(∃n,(∀(i:Nat) x y,xs[i]? = some x->ys[i]? = some y->EqT H n x y)/\X.A.units+n+1<cLine)/\Q (.bl false) H))):=by
 intro Q0 s σ H x y v u Q I rx ry h;obtain⟨a,b,rfl,rfl,xs,ha,ys,hb,hu,h⟩:=h;cases rx;cases ry;obtain⟨us,n1,ru,eu⟩:=I.plainL ha;obtain⟨ws,n2,rw',ew⟩:=I.plainL hb;have l1:=ru.length;have l2:=rw'.length;rcases h with ⟨hl,q⟩|⟨hl,⟨n,h,hn⟩,q⟩
 ·exact richCompare_meets_room (op:=.NotEq) ⟨_,eu,rfl⟩ ⟨_,ew,rfl⟩ F.slot_list_ne F.entry_list_ne (F.args_list_ne_2 _ _) (Uw a b us.toArray ws.toArray n1 n2 (by simp;lia))
   ⟨eu,ew,(show Value.bool true≠Value.notImplemented/\EP X Q0 σ Q (.bool true) s from⟨(fun z=>nomatch z),(fun _=>⟨.bl true,H,I,rfl,q⟩)⟩)⟩ hu
 exact richCompare_meets_room (op:=.NotEq) ⟨_,eu,rfl⟩ ⟨_,ew,rfl⟩ F.slot_list_ne F.entry_list_ne (F.args_list_ne_2 _ _) (Tw a b us.toArray ws.toArray n1 n2 (by simp;lia))
  ⟨eu,ew,fun j h1 h2=>EqT.items (X:=X) (H:=H) (n:=n) ru rw' hl (fun i x y e1 e2 _ _ q1 q2=>(h i x y e1 e2).at I q1 q2 (by show X.A.units+1+n<cLine;lia)) j h1 h2,(show Value.bool false≠Value.notImplemented/\EP X Q0 σ Q (.bool false) s from⟨(fun z=>nomatch z),(fun _=>⟨.bl false,H,I,rfl,q⟩)⟩)⟩ hu
def rg:OpR X (compareOp .Eq) (fun x y H Q=>∃a b,x=.ref a/\y=.ref b/\∃xs,H a=some (.lst xs)/\∃ys,H b=some (.lst ys)/\X.A.units<cLine /\
  ((xs.length≠ys.length/\Q (.bl false) H)\/(xs.length=ys.length/\(∃n,(∀(i:Nat) x y,xs[i]? = some x->ys[i]? = some y->EqT H n x y)/\X.A.units+n+1<cLine)/\Q (.bl true) H))):=by
 intro Q0 s σ H x y v u Q I rx ry h;obtain⟨a,b,rfl,rfl,xs,ha,ys,hb,hu,h⟩:=h;rcases h with ⟨hl,q⟩|⟨hl,⟨n,h,hn⟩,q⟩;cases rx;cases ry;obtain⟨us,ru,pu,_⟩:=I.list (SqL.of ha);obtain⟨ws,rw',pw,_⟩:=I.list (SqL.of hb);exact SeqAt.eq_list_lengthsAt pu.isList pw.isList (by simp[<-ru.length,<-rw'.length,hl]) hu (fun _=>⟨.bl false,H,I,rfl,q⟩);exact Qw Q0 s σ H _ _ v u Q I rx ry ⟨n,a,b,xs,ys,rfl,rfl,ha,hb,hl,h,hn,q⟩
def Vw:OpR X (compareOp .Eq) (fun x y H Q=>∃n a b,x=.ref a/\y=.ref b/\∃xs,H a=some (.tup xs)/\∃ys,H b=some (.tup ys)/\xs.length=ys.length/\(∀(i:Nat) x y,xs[i]? = some x->ys[i]? = some y->EqT H n x y)/\X.A.units+n+1<cLine/\Q (.bl true) H):=by
 intro Q0 s σ H x y v u Q I rx ry h;obtain⟨n,a,b,rfl,rfl,xs,ha,ys,hb,hl,h,hu,q⟩:=h;cases rx;cases ry;obtain⟨us,ru,pu,_⟩:=I.tuple (SqT.of ha);obtain⟨ws,rw',pw,_⟩:=I.tuple (SqT.of hb);refine SeqAt.eq_tupleAt (e:=fun _=>true) (show s.heap.IsTuple a us.toArray from pu) (show s.heap.IsTuple b ws.toArray from pw) (by lia) (fun j h1 h2=>EqT.items (X:=X) (H:=H) (n:=n) ru rw' hl (fun i x y e1 e2 _ _ q1 q2=>(h i x y e1 e2).at I q1 q2 (by show X.A.units+1+n<cLine;lia)) j h1 h2) ?_;have e:us.toArray.size=ws.toArray.size:=by simp[<-ru.length,<-rw'.length,hl]
 rw[Gi,e,beq_self_eq_true,Bool.true_and];exact(fun _=>⟨.bl true,H,I,rfl,q⟩)
def ph:OpR X (compareOp .In) (fun x y H Q=>∃p,y=.ref p/\∃xs,H p=some (.tup xs)/\Lb x=true/\xs.all Lb=true/\Q (.bl (inV x xs)) H):=fun Q0 s σ H x y v u Q I rx ry h =>
 Yp Q0 s σ H x y v u Q I rx ry (by obtain⟨p,e,xs,e2,h1,h2,q⟩:=h;exact⟨p,xs,e,.inr (SqT.of e2),h1,h2,q⟩)
def Ww:OpR X (compareOp .In) (fun x y H Q=>∃p,y=.ref p/\∃xs,H p=some (.lst xs)/\Lb x=true/\xs.all Lb=true/\Q (.bl (inV x xs)) H):=fun Q0 s σ H x y v u Q I rx ry h =>
 Yp Q0 s σ H x y v u Q I rx ry (by obtain⟨p,e,xs,e2,h1,h2,q⟩:=h;exact⟨p,xs,e,.inl (SqL.of e2),h1,h2,q⟩)
def wf:OpR X (compareOp .NotIn) (fun x y H Q=>∃p,y=.ref p/\∃xs,H p=some (.lst xs)/\Lb x=true/\xs.all Lb=true/\Q (.bl (!inV x xs)) H):=fun Q0 s σ H x y v u Q I rx ry h =>
 vw Q0 s σ H x y v u Q I rx ry (by obtain⟨p,e,xs,e2,h1,h2,q⟩:=h;exact⟨p,xs,e,.inl (SqL.of e2),h1,h2,q⟩)
def yq (k:Str)(ks:List Str):inV (.str k) (ks.map V.str)=decide (k∈ks):=by
 unfold inV;induction ks with
 |nil=>simp
 |cons a r ih =>
  rw[map_cons,any_cons,ih,Bool.eq_iff_iff];show((a == k)||decide (k∈r))=true↔_;simp[@eq_comm _ a k]
def Aq (ks:List Str):(ks.map V.str).all Lb=true:=by
 induction ks with
 |nil=>rfl
 |cons a r ih=>rw[map_cons,all_cons,ih];rfl
def Bq (k:Int)(ks:List Int):inV (.int k) (ks.map V.int)=decide (k∈ks):=by
 unfold inV;induction ks with
 |nil=>simp
 |cons a r ih =>
  rw[map_cons,any_cons,ih,Bool.eq_iff_iff];show((a == k)||decide (k∈r))=true↔_;simp[@eq_comm _ a k]
def Cq (ks:List Int):(ks.map V.int).all Lb=true:=by
 induction ks with
 |nil=>rfl
 |cons a r ih=>rw[map_cons,all_cons,ih];rfl
def Dq{bs:List Bool}(r:EB (bs.map V.bl) Z0):TruthOf prog w A (fun i v=>Z0.toArray[i]? = some v) (fun i=>bs.getD i false):=by
 intro i v s Q E hP hq;have e:Z0[i]? = some v:=by simpa using hP
 have hi:i<bs.length:=by
  have:=(List.getElem?_eq_some_iff.mp e).1;have:=r.length;simp at this
  lia
 obtain⟨u,eu,ru⟩:=r.get (i:=i) (x:=.bl bs[i]) (by simp[hi]);rw[e]at eu;cases eu;cases(show v=Value.bool bs[i] from ru);refine wpAny_truthy_bool ?_;simpa[hi] using hq
end
section
open PySem.SeqAt
open AutoSeq1 (wpAny_loadPart')
variable {X:Cx}
def Xw (bs:List Bool)(n:Nat)(h:n=bs.length):(range n).all (fun i=>bs.getD i false)=bs.all id:=by
 subst h;induction bs with
 |nil=>rfl
 |cons b r ih =>
  rw[length_cons,List.range_succ_eq_map,all_cons,List.all_map,all_cons];congr 1
def Yw (bs:List Bool)(n:Nat)(h:n=bs.length):(range n).any (fun i=>bs.getD i false)=bs.any id:=by
 subst h;induction bs with
 |nil=>rfl
 |cons b r ih =>
  rw[length_cons,List.range_succ_eq_map,any_cons,List.any_map,any_cons];congr 1
def Zw (hc:X.calm=true):yc X (.builtin "all") (fun xs H Q=>∃p,xs=[.ref p]/\∃bs:List Bool,H p=some (.lst (bs.map V.bl))/\Q (.bl (bs.all id)) H):=by intro Q0 s σ H xs us Q I r h;obtain⟨p,rfl,bs,hp,q⟩:=h;obtain⟨u,rfl,ru⟩:=Jc r;cases ru;obtain⟨Z0,rv,pl,hz⟩:=I.list (SqL.of hp);obtain⟨ol,hol,_⟩:=id pl.isList;have hlt:=lt_size hol;refine call_all_walk (wpAny_pyIter_list pl.isList ⟨s.heap.objs.size,_,_,_,_,_,_,rfl,Walks.list (A:=X.A.in1) (I.ok.hd hc) s.heap.objs.size p (ne_of_lt hlt) Z0.toArray,⟨⟨_,get?_push_size _ rfl,rfl,rfl⟩,pl.isList.push _⟩,Dq rv,fun h' tk hk=>?_⟩);rw[Xw bs _ (by have:=rv.length;simp at this;simp[this])];have hk':∀b o,s.heap.get? b=some o->h'.get? b=some o:=fun b o e=>hk b o (by simpa using ne_of_lt (lt_size e)) (get?_push_of_some _ e);exact(fun _=>⟨.bl (bs.all id),H,I.kept hk',rfl,q⟩)
def ax (hc:X.calm=true):yc X (.builtin "any") (fun xs H Q=>∃p,xs=[.ref p]/\∃bs:List Bool,H p=some (.lst (bs.map V.bl))/\Q (.bl (bs.any id)) H):=by intro Q0 s σ H xs us Q I r h;obtain⟨p,rfl,bs,hp,q⟩:=h;obtain⟨u,rfl,ru⟩:=Jc r;cases ru;obtain⟨Z0,rv,pl,hz⟩:=I.list (SqL.of hp);obtain⟨ol,hol,_⟩:=id pl.isList;have hlt:=lt_size hol;refine call_any_walk (wpAny_pyIter_list pl.isList ⟨s.heap.objs.size,_,_,_,_,_,_,rfl,Walks.list (A:=X.A.in1) (I.ok.hd hc) s.heap.objs.size p (ne_of_lt hlt) Z0.toArray,⟨⟨_,get?_push_size _ rfl,rfl,rfl⟩,pl.isList.push _⟩,Dq rv,fun h' tk hk=>?_⟩);rw[Yw bs _ (by have:=rv.length;simp at this;simp[this])];have hk':∀b o,s.heap.get? b=some o->h'.get? b=some o:=fun b o e=>hk b o (by simpa using ne_of_lt (lt_size e)) (get?_push_of_some _ e);exact(fun _=>⟨.bl (bs.any id),H,I.kept hk',rfl,q⟩)
def NB.s {H:Hp}{a:Addr}{Y0:List (Key×V)}{k:Str}{v:V}(e:H a=some (.dK Y0))(h:iB Y0 (Sum.inr k)=some v):NB H a (.str k) (some v):=by rw[<-h];exact NB.k (k:=Sum.inr k) e
def NB.o {H:Hp}{a:Addr}{Y0:List (Key×V)}{k:Str}(e:H a=some (.dK Y0)):NB H a (.str k) (iB Y0 (Sum.inr k)):=NB.k (k:=Sum.inr k) e
def HC.s {H:Hp}{a:Addr}{Y0:List (Key×V)}{k:Str}{v:V}(e:H a=some (.dK Y0))(hl:Y0.length<sizeLine):HC H a (.str k) v (upd H a (.dK (rB Y0 (Sum.inr k) v))):=HC.k (k:=Sum.inr k) e hl
def bx:V->List V->Hp->VK->Prop:=fun x vs H Q=>∃l,x=.ref l/\∃k,vs=[.str k]/\∃ks:List Str,H l=some (.lst (ks.map V.str))/\∃j:Nat,ks[j]? = some k/\(∀m,m<j->ks[m]? ≠ some k)/\Q (.int j) H
def cx:MtM X "list.index" bx:=by
 intro Q0 s σ H x vs v us Q I rx rv h;obtain⟨l,rfl,k,rfl,ks,hH,j,hj,hno,q⟩:=h;cases rx;obtain⟨u,rfl,tk,rfl⟩:=rv.one;obtain⟨z,Z0,n,r,hl,e⟩:=I.lstM hH;have hjl:j<ks.length:=(List.getElem?_eq_some_iff.mp hj).1;have hl':ks.length=Z0.length:=by simpa using hl
 have h24:=Oa;have hz:ks.length<=sizeLine:=by simpa using z
 have at_:∀m (hm:m<Z0.toArray.size),∃t,Z0.toArray[m]=.str (ks[m]'(by simp at hm;lia)) t:=fun m hm=>by
  have hm':m<ks.length:=by simp at hm;lia
  obtain⟨w',e1,q1⟩:=r.get (i:=m) (x:=.str ks[m]) (by simp[hm']);have:Z0[m]? = some (Z0.toArray[m]):=by simp at hm;simp[hm]
  rw[this]at e1;cases e1;exact q1
 refine call_meets F.slot_list_index ⟨_,e,rfl⟩ F.entry_list_index (F.args_list_index_2 _ _) (SeqAt.list_indexAt l Z0.toArray n none #[] (.str k tk) (fun v=>match v with | .str y _=>y == k|_=>false) j (by simp;lia) (by lia) ?_ ?_) ⟨e,?_,?_⟩
 ·obtain⟨t,e1⟩:=at_ j (by simp;lia);rw[e1];have:ks[j]=k:=by rw[getElem?_eq_getElem hjl]at hj;exact Option.some.inj hj
  simp[this]
 ·intro m hm hmj;obtain⟨t,e1⟩:=at_ m hm;rw[e1];have hm':m<ks.length:=by lia
  have:=hno m hmj;rw[getElem?_eq_getElem hm']at this;simp only;exact beq_eq_false_iff_ne.mpr fun z=>this (by rw[z])
 intro y hy;obtain⟨m,hm,rfl⟩:=Array.mem_iff_getElem.mp hy;obtain⟨t,e1⟩:=at_ m hm;rw[e1];exact SeqAt.EqAt.str_str _ _ _ _;exact(fun _=>⟨.int j,H,I.tok _,⟨_,rfl⟩,q⟩)
noncomputable def Itv (a:Addr) (n:Nat):It:=⟨fun i H=>∃xs x,H a=some (.lst xs)/\i<n/\xs[n - 1 - i]? = some x,fun i H x H'=>H' = H/\∀xs,H a=some (.lst xs)->xs[n - 1 - i]? = some x,fun i _=>i=n⟩
def jx {P:Program}{w:World}{K:W.Frag}{tg:Expr}(a it:Addr)(n:Nat):TC P w K tg (Itv a n) [it] it (fun i h=>i<=n/\h.IsRevIter it a ((n:Int) - 1 - (i:Int))) where
 mem:=by simp
 obj:=fun i h st b hb=>by
  have e:b=it:=by simpa using hb
  subst e;obtain⟨o,e,c,d⟩:=st.2;exact⟨o,e,fun v z=>by rw[d]at z;cases z⟩
 keep:=fun i h h' st k=>⟨st.1,st.2.at fun o e=>k it (by simp) o e⟩
 item:=by
  intro X hP hw hK hc i Q0 s σ H E I hf st hg;subst hP hw hK;obtain⟨xs,x,hq,hi,hx⟩:=hg;obtain⟨Z0,rv,p,hz⟩:=I.list (SqL.of hq);obtain⟨u,hu,ru⟩:=rv.get hx;obtain⟨f0,f1,f2,f3,f4,f5⟩:=hf it (by simp);have e:((n:Int) - 1 - (i:Int))=((n - 1 - i:Nat):Int):=by lia
  have st2:=st.2;rw[e]at st2;refine wpAny_pyNext_rev_item st2 p.isList (x:=u) (by simpa using hu) fun h' st' sb=>?_;have I1:Inv X Q0 σ H { s with heap:=h' }:=I.turned (t':=s.toks) (fun b o hb e=>(sb.2 b hb).trans e) f0 f1 f3 f4 f5;have e2:(((n - 1 - i:Nat):Int) - 1)=((n:Int) - 1 - ((i+1:Nat):Int)):=by lia
  rw[e2]at st';obtain⟨o,e,c,d⟩:=id st';exact(fun _=>⟨u,rfl,xk (s:={ s with heap:=h' }) e c d (by decide) (fun _=>⟨x,H,I1,ru,⟨rfl,fun ys hy=>by rw[hq]at hy;cases hy;exact hx⟩,⟨hi,st'⟩,fun b hb=>(hf b hb).1⟩)⟩)
 done:=by
  intro X hP hw hK hc i Q0 s σ H E I hf st hg;subst hP hw hK;have hg':i=n:=hg;subst hg';obtain⟨f0,f1,f2,f3,f4,f5⟩:=hf it (by simp);have st2:=st.2;rw[show((i:Int) - 1 - (i:Int)) = -1 by lia]at st2;exact wpAny_pyNext_rev_end (I.ok.hd hc) st2 fun h' eb=>(fun _=>⟨rfl,I.turned (t':=s.toks) (fun b o hb e=>eb b o hb e) f0 f1 f3 f4 f5⟩)
 self:=fun _ _ _ _ _ st h=>wpAny_pyIter_revIter st.2 h
def iRev (tl:TE):TI:=fun σ H R=>tl σ H fun x H1=>∃a,x=.ref a/\∃xs,H1 a=some (.lst xs)/\R (Itv a xs.length) H1
def Fq(hgR:Gl X "reversed")(hmR:X.mg "reversed" = none)(hl:PE X l tl)(hs2:starEach [l] X.env=[(false,eval l X.env)]:=by rfl):PI X tg (.Call (.Name "reversed" p2) [l] [] p3) (iRev tl):=by
 intro Q0 s σ H R I h;refine wpAny_Call_Name_kw (Od I hgR hmR boot_reversed ?_);refine PyProof.Rows.callWith_type1 ?_ hs2 rfl;rw[hs2];show wpAny _ _ (spliced ((false,eval l X.env)::[])) _ _ s;refine Calls.spliced_cons (thn (hl Q0 s σ H _ I h) fun v s1 ⟨x,H1,I1,r1,q1⟩=>Calls.spliced_nil ?_);obtain⟨a,rfl,xs,hq,q⟩:=q1;cases r1;obtain⟨Z0,rv,pl,hz⟩:=I1.list (SqL.of hq);have hlen:=rv.length;refine call_reversed_list pl.isList ?_;have hn:((Z0.toArray.size:Nat):Int) - 1=((xs.length:Nat):Int) - 1 - ((0:Nat):Int):=by simp[hlen]
 rw[hn];have hit:(s1.heap.push (revObj a ((xs.length:Int) - 1 - ((0:Nat):Int)))).IsRevIter s1.heap.objs.size a ((xs.length:Int) - 1 - ((0:Nat):Int)):=⟨_,get?_push_size _ rfl,rfl,rfl⟩;refine wpAny_pyIter_revIter hit ?_;refine⟨s1.heap.objs.size,[s1.heap.objs.size],_,_,H1,rfl,I1.kept (t':=s1.toks) fun b o e=>get?_push_of_some _ e,jx a _ xs.length,⟨zero_le _,hit⟩,fun b hb=>?_,q⟩;have e:b=s1.heap.objs.size:=by simpa using hb
 subst e;exact I1.fpOk (le_refl _) I1.fresh
def Inv.turnsLaid{ch:List Addr}(I:Inv X Q0 σ H s)(k:∀b u,b∉ch->s.heap.get? b=some u->h'.get? b=some u)(f:∀b∈ch,EC X Q0 H b)(hp:s.heap.objs.size<=a)
  (new:HB X.prog X.w (upd H a o) h' a o)(hk:tk0<=t':=by walk_at "p"):Inv X Q0 σ (upd H a o) { s with heap:=h',toks:=t' }:=by
 have hn:H a=none:=I.hok.fresh hp;have ne:∀b u,s.heap.get? b=some u->b≠a:=fun b u e=>ne_of_lt (lt_of_lt_of_le (lt_size e) hp);have nch:∀b u,H b=some u->b∉ch:=fun b u e z=>by rw[(f b z).1]at e;cases e
 refine I.step (g':=s.gens) (d':=s.drawn) (ch:=ch) (fun b hb=>?_) (fun b u _ _ hc e _=>k b u hc e) (fun b u _ _ hc e _=>⟨u.slots,k b u hc e⟩) (fun b u _ e n=>by rw[ya (ne b u e)];exact n)
  (fun b u hc e=>⟨u,k b u hc e⟩) (fun b xs e=>by rw[ya (Sa e hn)];exact e) (fun b u v e=>by rw[ya (Sa e hn)];exact e) (fun b e=>by rw[ya (Sa e hn)];exact e) (fun m hm=>?_) (fun b u e=>?_) I.bare
 obtain⟨_,f1,_,f3,f4,f5⟩:=f b hb;exact⟨f3,f1,f4,f5⟩;obtain⟨o',es,ep,ho,r⟩:=hm;exact⟨o',es,ep,k _ o' (fun z=>(f _ z).2.1 rfl) ho,r⟩;by_cases hb:b=a;subst hb;rw[z0g]at e;cases e;exact new;rw[ya hb]at e;refine(I.hok b u e).stay (fun c v hc q=>k c v ?_ q) (fun c q=>by rw[ya (Sa q hn)];exact q) fun c xs q=>by rw[ya (Sa q hn)];exact q
 rcases hc with z|z;rw[z];exact nch b u e;exact nch c _ z
def Inv.turneds{ch:List Addr}(I:Inv X Q0 σ H s)(k:∀b u,b∉ch->s.heap.get? b=some u->h'.get? b=some u)(f:∀b∈ch,EC X Q0 H b)(hk:tk0<=t':=by walk_at "p"):Inv X Q0 σ H { s with heap:=h',toks:=t' }:=by
 have nch:∀b u,H b=some u->b∉ch:=fun b u e z=>by rw[(f b z).1]at e;cases e
 refine I.step (g':=s.gens) (d':=s.drawn) (ch:=ch) (fun b hb=>?_) (fun b u _ _ hc e _=>k b u hc e) (fun b u _ _ hc e _=>⟨u.slots,k b u hc e⟩) (fun b u _ _ n=>n)
  (fun b u hc e=>⟨u,k b u hc e⟩) (fun b xs e=>e) (fun b u v e=>e) (fun b e=>e) (fun m hm=>?_) (fun b u e=>?_) I.bare
 obtain⟨_,f1,_,f3,f4,f5⟩:=f b hb;exact⟨f3,f1,f4,f5⟩;obtain⟨o',es,ep,ho,r⟩:=hm;exact⟨o',es,ep,k _ o' (fun z=>(f _ z).2.1 rfl) ho,r⟩;refine(I.hok b u e).stay (fun c v hc q=>k c v ?_ q) (fun c q=>q) fun c xs q=>q;rcases hc with z|z;rw[z];exact nch b u e;exact nch c _ z
def kx {n a b:Nat}(la:a<n)(lb:b<n):ZipApart (n+4) (n+2) (n+3) n (n+1) a b:=by constructor<;>(show(_:Nat)≠_;lia)
noncomputable def Itz (a b:Addr):It :=
 ⟨fun i H=>∃xs ys x y,H a=some (.lst xs)/\H b=some (.lst ys)/\xs[i]? = some x/\ys[i]? = some y,
 fun i H v H'=>∃t,v=.ref t/\H t=none/\∀xs ys,H a=some (.lst xs)->H b=some (.lst ys)->∃x y,xs[i]? = some x/\ys[i]? = some y/\H' = upd H t (.tup [x,y]),
 fun i H=>∃xs ys,H a=some (.lst xs)/\H b=some (.lst ys)/\(xs[i]? = none\/ys[i]? = none)⟩
def lx {P:Program}{w:World}{K:W.Frag}{elts:List Expr}{x1:Nat}{pos:Pos}{l1 l2 z TI TO i1 i2:Addr}(D:ZipApart z TI TO i1 i2 l1 l2)(nd:z≠TO) :
  TC P w K (.Tuple elts x1 pos) (Itz l1 l2) [z,TI,TO,i1,i2] z (fun i h=>IsZip h z TI TO .none/\IsPair h TI (.ref i1) (.ref i2)/\(∃a b,IsPair h TO a b)/\h.IsListIter i1 l1 i/\h.IsListIter i2 l2 i) where
 mem:=by simp
 obj:=fun i h st b hb=>by
  obtain⟨h1,h2,⟨c,d,h3⟩,⟨o4,e4,c4,d4⟩,⟨o5,e5,c5,d5⟩⟩:=st;simp only[mem_cons,not_mem_nil,or_false]at hb;rcases hb with rfl|rfl|rfl|rfl|rfl;exact⟨_,h1,fun v z=>by cases z⟩;exact⟨_,h2,fun v z=>by cases z⟩;exact⟨_,h3,fun v z=>by cases z⟩;exact⟨_,e4,fun v z=>by rw[d4]at z;cases z⟩;exact⟨_,e5,fun v z=>by rw[d5]at z;cases z⟩
 keep:=fun i h h' ⟨h1,h2,⟨c,d,h3⟩,h4,h5⟩ k=>⟨k z (by simp) _ h1,k TI (by simp) _ h2,⟨c,d,k TO (by simp) _ h3⟩,h4.at fun o e=>k i1 (by simp) o e,h5.at fun o e=>k i2 (by simp) o e⟩
 item:=by
  intro X hP hw hK hc i Q0 s σ H E I hf st hg;subst hP hw hK;obtain⟨h1,h2,⟨c,d,h3⟩,h4,h5⟩:=st;obtain⟨xs,ys,x,y,ha,hb,hx,hy⟩:=hg;obtain⟨us,ru,pu,_⟩:=I.list (SqL.of ha);obtain⟨ws,rw',pw,_⟩:=I.list (SqL.of hb);obtain⟨ux,ex,rx⟩:=ru.get hx;obtain⟨uy,ey,ry⟩:=rw'.get hy;refine wpAny_pyNext_zip_item D h1 h2 h3 h4 h5 pu.isList pw.isList (x:=ux) (y:=uy) (by simpa using ex) (by simpa using ey) fun h' a1 a2 a3 a4 a5 a6 a7=>?_;have I1:Inv X Q0 σ (upd H s.heap.objs.size (.tup [x,y])) { s with heap:=h' }:=I.turnsLaid (t':=s.toks) (ch:=[z,TO,i1,i2]) (fun b u hb e=>a7 b u (fun q=>hb (by simp[q])) (fun q=>hb (by simp[q])) (fun q=>hb (by simp[q])) (fun q=>hb (by simp[q])) e)
   (fun b hb=>hf b (by simp at hb;rcases hb with h|h|h|h<;>simp[h])) (le_refl _) (show HB X.prog X.w _ h' _ (.tup [x,y]) from⟨by show 2<=sizeLine;decide,[ux,uy],.cons rx (.cons ry .nil),⟨_,a5,rfl,_,rfl⟩⟩)
  have hfr:=I.fresh;have old:∀b∈[z,TI,TO,i1,i2],upd H s.heap.objs.size (.tup [x,y]) b=none:=fun b hb=>by
   rw[upd_none];refine⟨fun e=>?_,(hf b hb).1⟩;have ob:∃o,s.heap.get? b=some o:=by
    obtain⟨o4,e4,_⟩:=h4;obtain⟨o5,e5,_⟩:=h5;simp only[mem_cons,not_mem_nil,or_false]at hb;rcases hb with rfl|rfl|rfl|rfl|rfl;exact⟨_,h1⟩;exact⟨_,h2⟩;exact⟨_,h3⟩;exact⟨_,e4⟩;exact⟨_,e5⟩
   obtain⟨o,eo⟩:=ob;exact absurd (lt_size eo) (by rw[e];exact lt_irrefl _)
  refine(fun _=>⟨_,rfl,wpAny_letOwnedTupleGo_zip (s:={ s with heap:=h' }) a1 fun h2' b1 b2=>?_⟩);obtain⟨_,f1,f2,f3,f4,f5⟩:=hf z (by simp);have I2:Inv X Q0 σ (upd H s.heap.objs.size (.tup [x,y])) { s with heap:=h2' }:=I1.turned (t':=s.toks) (fun b o hb e=>(b2.2 b hb).trans e) (old z (by simp)) f1 f3 f4 f5;refine(fun _=>⟨.ref s.heap.objs.size,_,I2,rfl,⟨_,rfl,hfr,fun xs' ys' q1 q2=>?_⟩,⟨b1,?_,⟨ux,uy,?_⟩,a3.at fun o e=>(b2.2 i1 D.i1z).trans e,a4.at fun o e=>(b2.2 i2 D.i2z).trans e⟩,old⟩);rw[ha]at q1;cases q1;rw[hb]at q2;cases q2;exact⟨x,y,hx,hy,rfl⟩;exact(b2.2 TI D.TIz).trans (a7 TI _ D.TIz D.TITO D.TIi1 D.TIi2 h2);exact(b2.2 TO D.TOz).trans a2
 done:=by
  intro X hP hw hK hc i Q0 s σ H E I hf st hg;subst hP hw hK;obtain⟨h1,h2,⟨c,d,h3⟩,h4,h5⟩:=st;obtain⟨xs,ys,ha,hb,hend⟩:=hg;obtain⟨us,ru,pu,_⟩:=I.list (SqL.of ha);obtain⟨ws,rw',pw,_⟩:=I.list (SqL.of hb);refine wpAny_pyNext_zip_end (I.ok.hd hc) D h1 h2 h3 h4 h5 pu.isList pw.isList ?_ fun h' hk=>(fun _=>⟨rfl,I.turneds (t':=s.toks) (ch:=[z,TO,i1,i2]) (fun b u hb e=>hk b u (fun q=>hb (by simp[q])) (fun q=>hb (by simp[q])) (fun q=>hb (by simp[q])) (fun q=>hb (by simp[q])) e) (fun b hb=>hf b (by simp at hb;rcases hb with h|h|h|h<;>simp[h]))⟩);rcases hend with e|e;exact .inl (by simpa using EB.none_of ru e);exact .inr (by simpa using EB.none_of rw' e)
 self:=fun _ _ _ _ _ st h=>wpAny_pyIter_zip st.1 h
def iZip (ta:TA):TI:=fun σ H R=>ta σ H fun vs H1=>∃a b,vs=[.ref a,.ref b]/\∃xs,H1 a=some (.lst xs)/\∃ys,H1 b=some (.lst ys)/\R (Itz a b) H1
def mx(hg:Gl X "zip")(hm:X.mg "zip" = none)(ha:PA X [e1,e2] ta)(hs:starEach [e1,e2] X.env=(false,eval e1 X.env)::starEach [e2] X.env:=by rfl)(K0:(backTo pos (starEach [e2] X.env)).any (·.1)=false:=by rfl) :
  PI X (.Tuple elts x1 pt) (.Call (.Name "zip" p) [e1,e2] [] pos) (iZip ta):=by
 intro Q0 s σ H R I h;refine wpAny_Call_Name_kw (Od I hg hm boot_zip ?_);refine PyProof.Rows.callWith_type1 (thn (ha pos Q0 s σ H _ I h) fun us s1 ⟨vs,H1,I1,r1,q1⟩=>?_) hs K0;obtain⟨a,b,rfl,xs,hA,ys,hB,q⟩:=q1;obtain⟨u,w',rfl,ru,rw'⟩:=yi r1;cases ru;cases rw';obtain⟨us,ru,pu,_⟩:=I1.list (SqL.of hA);obtain⟨ws,rw',pw,_⟩:=I1.list (SqL.of hB);obtain⟨oa,ea,_⟩:=id pu.isList;obtain⟨ob,eb,_⟩:=id pw.isList;have la:=lt_size ea;have lb:=lt_size eb;refine call_zip_2 pu.isList pw.isList fun h' z1 z2 z3 z4 z5 z6 z7=>wpAny_pyIter_zip z1 ?_;have D:ZipApart (s1.heap.objs.size+4) (s1.heap.objs.size+2) (s1.heap.objs.size+3) s1.heap.objs.size (s1.heap.objs.size+1) a b:=kx la lb;refine⟨s1.heap.objs.size+4,_,_,_,H1,rfl,I1.kept (t':=s1.toks) z7,lx D (by show(_:Nat)≠_;lia),⟨z1,z2,⟨_,_,z3⟩,z4,z5⟩,fun c hc=>?_,q⟩;have hge:s1.heap.objs.size<=c:=by
  simp only[mem_cons,not_mem_nil,or_false]at hc;rcases hc with rfl|rfl|rfl|rfl|rfl;exact le_add_right _ _;exact le_add_right _ _;exact le_add_right _ _;exact le_refl _;exact le_add_right _ _
 exact I1.fpOk hge (I1.hok.fresh hge)
end
end L2
namespace VL
open PySem L2
inductive D where
 |non|bl (b:Bool)|int (i:Int)|str (x:Str)|ty (n:String)
 |lst (xs:List D)|tup (xs:List D)|dct (Y0:List (Key×D))
mutual
def Rep (F:Hp):D->V->Prop
 |.non,v=>v=.non
 |.bl b,v=>v=.bl b
 |.int i,v=>v=.int i
 |.str x,v=>v=.str x
 |.ty n,v=>v=.ty n
 |.lst ds,v=>∃a vs,v=.ref a/\F a=some (.lst vs)/\DB F ds vs
 |.tup ds,v=>∃a vs,v=.ref a/\F a=some (.tup vs)/\DB F ds vs
 |.dct N0,v=>∃a Y0,v=.ref a/\F a=some (.dK Y0)/\JB F N0 Y0
def DB (F:Hp):List D->List V->Prop
 | [],vs=>vs=[]
 |d::ds,vs=>∃v r,vs=v::r/\Rep F d v/\DB F ds r
def JB (F:Hp):List (Key×D)->List (Key×V)->Prop
 | [],vs=>vs=[]
 |p::ds,vs=>∃v r,vs=v::r/\WC F p v/\JB F ds r
def WC (F:Hp):Key×D->Key×V->Prop
 |(k,d),q=>q.1=k/\Rep F d q.2
end
mutual
theorem Rep.mono {F F':Hp}(s:BB F F'):∀(d:D)(v:V),Rep F d v->Rep F' d v
 |.non,v,h=>h
 |.bl b,v,h=>h
 |.int i,v,h=>h
 |.str x,v,h=>h
 |.ty n,v,h=>h
 |.lst ds,v,h=>by obtain⟨a,vs,e,h1,h2⟩:=h;exact⟨a,vs,e,s _ _ h1,DB.mono s ds vs h2⟩
 |.tup ds,v,h=>by obtain⟨a,vs,e,h1,h2⟩:=h;exact⟨a,vs,e,s _ _ h1,DB.mono s ds vs h2⟩
 |.dct N0,v,h=>by obtain⟨a,vs,e,h1,h2⟩:=h;exact⟨a,vs,e,s _ _ h1,JB.mono s N0 vs h2⟩
theorem DB.mono {F F':Hp}(s:BB F F'):∀(ds:List D)(vs:List V),DB F ds vs->DB F' ds vs
 | [],vs,h=>h
 |d::ds,vs,h=>by obtain⟨v,r,e,h1,h2⟩:=h;exact⟨v,r,e,Rep.mono s d v h1,DB.mono s ds r h2⟩
theorem JB.mono {F F':Hp}(s:BB F F'):∀(ds:List (Key×D))(vs:List (Key×V)),JB F ds vs->JB F' ds vs
 | [],vs,h=>h
 |p::ds,vs,h=>by obtain⟨v,r,e,h1,h2⟩:=h;exact⟨v,r,e,WC.mono s p v h1,JB.mono s ds r h2⟩
theorem WC.mono {F F':Hp}(s:BB F F'):∀(p:Key×D)(q:Key×V),WC F p q->WC F' p q
 |(k,d),q,h=>⟨h.1,Rep.mono s d q.2 h.2⟩
end
theorem DB.len:∀{ds:List D}{vs:List V},DB F ds vs->ds.length=vs.length
 | [],vs,h=>by cases(show vs=[] from h);rfl
 |d::ds,vs,h=>by obtain⟨v,r,rfl,h1,h2⟩:=h;simp[DB.len h2]
theorem DB.get:∀{ds:List D}{vs:List V}{i:Nat}{d:D},DB F ds vs->ds[i]? = some d->∃v,vs[i]? = some v/\Rep F d v
 | [],vs,i,d,h,e=>by simp at e
 |d::ds,vs,0,d',h,e=>by obtain⟨v,r,rfl,h1,h2⟩:=h;simp at e;subst e;exact⟨v,rfl,h1⟩
 |d::ds,vs,i+1,d',h,e=>by obtain⟨v,r,rfl,h1,h2⟩:=h;simpa using DB.get h2 (by simpa using e)
theorem DB.get':∀{ds:List D}{vs:List V}{i:Nat}{v:V},DB F ds vs->vs[i]? = some v->∃d,ds[i]? = some d/\Rep F d v
 | [],vs,i,d,h,e=>by cases(show vs=[] from h);simp at e
 |d::ds,vs,0,d',h,e=>by obtain⟨v,r,rfl,h1,h2⟩:=h;simp at e;subst e;exact⟨d,rfl,h1⟩
 |d::ds,vs,i+1,d',h,e=>by obtain⟨v,r,rfl,h1,h2⟩:=h;simpa using DB.get' h2 (by simpa using e)
theorem DB.app:∀{ds es:List D}{vs us:List V},DB F ds vs->DB F es us->DB F (ds++es) (vs++us)
 | [],es,vs,us,h,h'=>by cases(show vs=[] from h);exact h'
 |d::ds,es,vs,us,h,h'=>by obtain⟨v,r,rfl,h1,h2⟩:=h;exact⟨v,r++us,rfl,h1,DB.app h2 h'⟩
def DB.one(h:Rep F d v):DB F [d] [v]:=⟨v,[],rfl,h,rfl⟩
theorem DB.take:∀{ds:List D}{vs:List V}(n:Nat),DB F ds vs->DB F (ds.take n) (vs.take n)
 |_,_,0,_=>by rw[take_zero,take_zero];rfl
 | [],vs,n+1,h=>by cases(show vs=[] from h);rfl
 |d::ds,vs,n+1,h=>by obtain⟨v,r,rfl,h1,h2⟩:=h;exact⟨v,r.take n,rfl,h1,DB.take n h2⟩
theorem DB.drop:∀{ds:List D}{vs:List V}(n:Nat),DB F ds vs->DB F (ds.drop n) (vs.drop n)
 |_,_,0,h=>h
 | [],vs,n+1,h=>by cases(show vs=[] from h);rfl
 |d::ds,vs,n+1,h=>by obtain⟨v,r,rfl,h1,h2⟩:=h;exact DB.drop n h2
theorem DB.set(h:Rep F d v):∀{ds:List D}{vs:List V}(n:Nat),DB F ds vs->DB F (ds.set n d) (vs.set n v)
 | [],vs,n,h=>by cases(show vs=[] from h);rfl
 |d::ds,vs,0,h=>by obtain⟨v',r,rfl,h1,h2⟩:=h;exact⟨_,r,rfl,by assumption,h2⟩
 |d::ds,vs,n+1,h=>by obtain⟨v',r,rfl,h1,h2⟩:=h;exact⟨v',r.set n v,rfl,h1,DB.set (by assumption) n h2⟩
theorem DB.rev:∀{ds:List D}{vs:List V},DB F ds vs->DB F ds.reverse vs.reverse
 | [],vs,h=>by cases(show vs=[] from h);rfl
 |d::ds,vs,h=>by
  obtain⟨v',r,rfl,h1,h2⟩:=h;rw[reverse_cons,reverse_cons];exact(DB.rev h2).app (.one h1)
def DB.dropLast(h:DB F ds vs):DB F ds.dropLast vs.dropLast:=by rw[List.dropLast_eq_take,List.dropLast_eq_take,h.len];exact h.take _
inductive Slot where
 |no
 |fz (d:D)
 |ob (io:Bool)(c:D)
 |sc (K:W.Frag)(ns:List Int)
def AC (F H:Hp)(a:Addr):D->Prop
 |.lst ds=>∃vs,H a=some (.lst vs)/\DB F ds vs
 |.dct N0=>∃Y0,H a=some (.dK Y0)/\JB F N0 Y0
 |_=>False
def AC.mono(s:BB F F')(e:∀o,H a=some o->H' a=some o)(h:AC F H a c):AC F' H' a c:=by
 cases c with
 |lst ds=>obtain⟨vs,h1,h2⟩:=h;exact⟨vs,e _ h1,DB.mono s _ _ h2⟩
 |dct ds=>obtain⟨vs,h1,h2⟩:=h;exact⟨vs,e _ h1,JB.mono s _ _ h2⟩
 |_=>exact h.elim
theorem AC.some(h:AC F H a c):∃o,H a=some o:=by
 cases c with
 |lst ds=>obtain⟨vs,h1,h2⟩:=h;exact⟨_,h1⟩
 |dct ds=>obtain⟨vs,h1,h2⟩:=h;exact⟨_,h1⟩
 |_=>exact h.elim
def AC.rep(h:AC F H a c)(hf:F a=none):∃o,H a=Option.some o/\Rep (upd F a o) c (.ref a):=by
 have s:∀o,BB F (upd F a o):=fun o=>BB.of_new hf;cases c with
 |lst ds=>obtain⟨vs,h1,h2⟩:=h;exact⟨_,h1,a,vs,rfl,z0g,DB.mono (s _) _ _ h2⟩
 |dct ds=>obtain⟨vs,h1,h2⟩:=h;exact⟨_,h1,a,vs,rfl,z0g,JB.mono (s _) _ _ h2⟩
 |_=>exact h.elim
def SOk (H0 F H:Hp)(io:Option Addr)(o:Option V):Slot->Prop
 |.no=>True
 |.fz d=>∃v,o=some v/\Rep F d v
 |.ob b c=>∃a,o=some (.ref a)/\H0 a=none/\F a=none/\AC F H a c/\(b=true->io=some a)
 |.sc K ns=>∃a,o=some (.ref a)/\SqL K F a (ns.map V.int)
structure EI (io:List (Option Addr))(H0 F0 F:Hp)(δ:List Slot)(σ:St)(H:Hp):Prop where
 base:BB H0 H
 sub:BB F H
 ext:BB F0 F
 new:∀b o,F b=some o->F0 b=none->H0 b=none
 len:δ.length=σ.length
 get:∀i s,δ[i]? = some s->SOk H0 F H (io.getD i none) (σ.getD i none) s
 apart:∀i j b c b' c' a,i≠j->δ[i]? = some (.ob b c)->δ[j]? = some (.ob b' c')->σ.getD i none=some (.ref a)->σ.getD j none=some (.ref a)->False
noncomputable def rsl:Bool->D->Slot
 |true,d=>.ob false d
 |false,d=>.fz d
section
variable {io:List (Option Addr)}{H0 F0 F:Hp}{δ:List Slot}{σ:St}{H:Hp}
def SOk.mono(sf:BB F F')(h:SOk H0 F H i o s)(hn:∀a b c,s=.ob b c->o=some (.ref a)->F' a=none/\∀u,H a=some u->H' a=some u):SOk H0 F' H' i o s:=by
 cases s with
 |no=>trivial
 |fz d=>obtain⟨v,e,r⟩:=h;exact⟨v,e,Rep.mono sf _ _ r⟩
 |sc K ns=>obtain⟨a,e,r⟩:=h;exact⟨a,e,sf.seq r⟩
 |ob b c =>
  obtain⟨a,e,h1,h2,h3,h4⟩:=h;obtain⟨n1,n2⟩:=hn a b c rfl e;exact⟨a,e,h1,n1,h3.mono sf n2,h4⟩
def EI.alloc {p:Addr}{o:HO}(I:EI io H0 F0 F δ σ H)(hp:H p=none):EI io H0 F0 F δ σ (upd H p o) where
 base:=I.base.upd (I.base.free hp)
 sub:=I.sub.upd (I.sub.free hp)
 ext:=I.ext
 new:=I.new
 len:=I.len
 get:=fun i s e=>(I.get i s e).mono (BB.refl _) fun a b c es eo=>by
  have h:=I.get i s e;subst es;obtain⟨a',e1,h1,h2,h3,h4⟩:=h;rw[eo]at e1;cases e1;obtain⟨u,hu⟩:=h3.some;exact⟨h2,fun u' hu'=>by rw[ya (Sa hu hp)];exact hu'⟩
 apart:=I.apart
def EI.allocF {p:Addr}{o:HO}(I:EI io H0 F0 F δ σ H)(hp:H p=none):EI io H0 F0 (upd F p o) δ σ (upd H p o) where
 base:=I.base.upd (I.base.free hp)
 sub:=fun b u e=>by
  by_cases hb:b=p;subst hb;rw[z0g]at e ⊢;exact e;rw[ya hb]at e ⊢;exact I.sub b u e
 ext:=I.ext.upd (I.ext.free (I.sub.free hp))
 new:=fun b u e h=>by
  by_cases hb:b=p;subst hb;exact I.base.free hp;rw[ya hb]at e;exact I.new b u e h
 len:=I.len
 get:=fun i s e=>(I.get i s e).mono (BB.of_new (I.sub.free hp)) fun a b c es eo=>by
  have h:=I.get i s e;subst es;obtain⟨a',e1,h1,h2,h3,h4⟩:=h;rw[eo]at e1;cases e1;obtain⟨u,hu⟩:=h3.some;have ne:=Sa hu hp;exact⟨by rw[ya ne];exact h2,fun u' hu'=>by rw[ya ne];exact hu'⟩
 apart:=I.apart
def EI.push {s:Slot}{v:V}(I:EI io H0 F0 F δ σ H)(h:SOk H0 F H none (some v) s)(ha:∀b c a,s=.ob b c->v=.ref a->∀j b' c',δ[j]? = some (.ob b' c')->σ.getD j none=some (.ref a)->False):EI (none::io) H0 F0 F (s::δ) (some v::σ) H where
 base:=I.base
 sub:=I.sub
 ext:=I.ext
 new:=I.new
 len:=by simp[I.len]
 get:=fun i t e=>by
  cases i with
  |zero=>simp at e;subst e;exact h
  |succ i=>simpa using I.get i t (by simpa using e)
 apart:=fun i j b c b' c' a ne e1 e2 e3 e4=>by
  cases i with
  |zero =>
   cases j with
   |zero=>exact ne rfl
   |succ j =>
    simp at e1 e2 e3 e4;exact ha b c a e1 e3 j b' c' e2 (by simpa using e4)
  |succ i =>
   cases j with
   |zero =>
    simp at e1 e2 e3 e4;exact ha b' c' a e2 e4 i b c e1 (by simpa using e3)
   |succ j =>
    simp at e1 e2 e3 e4;exact I.apart i j b c b' c' a (by lia) e1 e2 (by simpa using e3) (by simpa using e4)
def EI.pushF(I:EI io H0 F0 F δ σ H)(h:Rep F d v):EI (none::io) H0 F0 F (.fz d::δ) (some v::σ) H :=
 I.push ⟨v,rfl,h⟩ fun b c a e=>by cases e
def EI.pop {x:Option Addr}{s:Slot}{o:Option V}(I:EI (x::io) H0 F0 F (s::δ) (o::σ) H):EI io H0 F0 F δ σ H where
 base:=I.base
 sub:=I.sub
 ext:=I.ext
 new:=I.new
 len:=by simpa using I.len
 get:=fun i t e=>by simpa using I.get (i+1) t (by simpa using e)
 apart:=fun i j b c b' c' a ne e1 e2 e3 e4=>I.apart (i+1) (j+1) b c b' c' a (by lia) (by simpa using e1) (by simpa using e2) (by simpa using e3) (by simpa using e4)
def EI.freeze(I:EI io H0 F0 F δ σ H)(e:δ[i]? = some (.ob false c)):∃F' a,BB F F'/\EI io H0 F0 F' (δ.set i (.fz c)) σ H/\σ.getD i none=some (.ref a)/\Rep F' c (.ref a):=by
 obtain⟨a,e1,h1,h2,h3,_⟩:=I.get i _ e;obtain⟨o,ho,hr⟩:=h3.rep h2;have hs:BB F (upd F a o):=BB.of_new h2;refine⟨upd F a o,a,hs,⟨I.base,fun b u eb=>?_,I.ext.trans hs,fun b u eb hb=>?_,by simp[I.len],fun j s ej=>?_,fun j k b c1 b' c' a' ne e1 e2 e3 e4=>?_⟩,e1,hr⟩
 ·by_cases hb:b=a;subst hb;rw[z0g]at eb;cases eb;exact ho;rw[ya hb]at eb;exact I.sub b u eb
 ·by_cases hb':b=a;subst hb';exact h1;rw[ya hb']at eb;exact I.new b u eb hb
 ·rw[getElem?_set]at ej;split at ej
  ·rename_i hij;subst hij;split at ej;cases ej;exact⟨_,e1,hr⟩;cases ej
  rename_i hij;refine(I.get j s ej).mono hs fun a' b' c' es eo=>?_;subst es;obtain⟨a'',q1,q2,q3,q4,_⟩:=I.get j _ ej;rw[eo]at q1;cases q1;refine⟨?_,fun u hu=>hu⟩;rw[ya];exact q3;rintro rfl;exact I.apart i j _ _ _ _ _ hij e ej e1 eo
 rw[getElem?_set]at e1 e2;split at e1;split at e1<;>cases e1;split at e2;split at e2<;>cases e2;exact I.apart j k b c1 b' c' a' ne e1 e2 e3 e4
def EI.fr(I:EI (none::io) H0 F0 F (rsl b d::δ) (some v::σ) H):∃F',BB F F'/\EI io H0 F0 F' δ σ H/\Rep F' d v:=by
 cases b with
 |false =>
  obtain⟨v',e,r⟩:=I.get 0 _ rfl;simp at e;subst e;exact⟨F,BB.refl _,I.pop,r⟩
 |true =>
  obtain⟨F',a,hs,I',e,r⟩:=I.freeze (i:=0) (c:=d) rfl;simp at e;subst e;exact⟨F',hs,I'.pop,r⟩
noncomputable def kC (δ:List Slot) (i:Nat):Option D :=
 match δ[i]? with
 |some (.fz d)=>some d
 |some (.ob _ c)=>some c
 |_=>none
def Pk (F H:Hp)(d:D)(v:V):Prop:=Rep F d v \/ ∃a,v=.ref a/\AC F H a d
def EI.pk(I:EI io H0 F0 F δ σ H)(e:kC δ i=some d):∃v,σ[i]? = some (some v)/\Pk F H d v:=by
 unfold kC at e;split at e
 ·rename_i d' h;cases e;obtain⟨v,e1,r⟩:=I.get i _ h;refine⟨v,?_,.inl r⟩;rw[getD_eq_getElem?_getD]at e1;cases q:σ[i]? with
  |none=>rw[q]at e1;cases e1
  |some o=>rw[q]at e1;simp at e1;rw[e1]
 ·rename_i b c h;cases e;obtain⟨a,e1,_,_,h3,_⟩:=I.get i _ h;refine⟨.ref a,?_,.inr ⟨a,rfl,h3⟩⟩;rw[getD_eq_getElem?_getD]at e1;cases q:σ[i]? with
  |none=>rw[q]at e1;cases e1
  |some o=>rw[q]at e1;simp at e1;rw[e1]
 cases e
def Pk.lst(I:EI io H0 F0 F δ σ H)(h:Pk F H (.lst ds) v):∃a vs,v=.ref a/\H a=some (.lst vs)/\DB F ds vs:=by rcases h with ⟨a,vs,e,h1,h2⟩|⟨a,e,vs,h1,h2⟩;exact⟨a,vs,e,I.sub _ _ h1,h2⟩;exact⟨a,vs,e,h1,h2⟩
def Pk.tup(I:EI io H0 F0 F δ σ H)(h:Pk F H (.tup ds) v):∃a vs,v=.ref a/\H a=some (.tup vs)/\DB F ds vs:=by rcases h with ⟨a,vs,e,h1,h2⟩|⟨a,e,h⟩;exact⟨a,vs,e,I.sub _ _ h1,h2⟩;exact h.elim
def Pk.dct(I:EI io H0 F0 F δ σ H)(h:Pk F H (.dct ds) v):∃a vs,v=.ref a/\H a=some (.dK vs)/\JB F ds vs:=by rcases h with ⟨a,vs,e,h1,h2⟩|⟨a,e,vs,h1,h2⟩;exact⟨a,vs,e,I.sub _ _ h1,h2⟩;exact⟨a,vs,e,h1,h2⟩
def Pk.int {i:Int}(h:Pk F H (.int i) v):v=.int i:=by rcases h with h|⟨a,e,h⟩;exact h;exact h.elim
def Pk.str(h:Pk F H (.str x) v):v=.str x:=by rcases h with h|⟨a,e,h⟩;exact h;exact h.elim
def Pk.bl(h:Pk F H (.bl x) v):v=.bl x:=by rcases h with h|⟨a,e,h⟩;exact h;exact h.elim
def Pk.non(h:Pk F H .non v):v=.non:=by rcases h with h|⟨a,e,h⟩;exact h;exact h.elim
def EI.setv(I:EI (none::io) H0 F0 F (rsl b d::δ) (some v::σ) H)(hn:∀c,δ[i]? ≠ some (.ob true c))(hi:i<δ.length):EI io H0 F0 F (δ.set i (rsl b d)) (σ.set i (some v)) H:=by
 have J:=I.pop;refine⟨I.base,I.sub,I.ext,I.new,by simpa using J.len,fun j s e=>?_,fun j k b1 c1 b2 c2 a ne e1 e2 e3 e4=>?_⟩
 ·rw[getElem?_set]at e;split at e
  ·rename_i hij;subst hij;cases e;have hl:i<σ.length:=by rw[<-J.len];exact hi
   have h0:=I.get 0 _ rfl;simp[getD_eq_getElem?_getD,hl];cases b with
   |false=>obtain⟨v',e',r⟩:=h0;simp at e';subst e';exact⟨v,rfl,r⟩
   |true=>obtain⟨a,e',h1,h2,h3,h4⟩:=h0;simp at e';subst e';exact⟨a,rfl,h1,h2,h3,fun z=>by cases z⟩
  rename_i hij;have:=J.get j s e;simp only[getD_eq_getElem?_getD]at this ⊢;rw[getElem?_set_ne hij];exact this
 have hl:i<σ.length:=by rw[<-J.len];exact hi
 have key:∀{j:Nat}{b' c' b1 c1 a},j≠i->(rsl b d)=.ob b1 c1->δ[j]? = some (.ob b' c')->v=.ref a->σ.getD j none=some (.ref a)->False:=fun {j b' c' b1 c1 a} hj e1 e2 e3 e4 =>
  I.apart 0 (j+1) b1 c1 b' c' a (by lia) (by simp[e1]) (by simpa using e2) (by simp[e3]) (by simpa using e4)
 rw[getElem?_set]at e1 e2;rw[getD_eq_getElem?_getD,getElem?_set]at e3 e4;by_cases hj:i=j
 ·subst hj;by_cases hk:i=k;exact ne hk;rw[if_pos rfl,if_pos hi]at e1;rw[if_pos rfl,if_pos hl]at e3;rw[if_neg hk]at e2 e4;exact key (fun z=>hk z.symm) (Option.some.inj e1) e2 (by simpa using e3) (by simpa[getD_eq_getElem?_getD] using e4)
 rw[if_neg hj]at e1 e3;by_cases hk:i=k;subst hk;rw[if_pos rfl,if_pos hi]at e2;rw[if_pos rfl,if_pos hl]at e4;exact key (fun z=>hj z.symm) (Option.some.inj e2) e1 (by simpa using e4) (by simpa[getD_eq_getElem?_getD] using e3);rw[if_neg hk]at e2 e4;exact J.apart j k b1 c1 b2 c2 a ne e1 e2 (by simpa[getD_eq_getElem?_getD] using e3) (by simpa[getD_eq_getElem?_getD] using e4)
def EI.forget(I:EI io H0 F0 F δ σ H):EI io H0 F0 F (δ.set i .no) σ H:=by
 refine⟨I.base,I.sub,I.ext,I.new,by simpa using I.len,fun j s e=>?_,fun j k b1 c1 b2 c2 a ne e1 e2 e3 e4=>?_⟩
 ·rw[getElem?_set]at e;split at e
  ·split at e;cases e;trivial;cases e
  exact I.get j s e
 rw[getElem?_set]at e1 e2;split at e1;split at e1<;>cases e1;split at e2;split at e2<;>cases e2;exact I.apart j k b1 c1 b2 c2 a ne e1 e2 e3 e4
def EI.change(I:EI io H0 F0 F δ σ H)(e:δ[i]? = some (.ob b c))(ea:σ.getD i none=some (.ref a))(hc:AC F (upd H a o) a c'):EI io H0 F0 F (δ.set i (.ob b c')) σ (upd H a o):=by
 obtain⟨a',e1,h1,h2,h3,h4⟩:=I.get i _ e;rw[ea]at e1;cases e1;refine⟨I.base.upd h1,I.sub.upd h2,I.ext,I.new,by simpa using I.len,fun j s ej=>?_,fun j k b1 c1 b2 c2 a' ne e1 e2 e3 e4=>?_⟩
 ·rw[getElem?_set]at ej;split at ej
  ·rename_i hij;subst hij;split at ej;cases ej;exact⟨a,ea,h1,h2,hc,h4⟩;cases ej
  rename_i hij;refine(I.get j s ej).mono (BB.refl _) fun a' b' c' es eo=>?_;subst es;obtain⟨a'',q1,q2,q3,q4,_⟩:=I.get j _ ej;rw[eo]at q1;cases q1;refine⟨q3,fun u hu=>?_⟩;rw[ya];exact hu;rintro rfl;exact I.apart i j _ _ _ _ _ hij e ej ea eo
 have key:∀{j:Nat}{b1:Bool}{c1:D},(δ.set i (.ob b c'))[j]? = some (Slot.ob b1 c1)->∃b2 c2,δ[j]? = some (Slot.ob b2 c2):=fun {j b1 c1} h=>by
  rw[getElem?_set]at h;split at h;rename_i hij;subst hij;exact⟨_,_,e⟩;exact⟨_,_,h⟩
 obtain⟨b3,c3,q1⟩:=key e1;obtain⟨b4,c4,q2⟩:=key e2;exact I.apart j k _ _ _ _ a' ne q1 q2 e3 e4
noncomputable def cB (i:Nat) (δ:List Slot) (k:Slot->Prop):Prop:=match δ[i]? with|some s=>k s|none=>False
theorem j1y:cB 0 (s::r) k=k s:=rfl
theorem j0o:cB (i+1) (s::r) k=cB i r k:=rfl
def fE (i:Nat)(s:Slot)(δ:List Slot)(k:List Slot->Prop):Prop:=k (δ.set i s)
theorem j0a:fE 0 s (x::r) k=k (s::r):=rfl
theorem j1j:fE (i+1) s (x::r) k=fE i s r fun r'=>k (x::r'):=rfl
noncomputable def noIo (δ:List Slot) (i:Nat):Prop :=
 match δ[i]? with
 |some (.ob true _)=>False
 |none=>False
 |_=>True
def noIo.ne(h:noIo δ i):(∀c,δ[i]? ≠ some (.ob true c))/\i<δ.length:=by
 unfold noIo at h;split at h;exact h.elim;exact h.elim;rename_i h1 h2;refine⟨fun c e=>h1 c e,?_⟩;cases q:δ[i]? with
 |none=>exact absurd q h2
 |some s=>exact(List.getElem?_eq_some_iff.mp q).1
def zF (i:Nat)(s:Slot)(δ:List Slot)(k:List Slot->Prop):Prop:=match δ[i]? with|some (.ob true _)=>False|none=>False|_=>k (δ.set i s)
def q0(h:zF i s δ k):noIo δ i/\k (δ.set i s):=by
 unfold zF at h;unfold noIo;cases e:δ[i]? with
 |none=>rw[e]at h;exact h.elim
 |some x =>
  rw[e]at h;cases x with
  |ob b c =>
   cases b with
   |false=>exact⟨trivial,h⟩
   |true=>exact h.elim
  |_=>exact⟨trivial,h⟩
theorem q4r:zF 0 s (.no::r) k=k (s::r):=rfl
theorem q0a:zF 0 s (.fz d::r) k=k (s::r):=rfl
theorem q0t:zF 0 s (.ob false d::r) k=k (s::r):=rfl
theorem j0d:zF (i+1) s (x::r) k=zF i s r fun r'=>k (x::r'):=rfl
def kH (s:Slot)(a b:D->Prop):Prop:=match s with | .fz d=>a d | .ob false c=>b c|_=>False
theorem q3k:kH (.fz d) a b=a d:=rfl
theorem q4i:kH (.ob false d) a b=b d:=rfl
noncomputable def pkS (s:Slot) (k:D->Prop):Prop:=match s with | .fz d=>k d | .ob _ c=>k c|_=>False
theorem j1d:pkS (.fz d) k=k d:=rfl
theorem j2t:pkS (.ob b d) k=k d:=rfl
def obK (s:Slot)(k:Bool->D->Prop):Prop:=match s with | .ob b c=>k b c|_=>False
theorem j1f:obK (.ob b d) k=k b d:=rfl
def scK (K:W.Frag)(s:Slot)(k:List Int->Prop):Prop:=∃ns,s=.sc K ns/\k ns
def j1r:scK K (.sc K ns) k=k ns:=by simp[scK]
noncomputable def kE (d:D) (k:Int->Prop):Prop:=match d with | .int x=>k x|_=>False
theorem j0l {x:Int}:kE (.int x) k=k x:=rfl
def Ki:(∃x,d=.int x/\k x)=kE d k:=by cases d<;>simp[kE]
noncomputable def dF (d:D) (k:Str->Prop):Prop:=match d with | .str x=>k x|_=>False
theorem j2x:dF (.str x) k=k x:=rfl
def xf:(∃x,d=.str x/\k x)=dF d k:=by cases d<;>simp[dF]
noncomputable def blK (d:D) (k:Bool->Prop):Prop:=match d with | .bl x=>k x|_=>False
theorem blK_e:blK (.bl x) k=k x:=rfl
def Lk:(∃x,d=.bl x/\k x)=blK d k:=by cases d<;>simp[blK]
noncomputable def uD (d:D) (k:List D->Prop):Prop:=match d with | .lst x=>k x|_=>False
theorem j2w:uD (.lst x) k=k x:=rfl
def yf:(∃x,d=.lst x/\k x)=uD d k:=by cases d<;>simp[uD]
noncomputable def tupK (d:D) (k:List D->Prop):Prop:=match d with | .tup x=>k x|_=>False
def ox:(∃x,d=.tup x/\k x)=tupK d k:=by cases d<;>simp[tupK]
noncomputable def uF (d:D) (k:List (Key×D)->Prop):Prop:=match d with | .dct x=>k x|_=>False
theorem q9x:uF (.dct x) k=k x:=rfl
def qh:(∃x,d=.dct x/\k x)=uF d k:=by cases d<;>simp[uF]
def rh:(∃d,kC δ i=some d/\k d)=cB i δ fun s=>pkS s k:=by
 unfold kC cB;cases δ[i]? with
 |none=>simp
 |some s=>cases s<;>simp[pkS]
def sh:((kC δ i).isSome=true/\P)=cB i δ fun s=>pkS s fun _=>P:=by
 unfold kC cB;cases δ[i]? with
 |none=>simp
 |some s=>cases s<;>simp[pkS]
def Li:(∃fl c,δ[i]? = some (.ob fl c)/\k fl c)=cB i δ fun s=>obK s k:=by
 unfold cB;cases δ[i]? with
 |none=>simp
 |some s =>
  apply propext;constructor;rintro⟨fl,c,e,h⟩;cases e;exact h;intro h;cases s with
  |ob b c=>exact⟨b,c,rfl,h⟩
  |_=>exact h.elim
def isLK (d:D)(P:Prop):Prop:=match d with | .lst _=>P|_=>False
theorem j0x:isLK (.lst xs) P=P:=rfl
noncomputable def uh (ds:List D) (k:Int->Prop):Prop:=match ds with | [.int j]=>k j|_=>False
theorem x9h {j:Int}:uh [.int j] k=k j:=rfl
def zf(h:kE d k):∃x,d=.int x/\k x:=by rw[Ki];exact h
def ug(h:uD d k):∃x,d=.lst x/\k x:=by rw[yf];exact h
def Gq(h:tupK d k):∃x,d=.tup x/\k x:=by rw[ox];exact h
def qx(h:blK d k):∃x,d=.bl x/\k x:=by rw[Lk];exact h
def vh(h:cB i δ fun s=>pkS s k):∃d,kC δ i=some d/\k d:=by rw[rh];exact h
def Hq(h:cB i δ fun s=>pkS s fun _=>P):(kC δ i).isSome=true/\P:=by rw[sh];exact h
def vx(h:cB i δ fun s=>obK s k):∃fl c,δ[i]? = some (.ob fl c)/\k fl c:=by rw[Li];exact h
def wx(h:uh ds k):∃j,ds=[.int j]/\k j:=by unfold uh at h;split at h;exact⟨_,rfl,h⟩;exact h.elim
def optK {α:Type}(o:Option α)(k:α->Prop):Prop:=match o with|some x=>k x|none=>False
def Nk(h:optK o k):∃x,o=some x/\k x:=by
 cases o with
 |none=>exact h.elim
 |some x=>exact⟨x,rfl,h⟩
noncomputable def vg (ds:List D) (k:List D->Prop):Prop:=match ds with | [.lst x]=>k x|_=>False
def xx(h:vg ds k):∃xs,ds=[.lst xs]/\k xs:=by unfold vg at h;split at h;exact⟨_,rfl,h⟩;exact h.elim
noncomputable def oneK (ds:List D) (k:D->Prop):Prop:=match ds with | [x]=>k x|_=>False
def yx(h:oneK ds k):∃d,ds=[d]/\k d:=by unfold oneK at h;split at h;exact⟨_,rfl,h⟩;exact h.elim
abbrev TEd:=List Slot->(Bool->D->List Slot->Prop)->Prop
abbrev TTd:=List Slot->(Bool->List Slot->Prop)->Prop
abbrev TLd:=List Slot->(List D->List Slot->Prop)->Prop
structure QC where
 nx:List Slot->Prop
 rt:Bool->D->List Slot->Prop
 bk:List Slot->Prop:=fun _=>False
 ct:List Slot->Prop:=fun _=>False
abbrev TSd:=QC->List Slot->Prop
abbrev TGd:=D->List Slot->(List Slot->Prop)->Prop
def Sim (te:TE)(td:TEd):Prop:=∀(io:List (Option Addr))(H0 F0 F:Hp)(δ:List Slot)(σ:St)(H:Hp)(Q:VK)(Qd:Bool->D->List Slot->Prop),EI io H0 F0 F δ σ H->td δ Qd ->
 (∀b d v δ' F' H',BB F F'->EI (none::io) H0 F0 F' (rsl b d::δ') (some v::σ) H'->Qd b d δ'->Q v H')->te σ H Q
def WB (te:TT)(td:TTd):Prop:=∀(io:List (Option Addr))(H0 F0 F:Hp)(δ:List Slot)(σ:St)(H:Hp)(Q:Bool->Hp->Prop)(Qd:Bool->List Slot->Prop),EI io H0 F0 F δ σ H->td δ Qd ->
 (∀b δ' F' H',BB F F'->EI io H0 F0 F' δ' σ H'->Qd b δ'->Q b H')->te σ H Q
def SimL (te:TA)(td:TLd):Prop:=∀(io:List (Option Addr))(H0 F0 F:Hp)(δ:List Slot)(σ:St)(H:Hp)(Q:List V->Hp->Prop)(Qd:List D->List Slot->Prop),EI io H0 F0 F δ σ H->td δ Qd ->
 (∀ds vs δ' F' H',BB F F'->EI io H0 F0 F' δ' σ H'->DB F' ds vs->Qd ds δ'->Q vs H')->te σ H Q
def SimG (g:TG)(gd:TGd):Prop:=∀(io:List (Option Addr))(H0 F0 F:Hp)(δ:List Slot)(σ:St)(H:Hp)(d:D)(v:V)(Q:St->Hp->Prop)(Qd:List Slot->Prop),EI io H0 F0 F δ σ H->Rep F d v->gd d δ Qd ->
 (∀δ' σ',EI io H0 F0 F δ' σ' H->Qd δ'->Q σ' H)->g v σ H Q
structure ESim (io:List (Option Addr))(H0 F0 F:Hp)(Ed:QC)(E:GC):Prop where
 nx:∀F' δ' σ' H',BB F F'->EI io H0 F0 F' δ' σ' H'->Ed.nx δ'->E.nx σ' H'
 rt:∀b d v F' δ' σ' H',BB F F'->EI (none::io) H0 F0 F' (rsl b d::δ') (some v::σ') H'->Ed.rt b d δ'->E.rt v H'
 bk:∀F' δ' σ' H',BB F F'->EI io H0 F0 F' δ' σ' H'->Ed.bk δ'->E.bk σ' H'
 ct:∀F' δ' σ' H',BB F F'->EI io H0 F0 F' δ' σ' H'->Ed.ct δ'->E.ct σ' H'
def ESim.mono(s:BB F F1)(h:ESim io H0 F0 F Ed E):ESim io H0 F0 F1 Ed E :=
 ⟨fun F' δ' σ' H' q=>h.nx F' δ' σ' H' (s.trans q),fun b d v F' δ' σ' H' q=>h.rt b d v F' δ' σ' H' (s.trans q),fun F' δ' σ' H' q=>h.bk F' δ' σ' H' (s.trans q),fun F' δ' σ' H' q=>h.ct F' δ' σ' H' (s.trans q)⟩
def VB (t:TS)(td:TSd):Prop:=∀(io:List (Option Addr))(H0 F0 F:Hp)(δ:List Slot)(σ:St)(H:Hp)(E:GC)(Ed:QC),EI io H0 F0 F δ σ H->td Ed δ->ESim io H0 F0 F Ed E->t E σ H
def DE (X:Cx)(e:Expr)(td:TEd):Prop:=∃te,PE X e te/\Sim te td
def DT (X:Cx)(e:Expr)(td:TTd):Prop:=∃te,PT X e te/\WB te td
def DW (X:Cx)(e:Expr)(td:TTd):Prop:=∃te,PW X e te/\WB te td
def DL (X:Cx)(es:List Expr)(td:TLd):Prop:=∃te,PA X es te/\SimL te td
def DG (X:Cx)(e:Expr)(gd:TGd):Prop:=∃g,PG X e g/\SimG g gd
def DS (X:Cx)(s:Stmt)(td:TSd):Prop:=∃t,PS X s t/\VB t td
def DSs (X:Cx)(s:List Stmt)(td:TSd):Prop:=∃t,PSs X s t/\VB t td
def Sim.fz(s:Sim te td){Qd:D->List Slot->Prop}(I:EI io H0 F0 F δ σ H)(h:td δ fun _ d δ'=>Qd d δ')
  (k:∀d v δ' F' H',BB F F'->EI io H0 F0 F' δ' σ H'->Rep F' d v->Qd d δ'->Q v H'):te σ H Q :=
 s io H0 F0 F δ σ H Q _ I h fun b d v δ' F' H' sf I' q=>by
  obtain⟨F2,s2,I2,r⟩:=I'.fr;exact k d v δ' F2 H' (sf.trans s2) I2 r q
def Ec(h:σ.getD i none=some o):σ[i]? = some (some o):=by
 rw[getD_eq_getElem?_getD]at h;cases q:σ[i]? with
 |none=>rw[q]at h;cases h
 |some z=>rw[q]at h;simp at h;rw[h]
def dC (d:D):TEd:=fun δ Q=>Q false d δ
def xh(h:∀F,Rep F d v):Sim (tC v) (dC d):=fun io H0 F0 F δ σ H Q Qd I q k=>k false d v δ F H (BB.refl _) (I.pushF (h F)) q
def jD (i:Nat):TEd:=fun δ Q=>cB i δ fun s=>kH s (fun d=>Q false d δ) fun c=>fE i (.fz c) δ fun δ'=>Q false c δ'
def dMv (i:Nat):TEd:=fun δ Q=>cB i δ fun s=>kH s (fun d=>Q false d δ) fun c=>fE i .no δ fun δ'=>Q true c δ'
def Iq(h:cB i δ fun s=>kH s a b):(∃d,δ[i]? = some (.fz d)/\a d) \/ ∃c,δ[i]? = some (.ob false c)/\b c:=by
 unfold cB at h;cases e:δ[i]? with
 |none=>rw[e]at h;exact h.elim
 |some s =>
  rw[e]at h;cases s with
  |fz d=>exact .inl ⟨d,rfl,h⟩
  |ob f c =>
   cases f with
   |false=>exact .inr ⟨c,rfl,h⟩
   |true=>exact h.elim
  |_=>exact h.elim
def Ax (i:Nat):Sim (tVar i) (jD i):=by intro io H0 F0 F δ σ H Q Qd I q k;rcases Iq q with ⟨d,h,q⟩|⟨c,h,q⟩;obtain⟨v,e,r⟩:=I.get i _ h;exact⟨v,Ec e,k false d v δ F H (BB.refl _) (I.pushF r) q⟩;obtain⟨F',a,sf,I',e,r⟩:=I.freeze h;exact⟨.ref a,Ec e,k false c (.ref a) _ F' H sf (I'.pushF r) q⟩
def Bx (i:Nat):Sim (tVar i) (dMv i):=by intro io H0 F0 F δ σ H Q Qd I q k;rcases Iq q with ⟨d,h,q⟩|⟨c,h,q⟩;obtain⟨v,e,r⟩:=I.get i _ h;exact⟨v,Ec e,k false d v δ F H (BB.refl _) (I.pushF r) q⟩;obtain⟨a,e,h1,h2,h3,h4⟩:=I.get i _ h;refine⟨.ref a,Ec e,k true c (.ref a) _ F H (BB.refl _) (I.forget.push ⟨a,rfl,h1,h2,h3,fun z=>by cases z⟩ ?_) q⟩;intro b c' a' es ev j b2 c2 ej eo;cases ev;rw[getElem?_set]at ej;split at ej;split at ej<;>cases ej;rename_i hij;exact I.apart i j _ _ _ _ a hij h ej e eo
variable {X:Cx}{pos:Pos}
def ba {i j pos}:DE X (.Constant (.int i) j pos) (dC (.int i)):=⟨_,Ab,xh fun _=>rfl⟩
def Te {b j pos}:DE X (.Constant (.bool b) j pos) (dC (.bl b)):=⟨_,nk,xh fun _=>rfl⟩
def Fa {x j pos}:DE X (.Constant (.str x) j pos) (dC (.str x)):=⟨_,Md,xh fun _=>rfl⟩
def dv (i:Nat)(hN:X.N[i]? = some x:=by rfl)(hv:Vis X.env.scope x:=by first|exact Or.inl rfl|exact Or.inr (Or.inl rfl)|exact Or.inr (Or.inr rfl))(hd:(x == ("__debug__":Str))=false:=by decide)
  (hcd:(x == ("__classdict__":Str))=false:=by decide):DE X (.Name x pos) (jD i):=⟨_,dg hN hv hd hcd,Ax i⟩
def dm (i:Nat)(hN:X.N[i]? = some x:=by rfl)(hv:Vis X.env.scope x:=by first|exact Or.inl rfl|exact Or.inr (Or.inl rfl)|exact Or.inr (Or.inr rfl))(hd:(x == ("__debug__":Str))=false:=by decide)
  (hcd:(x == ("__classdict__":Str))=false:=by decide):DE X (.Name x pos) (dMv i):=⟨_,dg hN hv hd hcd,Bx i⟩
def Dx(hs:∀F,Rep F d v)(hg:Gl X x)(hm:X.mg x=some u)(r:GB v u)(hd:(x == ("__debug__":Str))=false:=by decide):DE X (.Name x pos) (dC d):=⟨_,Yo hg hm r hd,xh hs⟩
def de_ty(hg:Gl X x)(hm:X.mg x=none)(hv:bootBuiltins x=some (.type n))(hn:x ≠ "__name__":=by decide)(hd:(x == ("__debug__":Str))=false:=by decide):DE X (.Name x pos) (dC (.ty n)):=⟨_,li (v:=.ty n) hg hm hv rfl hn hd,xh fun _=>rfl⟩
def OpS (r:R2)(f:D->D->(Bool->D->Prop)->Prop):Prop:=∀(io:List (Option Addr))(H0 F0 F:Hp)(δ:List Slot)(σ:St)(H:Hp)(x y:D)(v u:V)(Q:VK)(Qd:Bool->D->Prop),EI io H0 F0 F δ σ H->Pk F H x v->Pk F H y u->f x y Qd ->
 (∀b d w F' H',BB F F'->EI (none::io) H0 F0 F' (rsl b d::δ) (some w::σ) H'->Qd b d->Q w H')->r v u H Q
def dOp (f:D->D->(Bool->D->Prop)->Prop)(da db:TEd):TEd:=fun δ Q=>da δ fun _ x δ1=>db δ1 fun _ y δ2=>f x y fun b d=>Q b d δ2
def dG (f:D->D->(Bool->D->Prop)->Prop)(i:Nat)(db:TEd):TEd:=fun δ Q=>cB i δ fun s=>pkS s fun _=>db δ fun _ y δ2=>cB i δ2 fun s=>pkS s fun x=>f x y fun b d=>Q b d δ2
def dOpW (f:D->D->(Bool->D->Prop)->Prop)(da:TEd)(j:Nat):TEd:=fun δ Q=>da δ fun _ x δ1=>cB j δ1 fun s=>pkS s fun y=>f x y fun b d=>Q b d δ1
def Mi(hs:OpS r f)(sa:Sim ta da)(sb:Sim tb db):Sim (tOp r ta tb) (dOp f da db):=by intro io H0 F0 F δ σ H Q Qd I q k;refine sa.fz I q fun x v δ1 F1 H1 s1 I1 r1 q1=>sb.fz I1 q1 fun y u δ2 F2 H2 s2 I2 r2 q2=>?_;exact hs io H0 F0 F2 δ2 σ H2 x y v u Q _ I2 (.inl (Rep.mono s2 _ _ r1)) (.inl r2) q2 fun b d w F' H' s' I' z=>k b d w δ2 F' H' ((s1.trans s2).trans s') I' z
def Qk(hs:OpS r f)(sb:Sim tb db):Sim (tOp r (tVar i) tb) (dG f i db):=by intro io H0 F0 F δ σ H Q Qd I q k;replace q:=Hq q;obtain⟨p0,q⟩:=q;obtain⟨d0,e0⟩:=isSome_iff_exists.mp p0;obtain⟨v0,ev,_⟩:=I.pk e0;refine⟨v0,ev,?_⟩;refine sb.fz I q fun y u δ2 F2 H2 s2 I2 r2 q2=>?_;replace q2:=vh q2;obtain⟨x,ex,q2⟩:=q2;obtain⟨v,ev',pv⟩:=I2.pk ex;rw[ev]at ev';cases ev';exact hs io H0 F0 F2 δ2 σ H2 x y _ u Q _ I2 pv (.inl r2) q2 fun b d w F' H' s' I' z=>k b d w δ2 F' H' (s2.trans s') I' z
def Ex(hs:OpS r f)(sa:Sim ta da):Sim (tOp r ta (tVar j)) (dOpW f da j):=by intro io H0 F0 F δ σ H Q Qd I q k;refine sa.fz I q fun x v δ1 F1 H1 s1 I1 r1 q1=>?_;replace q1:=vh q1;obtain⟨y,ey,q1⟩:=q1;obtain⟨u,eu,pu⟩:=I1.pk ey;exact⟨u,eu,hs io H0 F0 F1 δ1 σ H1 x y v u Q _ I1 (.inl r1) pu q1 fun b d w F' H' s' I' z=>k b d w δ1 F' H' (s1.trans s') I' z⟩
variable {a b:Expr}{da db:TEd}{f:D->D->(Bool->D->Prop)->Prop}{r:R2}
def za(hs:OpS r f)(ho:OpR X (binaryOp op) r)(ha:DE X a da)(hb:DE X b db):DE X (.BinOp a op b pos) (dOp f da db):=by obtain⟨ta,pa,sa⟩:=ha;obtain⟨tb,pb,sb⟩:=hb;exact⟨_,Se ho pa pb,Mi hs sa sb⟩
def yh(hs:OpS r f)(ho:OpR X (compareOp op) r)(ha:DE X a da)(hb:DE X b db)(hm:behindInMarks op b=false):DE X (.Compare a [op] [b] pos) (dOp f da db):=by obtain⟨ta,pa,sa⟩:=ha;obtain⟨tb,pb,sb⟩:=hb;exact⟨_,og ho pa pb hm,Mi hs sa sb⟩
def Jq(hs:OpS r f)(ho:OpR X (compareOp op) r)(ha:PE X (.Name x p) (tVar i))(hb:DE X b db)(hm:behindInMarks op b=false):DE X (.Compare (.Name x p) [op] [b] pos) (dG f i db):=by obtain⟨tb,pb,sb⟩:=hb;exact⟨_,og ho ha pb hm,Qk hs sb⟩
def Ce (hs:OpS r f)(ho:IxR X r)(ha:DE X a da)(hb:DE X b db)(h:bh b):DE X (.Subscript a b pos) (dOp f da db):=by obtain⟨ta,pa,sa⟩:=ha;obtain⟨tb,pb,sb⟩:=hb;exact⟨_,Bb ho pa pb h,Mi hs sa sb⟩
def Ni(hs:OpS r f)(ho:IxR X r)(ha:PE X (.Name x p) (tVar i))(hb:DE X b db)(h:bh b):DE X (.Subscript (.Name x p) b pos) (dG f i db):=by obtain⟨tb,pb,sb⟩:=hb;exact⟨_,Bb ho ha pb h,Qk hs sb⟩
def fI (g:Int->Int->D):D->D->(Bool->D->Prop)->Prop:=fun x y Q=>kE x fun i=>kE y fun j=>Q false (g i j)
def fIc (C:Int->Int->Prop)(g:Int->Int->D):D->D->(Bool->D->Prop)->Prop:=fun x y Q=>kE x fun i=>kE y fun j=>C i j/\Q false (g i j)
def os_I(h:∀i j F,Rep F (g' i j) (g i j)):OpS (rI0 g) (fI g'):=by intro io H0 F0 F δ σ H x y v u Q Qd I px py q k;replace q:=zf q;obtain⟨i,rfl,q⟩:=q;replace q:=zf q;obtain⟨j,rfl,q⟩:=q;exact⟨i,j,px.int,py.int,k false _ _ F H (BB.refl _) (I.pushF (h i j F)) q⟩
def Rk(h:∀i j F,Rep F (g' i j) (g i j)):OpS (rI C g) (fIc C g'):=by intro io H0 F0 F δ σ H x y v u Q Qd I px py q k;replace q:=zf q;obtain⟨i,rfl,q⟩:=q;replace q:=zf q;obtain⟨j,rfl,c,q⟩:=q;exact⟨i,j,px.int,py.int,c,k false _ _ F H (BB.refl _) (I.pushF (h i j F)) q⟩
theorem EI.pS(I:EI io H0 F0 F δ σ H):EI (none::io) H0 F0 F (rsl false (.str x)::δ) (some (.str x)::σ) H:=I.pushF rfl
theorem EI.pI {x:Int}(I:EI io H0 F0 F δ σ H):EI (none::io) H0 F0 F (rsl false (.int x)::δ) (some (.int x)::σ) H:=I.pushF rfl
theorem EI.pB(I:EI io H0 F0 F δ σ H):EI (none::io) H0 F0 F (rsl false (.bl x)::δ) (some (.bl x)::σ) H:=I.pushF rfl
theorem EI.pN (I:EI io H0 F0 F δ σ H):EI (none::io) H0 F0 F (rsl false .non::δ) (some .non::σ) H:=I.pushF rfl
theorem Fb:OpS (rI0 fun i j=>.int (i+j)) (fI fun i j=>.int (i+j)):=os_I fun _ _ _=>rfl
theorem zh:OpS (rI0 fun i j=>.int (i - j)) (fI fun i j=>.int (i - j)):=os_I fun _ _ _=>rfl
theorem de:OpS (rI UC fun i j=>.int (i * j)) (fIc UC fun i j=>.int (i * j)):=Rk fun _ _ _=>rfl
theorem Wa:OpS (rI (fun _ j=>0<j) fun i j=>.int (i % j)) (fIc (fun _ j=>0<j) fun i j=>.int (i % j)):=Rk fun _ _ _=>rfl
theorem Nb:OpS (rI (fun _ j=>0<j/\j.natAbs.log2<9000) fun i j=>.int (i / j)) (fIc (fun _ j=>0<j/\j.natAbs.log2<9000) fun i j=>.int (i / j)):=Rk fun _ _ _=>rfl
theorem Oi:OpS (rI0 fun i j=>.bl (decide (i<j))) (fI fun i j=>.bl (decide (i<j))):=os_I fun _ _ _=>rfl
theorem Ah:OpS (rI0 fun i j=>.bl (decide (j<i))) (fI fun i j=>.bl (decide (j<i))):=os_I fun _ _ _=>rfl
theorem os_ge:OpS (rI0 fun i j=>.bl (decide (j<=i))) (fI fun i j=>.bl (decide (j<=i))):=os_I fun _ _ _=>rfl
noncomputable def sEq:D->D->Option Bool
 |.int i,.int j=>some (decide (i=j))
 |.str i,.str j=>some (decide (i=j))
 |.bl i,.bl j=>some (decide (i=j))
 |.non,.non=>some true
 |.non,.int _=>some false | .int _,.non=>some false | .non,.str _=>some false | .str _,.non=>some false | .non,.bl _=>some false | .bl _,.non=>some false
 |.int _,.str _=>some false | .str _,.int _=>some false | .bl _,.str _=>some false | .str _,.bl _=>some false
 |_,_=>none
def fEq:D->D->(Bool->D->Prop)->Prop:=fun x y Q=>optK (sEq x y) fun b=>Q false (.bl b)
def fNe:D->D->(Bool->D->Prop)->Prop:=fun x y Q=>optK (sEq x y) fun b=>Q false (.bl (!b))
def Kq{b:Bool}(px:Pk F H x v)(py:Pk F H y u)(h:sEq x y=some b):scal v u=true/\decide (v=u)=b:=by
 cases x<;>cases y<;>first
  |(have e1:=px.int;have e2:=py.int;subst e1 e2;cases h;exact⟨rfl,by simp⟩)
  |(have e1:=px.str;have e2:=py.str;subst e1 e2;cases h;exact⟨rfl,by simp⟩)
  |(have e1:=px.bl;have e2:=py.bl;subst e1 e2;cases h;exact⟨rfl,by simp⟩)
  |(have e1:=px.non;have e2:=py.non;subst e1 e2;cases h;exact⟨rfl,by simp⟩)
  |(have e1:=px.non;have e2:=py.int;subst e1 e2;cases h;exact⟨rfl,by simp⟩)
  |(have e1:=px.int;have e2:=py.non;subst e1 e2;cases h;exact⟨rfl,by simp⟩)
  |(have e1:=px.non;have e2:=py.str;subst e1 e2;cases h;exact⟨rfl,by simp⟩)
  |(have e1:=px.str;have e2:=py.non;subst e1 e2;cases h;exact⟨rfl,by simp⟩)
  |(have e1:=px.non;have e2:=py.bl;subst e1 e2;cases h;exact⟨rfl,by simp⟩)
  |(have e1:=px.bl;have e2:=py.non;subst e1 e2;cases h;exact⟨rfl,by simp⟩)
  |(have e1:=px.int;have e2:=py.str;subst e1 e2;cases h;exact⟨rfl,by simp⟩)
  |(have e1:=px.str;have e2:=py.int;subst e1 e2;cases h;exact⟨rfl,by simp⟩)
  |(have e1:=px.bl;have e2:=py.str;subst e1 e2;cases h;exact⟨rfl,by simp⟩)
  |(have e1:=px.str;have e2:=py.bl;subst e1 e2;cases h;exact⟨rfl,by simp⟩)
  |(cases h)
def gb:OpS rEq fEq:=by intro io H0 F0 F δ σ H x y v u Q Qd I px py q k;replace q:=Nk q;obtain⟨b,e,q⟩:=q;obtain⟨h1,h2⟩:=Kq px py e;refine⟨h1,k false (.bl b) _ F H (BB.refl _) (I.pushF ?_) q⟩;rw[h2];rfl
def wg:OpS rNe fNe:=by intro io H0 F0 F δ σ H x y v u Q Qd I px py q k;replace q:=Nk q;obtain⟨b,e,q⟩:=q;obtain⟨h1,h2⟩:=Kq px py e;refine⟨h1,k false (.bl (!b)) _ F H (BB.refl _) (I.pushF ?_) q⟩;rw[h2];rfl
def Sk:D->D->(Bool->D->Prop)->Prop:=fun x y Q=>∃i j,x=.str i/\y=.str j/\i.length+j.length<=sizeLine/\Q false (.str (i++j))
def Lq:OpS (fun x y H Q=>∃i j,x=.str i/\y=.str j/\i.length+j.length<=sizeLine/\Q (.str (i++j)) H) Sk:=by intro io H0 F0 F δ σ H x y v u Q Qd I px py q k;obtain⟨i,j,rfl,rfl,h,q⟩:=q;exact⟨i,j,px.str,py.str,h,k false _ _ F H (BB.refl _) I.pS q⟩
def EI.newL(I:EI io H0 F0 F δ σ H)(hp:H p=none)(r:DB F ds vs):EI (none::io) H0 F0 F (rsl true (.lst ds)::δ) (some (.ref p)::σ) (upd H p (.lst vs)):=by refine(I.alloc hp).push ⟨p,rfl,I.base.free hp,I.sub.free hp,⟨vs,z0g,r⟩,fun z=>by cases z⟩ fun b c a es ev j b' c' ej eo=>?_;cases ev;obtain⟨a',e1,_,_,h3,_⟩:=I.get j _ ej;rw[eo]at e1;cases e1;obtain⟨u,hu⟩:=h3.some;rw[hp]at hu;cases hu
def EI.newD(I:EI io H0 F0 F δ σ H)(hp:H p=none)(r:JB F ds vs):EI (none::io) H0 F0 F (rsl true (.dct ds)::δ) (some (.ref p)::σ) (upd H p (.dK vs)):=by refine(I.alloc hp).push ⟨p,rfl,I.base.free hp,I.sub.free hp,⟨vs,z0g,r⟩,fun z=>by cases z⟩ fun b c a es ev j b' c' ej eo=>?_;cases ev;obtain⟨a',e1,_,_,h3,_⟩:=I.get j _ ej;rw[eo]at e1;cases e1;obtain⟨u,hu⟩:=h3.some;rw[hp]at hu;cases hu
def EI.newT(I:EI io H0 F0 F δ σ H)(hp:H p=none)(r:DB F ds vs):∃F',BB F F'/\EI io H0 F0 F' δ σ (upd H p (.tup vs))/\Rep F' (.tup ds) (.ref p) :=
 ⟨upd F p (.tup vs),BB.of_new (I.sub.free hp),I.allocF hp,p,vs,rfl,z0g,DB.mono (BB.of_new (I.sub.free hp)) _ _ r⟩
def cH:D->D->(Bool->D->Prop)->Prop:=fun x y Q=>uD x fun xs=>uD y fun ys=>xs.length+ys.length<=sizeLine/\Q true (.lst (xs++ys))
def Sb:OpS rCat cH:=by intro io H0 F0 F δ σ H x y v u Q Qd I px py q k;replace q:=ug q;obtain⟨xs,rfl,q⟩:=q;replace q:=ug q;obtain⟨ys,rfl,hl,q⟩:=q;obtain⟨a,vs,rfl,h1,r1⟩:=px.lst I;obtain⟨b,us,rfl,h2,r2⟩:=py.lst I;exact⟨a,b,vs,us,rfl,rfl,h1,h2,by rw[<-r1.len,<-r2.len];exact hl,fun p hp=>k true _ _ F _ (BB.refl _) (I.newL hp (r1.app r2)) q⟩
def uH:D->D->(Bool->D->Prop)->Prop:=fun x y Q=>uD x fun xs=>kE y fun i=>∃d,atI xs i=some d/\Q false d
noncomputable def tpAt (xs:List D) (i:Int):Option D:=match i with | .ofNat n=>xs[n]? | .negSucc _=>atI xs i
def tpAt_e{i:Int}(h:tpAt xs i=some d):atI xs i=some d:=by
 cases i with
 |ofNat n=>exact Pd (j:=n) h
 |negSucc n=>exact h
def pG:D->D->(Bool->D->Prop)->Prop:=fun x y Q=>tupK x fun xs=>kE y fun i=>optK (tpAt xs i) fun d=>Q false d
def fIxS:D->D->(Bool->D->Prop)->Prop:=fun x y Q=>∃z i c,x=.str z/\y=.int i/\z.length<=sizeLine/\atI z.cps.toList i=some c/\Q false (.str ⟨#[c]⟩)
theorem DB.atI{i:Int}(r:DB F ds vs)(h:atI ds i=some d):∃v,L2.atI vs i=some v/\Rep F d v:=by
 unfold L2.atI at h ⊢;rw[<-r.len];cases e:ixN ds.length i with
 |none=>rw[e]at h;cases h
 |some j=>rw[e]at h;exact r.get h
def Af:OpS (fun x y H Q=>∃p i,x=.ref p/\y=.int i/\∃xs,H p=some (.lst xs)/\∃v,atI xs i=some v/\Q v H) uH:=by intro io H0 F0 F δ σ H x y v u Q Qd I px py q k;replace q:=ug q;obtain⟨xs,rfl,q⟩:=q;replace q:=zf q;obtain⟨i,rfl,d,h,q⟩:=q;obtain⟨a,vs,rfl,h1,r1⟩:=px.lst I;obtain⟨w,e,r⟩:=r1.atI h;exact⟨a,i,rfl,py.int,vs,h1,w,e,k false d w F H (BB.refl _) (I.pushF r) q⟩
def Pi:OpS (fun x y H Q=>∃p i,x=.ref p/\y=.int i/\∃xs,H p=some (.tup xs)/\∃v,atI xs i=some v/\Q v H) pG:=by intro io H0 F0 F δ σ H x y v u Q Qd I px py q k;replace q:=Gq q;obtain⟨xs,rfl,q⟩:=q;replace q:=zf q;obtain⟨i,rfl,q⟩:=q;replace q:=Nk q;obtain⟨d,h,q⟩:=q;replace h:=tpAt_e h;obtain⟨a,vs,rfl,h1,r1⟩:=px.tup I;obtain⟨w,e,r⟩:=r1.atI h;exact⟨a,i,rfl,py.int,vs,h1,w,e,k false d w F H (BB.refl _) (I.pushF r) q⟩
def Mq:OpS rIxS fIxS:=by intro io H0 F0 F δ σ H x y v u Q Qd I px py q k;obtain⟨z,i,c,rfl,rfl,hl,h,q⟩:=q;exact⟨z,i,c,px.str,py.int,hl,h,k false _ _ F H (BB.refl _) I.pS q⟩
mutual
noncomputable def eqb:D->Bool
 |.int _=>true
 |.str _=>true
 |.lst xs=>cC xs
 |.tup xs=>cC xs
 |_=>false
noncomputable def cC:List D->Bool
 | []=>true
 |d::r=>eqb d&&cC r
end
mutual
noncomputable def dep:D->Nat
 |.lst xs=>nB xs+1
 |.tup xs=>nB xs+1
 |_=>0
noncomputable def nB:List D->Nat
 | []=>0
 |d::r=>max (dep d) (nB r)
end
mutual
theorem Gx {F H:Hp}(s:BB F H):∀(d:D)(n:Nat)(v u:V),eqb d=true->dep d<=n->Rep F d v->Rep F d u->EqT H n v u
 |.int i,n,v,u,_,_,h1,h2=>by cases(show v=.int i from h1);cases(show u=.int i from h2);exact .int i
 |.str i,n,v,u,_,_,h1,h2=>by cases(show v=.str i from h1);cases(show u=.str i from h2);exact .str i
 |.lst ds,0,v,u,_,h,h1,h2=>by simp[dep]at h
 |.lst ds,n+1,v,u,he,hn,h1,h2=>by
  obtain⟨a,vs,rfl,e1,r1⟩:=h1;obtain⟨b,us,rfl,e2,r2⟩:=h2;exact .lst (s _ _ e1) (s _ _ e2) (by rw[<-r1.len,<-r2.len]) (xg s ds n vs us (by simpa[eqb] using he) (by simp[dep]at hn;lia) r1 r2)
 |.tup ds,0,v,u,_,h,h1,h2=>by simp[dep]at h
 |.tup ds,n+1,v,u,he,hn,h1,h2=>by
  obtain⟨a,vs,rfl,e1,r1⟩:=h1;obtain⟨b,us,rfl,e2,r2⟩:=h2;exact .tup (s _ _ e1) (s _ _ e2) (by rw[<-r1.len,<-r2.len]) (xg s ds n vs us (by simpa[eqb] using he) (by simp[dep]at hn;lia) r1 r2)
 |.non,n,v,u,h,_,h1,h2=>by simp[eqb]at h
 |.bl _,n,v,u,h,_,h1,h2=>by simp[eqb]at h
 |.ty _,n,v,u,h,_,h1,h2=>by simp[eqb]at h
 |.dct _,n,v,u,h,_,h1,h2=>by simp[eqb]at h
theorem xg {F H:Hp}(s:BB F H):∀(ds:List D)(n:Nat)(vs us:List V),cC ds=true->nB ds<=n->DB F ds vs->DB F ds us->∀(i:Nat) x y,vs[i]? = some x->us[i]? = some y->EqT H n x y
 | [],n,vs,us,_,_,h1,h2,i,x,y,e1,e2=>by cases(show vs=[] from h1);simp at e1
 |d::ds,n,vs,us,he,hn,h1,h2,i,x,y,e1,e2=>by
  obtain⟨v,r,rfl,q1,r1⟩:=h1;obtain⟨u,r',rfl,q2,r2⟩:=h2;simp[cC]at he;simp[nB]at hn;cases i with
  |zero=>simp at e1 e2;subst e1 e2;exact Gx s d n v u he.1 (by lia) q1 q2
  |succ i=>exact xg s ds n r r' he.2 (by lia) r1 r2 i x y (by simpa using e1) (by simpa using e2)
end
def fEqL:D->D->(Bool->D->Prop)->Prop:=fun x y Q=>∃xs ys,x=.lst xs/\y=.lst ys/\((xs.length≠ys.length/\Q false (.bl false))\/(xs=ys/\cC xs=true/\nB xs<=90/\Q false (.bl true)))
def fNeL:D->D->(Bool->D->Prop)->Prop:=fun x y Q=>∃xs ys,x=.lst xs/\y=.lst ys/\((xs.length≠ys.length/\Q false (.bl true))\/(xs=ys/\cC xs=true/\nB xs<=90/\Q false (.bl false)))
def Qi(hu:X.A.units+100<cLine):OpS (fun x y H Q=>∃a b,x=.ref a/\y=.ref b/\∃xs,H a=some (.lst xs)/\∃ys,H b=some (.lst ys)/\X.A.units<cLine /\
  ((xs.length≠ys.length/\Q (.bl false) H)\/(xs.length=ys.length/\(∃n,(∀(i:Nat) x y,xs[i]? = some x->ys[i]? = some y->EqT H n x y)/\X.A.units+n+1<cLine)/\Q (.bl true) H))) fEqL:=by
 intro io H0 F0 F δ σ H x y v u Q Qd I px py q k;obtain⟨xs,ys,rfl,rfl,q⟩:=q;obtain⟨a,vs,rfl,h1,r1⟩:=px.lst I;obtain⟨b,us,rfl,h2,r2⟩:=py.lst I;refine⟨a,b,rfl,rfl,vs,h1,us,h2,by lia,?_⟩;rcases q with ⟨hl,q⟩|⟨rfl,he,hd,q⟩;exact .inl ⟨by rw[<-r1.len,<-r2.len];exact hl,k false _ _ F H (BB.refl _) I.pB q⟩;exact .inr ⟨by rw[<-r1.len,<-r2.len],⟨90,xg I.sub xs 90 vs us he hd r1 r2,by lia⟩,k false _ _ F H (BB.refl _) I.pB q⟩
def Bh(hu:X.A.units+100<cLine):OpS (fun x y H Q=>∃a b,x=.ref a/\y=.ref b/\∃xs,H a=some (.lst xs)/\∃ys,H b=some (.lst ys)/\X.A.units<cLine /\
  ((xs.length≠ys.length/\Q (.bl true) H)\/(xs.length=ys.length/\(∃n,(∀(i:Nat) x y,xs[i]? = some x->ys[i]? = some y->EqT H n x y)/\X.A.units+n+1<cLine)/\Q (.bl false) H))) fNeL:=by
 intro io H0 F0 F δ σ H x y v u Q Qd I px py q k;obtain⟨xs,ys,rfl,rfl,q⟩:=q;obtain⟨a,vs,rfl,h1,r1⟩:=px.lst I;obtain⟨b,us,rfl,h2,r2⟩:=py.lst I;refine⟨a,b,rfl,rfl,vs,h1,us,h2,by lia,?_⟩;rcases q with ⟨hl,q⟩|⟨rfl,he,hd,q⟩;exact .inl ⟨by rw[<-r1.len,<-r2.len];exact hl,k false _ _ F H (BB.refl _) I.pB q⟩;exact .inr ⟨by rw[<-r1.len,<-r2.len],⟨90,xg I.sub xs 90 vs us he hd r1 r2,by lia⟩,k false _ _ F H (BB.refl _) I.pB q⟩
theorem DB.strs:∀{ks:List Str}{vs:List V},DB F (ks.map D.str) vs->vs=ks.map V.str
 | [],vs,h=>h
 |k::ks,vs,h=>by obtain⟨v,r,rfl,h1,h2⟩:=h;rw[DB.strs h2];cases(show v=.str k from h1);rfl
theorem DB.ints:∀{ks:List Int}{vs:List V},DB F (ks.map D.int) vs->vs=ks.map V.int
 | [],vs,h=>h
 |k::ks,vs,h=>by obtain⟨v,r,rfl,h1,h2⟩:=h;rw[DB.ints h2];cases(show v=.int k from h1);rfl
theorem DB.bls:∀{ks:List Bool}{vs:List V},DB F (ks.map D.bl) vs->vs=ks.map V.bl
 | [],vs,h=>h
 |k::ks,vs,h=>by obtain⟨v,r,rfl,h1,h2⟩:=h;rw[DB.bls h2];cases(show v=.bl k from h1);rfl
def Nq:D->D->(Bool->D->Prop)->Prop:=fun x y Q=>∃(k:Str)(ks:List Str),x=.str k/\y=.lst (ks.map .str)/\Q false (.bl (!decide (k∈ks)))
def fInT:D->D->(Bool->D->Prop)->Prop:=fun x y Q=>∃(k:Str)(ks:List Str),x=.str k/\y=.tup (ks.map .str)/\Q false (.bl (decide (k∈ks)))
def Ri:OpS (fun x y H Q=>∃p,y=.ref p/\∃xs,H p=some (.lst xs)/\Lb x=true/\xs.all Lb=true/\Q (.bl (!inV x xs)) H) Nq:=by intro io H0 F0 F δ σ H x y v u Q Qd I px py q k;obtain⟨s,ks,rfl,rfl,q⟩:=q;obtain⟨b,us,rfl,h2,r2⟩:=py.lst I;cases px.str;cases r2.strs;refine⟨b,rfl,_,h2,rfl,Aq ks,k false _ _ F H (BB.refl _) (I.pushF ?_) q⟩;rw[yq];rfl
def Si:OpS (fun x y H Q=>∃p,y=.ref p/\∃xs,H p=some (.tup xs)/\Lb x=true/\xs.all Lb=true/\Q (.bl (inV x xs)) H) fInT:=by intro io H0 F0 F δ σ H x y v u Q Qd I px py q k;obtain⟨s,ks,rfl,rfl,q⟩:=q;obtain⟨b,us,rfl,h2,r2⟩:=py.tup I;cases px.str;cases r2.strs;refine⟨b,rfl,_,h2,rfl,Aq ks,k false _ _ F H (BB.refl _) (I.pushF ?_) q⟩;rw[yq];rfl
def Kc (td:TEd):TTd:=fun δ Q=>td δ fun _ d δ'=>blK d fun c=>Q c δ'
def Ch(s:Sim te td):WB (tB te) (Kc td):=by intro io H0 F0 F δ σ H Q Qd I q k;refine s.fz I q fun d v δ' F' H' sf I' r q'=>?_;replace q':=qx q';obtain⟨c,rfl,q'⟩:=q';exact⟨c,r,k c δ' F' H' sf I' q'⟩
def Tk(s:Sim te td):WB (q8u te) (Kc td):=Ch s
def dNot (t:TTd):TTd:=fun δ Q=>t δ fun c δ'=>Q (!c) δ'
def dAnd (t u:TTd):TTd:=fun δ Q=>t δ fun c δ'=>if c=true then u δ' Q else Q false δ'
def dOr (t u:TTd):TTd:=fun δ Q=>t δ fun c δ'=>if c=true then Q true δ' else u δ' Q
def Ix(s:WB t td):WB (tNot t) (dNot td):=fun io H0 F0 F δ σ H Q Qd I q k =>
 s io H0 F0 F δ σ H _ _ I q fun b δ' F' H' sf I' q'=>k (!b) δ' F' H' sf I' q'
def Jx(s:WB t td)(s':WB u ud):WB (tAnd t u) (dAnd td ud):=by
 intro io H0 F0 F δ σ H Q Qd I q k;refine s io H0 F0 F δ σ H _ _ I q fun b δ' F' H' sf I' q'=>?_;cases b with
 |true=>rw[if_pos rfl]at q' ⊢;exact s' io H0 F0 F' δ' σ H' _ _ I' q' fun b δ2 F2 H2 s2 I2 q2=>k b δ2 F2 H2 (sf.trans s2) I2 q2
 |false=>rw[if_neg Bool.false_ne_true]at q' ⊢;exact k false δ' F' H' sf I' q'
def Kx(s:WB t td)(s':WB u ud):WB (tOr t u) (dOr td ud):=by
 intro io H0 F0 F δ σ H Q Qd I q k;refine s io H0 F0 F δ σ H _ _ I q fun b δ' F' H' sf I' q'=>?_;cases b with
 |false=>rw[if_neg Bool.false_ne_true]at q' ⊢;exact s' io H0 F0 F' δ' σ H' _ _ I' q' fun b δ2 F2 H2 s2 I2 q2=>k b δ2 F2 H2 (sf.trans s2) I2 q2
 |true=>rw[if_pos rfl]at q' ⊢;exact k true δ' F' H' sf I' q'
noncomputable def truD:D->Option Bool
 |.lst xs=>some (!xs.isEmpty)
 |.tup xs=>some (!xs.isEmpty)
 |.dct xs=>some (!xs.isEmpty)
 |.bl b=>some b
 |.int i=>some (i != 0)
 |.non=>some false
 |_=>none
def DB.isEmpty(h:DB F ds vs):vs.isEmpty=ds.isEmpty:=by
 cases ds with
 |nil=>cases(show vs=[] from h);rfl
 |cons d ds=>obtain⟨v,r,rfl,_⟩:=h;rfl
def JB.isEmpty(h:JB F ds vs):vs.isEmpty=ds.isEmpty:=by
 cases ds with
 |nil=>cases(show vs=[] from h);rfl
 |cons d ds=>obtain⟨v,r,rfl,_⟩:=h;rfl
def Lx{b:Bool}(I:EI io H0 F0 F δ σ H)(p:Pk F H d v)(h:truD d=some b):TruV K v H b:=by
 cases d with
 |lst xs =>
  obtain⟨a,vs,rfl,h1,r⟩:=p.lst I;cases h;exact .inl ⟨vs,SqL.of h1,by rw[r.isEmpty]⟩
 |tup xs =>
  obtain⟨a,vs,rfl,h1,r⟩:=p.tup I;cases h;exact .inr (.inl ⟨vs,SqT.of h1,by rw[r.isEmpty]⟩)
 |dct xs =>
  obtain⟨a,vs,rfl,h1,r⟩:=p.dct I;cases h;exact .inr (.inr ⟨vs,h1,by rw[r.isEmpty]⟩)
 |bl c=>cases p.bl;cases h;rfl
 |int c=>cases p.int;cases h;rfl
 |non=>cases p.non;cases h;rfl
 |str c=>cases h
 |ty c=>cases h
def Uk (i:Nat):TTd:=fun δ Q=>∃d c,kC δ i=some d/\truD d=some c/\Q c δ
variable {gB:List Expr}
def Mc (h:DE X a da)(he:∀whole,isTrue a X.env whole=(do let v <-whole;standAt a.pos;holding [v] (truthy v)):=by intro _;rfl):DT X a (Kc da):=by obtain⟨ta,pa,sa⟩:=h;exact⟨_,Zc pa he,Ch sa⟩
def La(hs:OpS r f)(ho:OpR X (compareOp op) r)(ha:DE X a da)(hb:DE X b db)(hm:behindInMarks op b=false):DT X (.Compare a [op] [b] pos) (Kc (dOp f da db)):=by obtain⟨ta,pa,sa⟩:=ha;obtain⟨tb,pb,sb⟩:=hb;exact⟨_,Yd ho pa pb hm,Tk (Mi hs sa sb)⟩
def Ti(hs:OpS r f)(ho:OpR X (compareOp op) r)(ha:PE X (.Name x p) (tVar i))(hb:DE X b db)(hm:behindInMarks op b=false):DT X (.Compare (.Name x p) [op] [b] pos) (Kc (dG f i db)):=by obtain⟨tb,pb,sb⟩:=hb;exact⟨_,Yd ho ha pb hm,Tk (Qk hs sb)⟩
def Vk(hs:OpS r f)(ho:OpR X (compareOp op) r)(ha:DE X a da)(hb:PE X (.Name x p) (tVar i))(hm:behindInMarks op (.Name x p)=false):DT X (.Compare a [op] [.Name x p] pos) (Kc (dOpW f da i)):=by obtain⟨ta,pa,sa⟩:=ha;exact⟨_,Yd ho pa hb hm,Tk (Ex hs sa)⟩
def fe(h:DT X a t):DT X (.UnaryOp .Not a pos) (dNot t):=by obtain⟨u,p,s⟩:=h;exact⟨_,sk p,Ix s⟩
def Bf(h:DT X a t):DW X (.BoolOp .And [a] pos) t:=by obtain⟨u,p,s⟩:=h;exact⟨_,y8 p,s⟩
def Dh(h:DT X a t):DW X (.BoolOp .Or [a] pos) t:=by obtain⟨u,p,s⟩:=h;exact⟨_,Zo p,s⟩
def Cf(h:DT X a t)(h':DW X (.BoolOp .And (b::gB) pos) u):DW X (.BoolOp .And (a::b::gB) pos) (dAnd t u):=by obtain⟨t',p,s⟩:=h;obtain⟨u',p',s'⟩:=h';exact⟨_,mi p p',Jx s s'⟩
def Eh(h:DT X a t)(h':DW X (.BoolOp .Or (b::gB) pos) u):DW X (.BoolOp .Or (a::b::gB) pos) (dOr t u):=by obtain⟨t',p,s⟩:=h;obtain⟨u',p',s'⟩:=h';exact⟨_,pw_or p p',Kx s s'⟩
def aG(h:DW X a t):DT X a t:=by obtain⟨u,p,s⟩:=h;exact⟨_,p.pt,s⟩
def Oq(ha:PE X (.Name x p) (tVar i))(he:∀whole,isTrue (.Name x p) X.env whole=(do let v <-whole;standAt (Expr.Name x p).pos;holding [v] (truthy v)):=by intro _;rfl):DT X (.Name x p) (Uk i):=by refine⟨_,zk ha he,fun io H0 F0 F δ σ H Q Qd I q k=>?_⟩;obtain⟨d,c,e,ec,q⟩:=q;obtain⟨v,ev,pk⟩:=I.pk e;exact⟨v,ev,c,Lx I pk ec,k c δ F H (BB.refl _) I q⟩
def Xk (ta tb:TEd):TEd:=fun δ Q=>ta δ fun _ x δ'=>∃c,x=.bl c/\if c=true then tb δ' Q else Q false (.bl false) δ'
def Yk (ta:TEd):TEd:=fun δ Q=>ta δ fun _ x δ'=>∃c,x=.bl c/\Q false (.bl (!c)) δ'
def dIf (t:TTd)(ta tb:TEd):TEd:=fun δ Q=>t δ fun c δ'=>if c=true then ta δ' Q else tb δ' Q
def Zk {op}(h:DE X a da):DE X (.BoolOp op [a] pos) da:=by obtain⟨t,p,s⟩:=h;exact⟨_,uk p,s⟩
def Ui (ha:DE X a da)(hb:DE X (.BoolOp .And (b::gB) pos) db):DE X (.BoolOp .And (a::b::gB) pos) (Xk da db):=by
 obtain⟨ta,pa,sa⟩:=ha;obtain⟨tb,pb,sb⟩:=hb;refine⟨_,oi pa pb,fun io H0 F0 F δ σ H Q Qd I q k=>sa.fz I q fun d v δ' F' H' sf I' r q'=>?_⟩;obtain⟨c,rfl,q'⟩:=q';refine⟨c,r,?_⟩;cases c with
 |true=>rw[if_pos rfl]at q' ⊢;exact sb io H0 F0 F' δ' σ H' Q Qd I' q' fun b d v δ2 F2 H2 s2 I2 q2=>k b d v δ2 F2 H2 (sf.trans s2) I2 q2
 |false=>rw[if_neg Bool.false_ne_true]at q' ⊢;exact k false _ _ δ' F' H' sf I'.pB q'
def Mx (ha:DE X a da):DE X (.UnaryOp .Not a pos) (Yk da):=by obtain⟨ta,pa,sa⟩:=ha;refine⟨_,ap pa,fun io H0 F0 F δ σ H Q Qd I q k=>sa.fz I q fun d v δ' F' H' sf I' r q'=>?_⟩;obtain⟨c,rfl,q'⟩:=q';exact⟨c,r,k false _ _ δ' F' H' sf I'.pB q'⟩
def de_if(hc:DT X c t)(ha:DE X a da)(hb:DE X b db):DE X (.IfExp c a b pos) (dIf t da db):=by
 obtain⟨tc,pc,sc⟩:=hc;obtain⟨ta,pa,sa⟩:=ha;obtain⟨tb,pb,sb⟩:=hb;refine⟨_,bp pc pa pb,fun io H0 F0 F δ σ H Q Qd I q k=>sc io H0 F0 F δ σ H _ _ I q fun c δ' F' H' sf I' q'=>?_⟩;cases c with
 |true=>rw[if_pos rfl]at q' ⊢;exact sa io H0 F0 F' δ' σ H' Q Qd I' q' fun b d v δ2 F2 H2 s2 I2 q2=>k b d v δ2 F2 H2 (sf.trans s2) I2 q2
 |false=>rw[if_neg Bool.false_ne_true]at q' ⊢;exact sb io H0 F0 F' δ' σ H' Q Qd I' q' fun b d v δ2 F2 H2 s2 I2 q2=>k b d v δ2 F2 H2 (sf.trans s2) I2 q2
def dNeg (ta:TEd):TEd:=fun δ Q=>ta δ fun _ x δ'=>∃i,x=.int i/\Q false (.int (-i)) δ'
def Nx (ha:DE X a da):DE X (.UnaryOp .USub a pos) (dNeg da):=by obtain⟨ta,pa,sa⟩:=ha;refine⟨_,pe_un qp pa,fun io H0 F0 F δ σ H Q Qd I q k=>sa.fz I q fun d v δ' F' H' sf I' r q'=>?_⟩;obtain⟨c,rfl,q'⟩:=q';exact⟨c,r,k false _ _ δ' F' H' sf I'.pI q'⟩
def mE:TLd:=fun δ Q=>Q [] δ
def kc (t:TEd)(u:TLd):TLd:=fun δ Q=>t δ fun _ d δ'=>u δ' fun ds δ''=>Q (d::ds) δ''
def ja:DL X [] mE:=⟨_,Da,fun io H0 F0 F δ σ H Q Qd I q k=>k [] [] δ F H (BB.refl _) I rfl q⟩
def aa(ha:DE X a da)(hr:DL X es u)(hs:starEach (a::es) X.env=(false,eval a X.env)::starEach es X.env:=by rfl):DL X (a::es) (kc da u):=by obtain⟨ta,pa,sa⟩:=ha;obtain⟨tr,pr,sr⟩:=hr;refine⟨_,Aa pa pr hs,fun io H0 F0 F δ σ H Q Qd I q k=>sa.fz I q fun d v δ' F' H' sf I' r q'=>sr io H0 F0 F' δ' σ H' _ _ I' q' fun ds vs δ2 F2 H2 s2 I2 r2 q2=>?_⟩;exact k (d::ds) (v::vs) δ2 F2 H2 (sf.trans s2) I2 ⟨v,vs,rfl,Rep.mono s2 _ _ r,r2⟩ q2
def dTup (u:TLd):TEd:=fun δ Q=>u δ fun ds δ'=>ds.length<=sizeLine/\Q false (.tup ds) δ'
def dLst (u:TLd):TEd:=fun δ Q=>u δ fun ds δ'=>ds.length<=sizeLine/\Q true (.lst ds) δ'
def Xa {x1}(h:DL X es u):DE X (.Tuple es x1 pos) (dTup u):=by obtain⟨t,p,s⟩:=h;refine⟨_,ah p,fun io H0 F0 F δ σ H Q Qd I q k=>s io H0 F0 F δ σ H _ _ I q fun ds vs δ' F' H' sf I' r q'=>⟨by rw[<-r.len];exact q'.1,fun p hp=>?_⟩⟩;obtain⟨F2,s2,I2,r2⟩:=I'.newT hp r;exact k false _ _ δ' F2 _ (sf.trans s2) (I2.pushF r2) q'.2
def Ia(h:DL X es u):DE X (.List es pos) (dLst u):=by obtain⟨t,p,s⟩:=h;exact⟨_,ac p,fun io H0 F0 F δ σ H Q Qd I q k=>s io H0 F0 F δ σ H _ _ I q fun ds vs δ' F' H' sf I' r q'=>⟨by rw[<-r.len];exact q'.1,fun p hp=>k true _ _ δ' F' _ sf (I'.newL hp r) q'.2⟩⟩
noncomputable def Uc (r:List V->Hp->VK->Prop)(f:List D->(Bool->D->Prop)->Prop):Prop:=∀(io:List (Option Addr))(H0 F0 F:Hp)(δ:List Slot)(σ:St)(H:Hp)(xs:List D)(vs:List V)(Q:VK)(Qd:Bool->D->Prop),EI io H0 F0 F δ σ H->Paired (Pk F H) xs vs->f xs Qd ->
 (∀b d w F' H',BB F F'->EI (none::io) H0 F0 F' (rsl b d::δ) (some w::σ) H'->Qd b d->Q w H')->r vs H Q
theorem DB.pks:∀{ds:List D}{vs:List V},DB F ds vs->Paired (Pk F H) ds vs
 | [],vs,h=>by cases(show vs=[] from h);exact .nil
 |d::ds,vs,h=>by obtain⟨v,r,rfl,h1,h2⟩:=h;exact .cons (.inl h1) (DB.pks h2)
def dCB (f:List D->(Bool->D->Prop)->Prop)(u:TLd):TEd:=fun δ Q=>u δ fun ds δ'=>f ds fun b d=>Q b d δ'
def dCBV (f:List D->(Bool->D->Prop)->Prop)(i:Nat):TEd:=fun δ Q=>cB i δ fun s=>pkS s fun d=>f [d] fun b d=>Q b d δ
def Qq {r:List V->Hp->VK->Prop}{f:List D->(Bool->D->Prop)->Prop}(hs:Uc r f)(s:SimL t u):Sim (tCB r t) (dCB f u):=fun io H0 F0 F δ σ H Q Qd I q k =>
 s io H0 F0 F δ σ H _ _ I q fun ds vs δ' F' H' sf I' r q'=>hs io H0 F0 F' δ' σ H' ds vs Q _ I' r.pks q' fun b d w F2 H2 s2 I2 q2=>k b d w δ' F2 H2 (sf.trans s2) I2 q2
def Ox {r:List V->Hp->VK->Prop}{f:List D->(Bool->D->Prop)->Prop}(hs:Uc r f):Sim (tCB r (y0i (tVar i) tNil)) (dCBV f i):=fun io H0 F0 F δ σ H Q Qd I q k=>by
 replace q:=vh q;obtain⟨d,e,q⟩:=q;obtain⟨v,ev,pk⟩:=I.pk e;exact⟨v,ev,hs io H0 F0 F δ σ H [d] [v] Q _ I (.cons pk .nil) q fun b d w F2 H2 s2 I2 q2=>k b d w δ F2 H2 s2 I2 q2⟩
end
section
variable {X:Cx}{pos p p':Pos}{e:Expr}{es:List Expr}{x y:Str}{u:TLd}{f:List D->(Bool->D->Prop)->Prop}{r:List V->Hp->VK->Prop}{id T:String}
def yg (hs:Uc r f)(hc:yc X (.builtin id) r)(hg:Gl X x)(hm:X.mg x=none)(hv:bootBuiltins x=some (.builtin id))(ha:DL X (e::es) u)(hn:x ≠ "__name__":=by decide)(J0:(x == ("__debug__":Str))=false:=by decide)
  (he:starEach (e::es) X.env=(false,eval e X.env)::starEach es X.env:=by rfl)(K0:(backTo pos (starEach es X.env)).any (·.1)=false:=by rfl):DE X (.Call (.Name x p) (e::es) [] pos) (dCB f u):=by
 obtain⟨t,pt,s⟩:=ha;exact⟨_,Tc hc hg hm hv pt hn J0 he K0,Qq hs s⟩
def Rq(hs:Uc r f)(hc:yc X (.builtin id) r)(hg:Gl X x)(hm:X.mg x=none)(hv:bootBuiltins x=some (.builtin id))(ha:PE X (.Name y p') (tVar i))(hn:x ≠ "__name__":=by decide)(J0:(x == ("__debug__":Str))=false:=by decide)
  (he:starEach [.Name y p'] X.env=[(false,eval (.Name y p') X.env)]:=by rfl)(K0:(backTo pos (starEach [] X.env)).any (·.1)=false:=by rfl):DE X (.Call (.Name x p) [.Name y p'] [] pos) (dCBV f i) :=
 ⟨_,Tc hc hg hm hv (Aa ha Da he) hn J0 he K0,Ox hs⟩
def zg (hs:Uc r f)(hc:yc X (.type T) r)(hg:Gl X x)(hm:X.mg x=none)(hv:bootBuiltins x=some (.type T))(ha:DL X (e::es) u)(hn:x ≠ "__name__":=by decide)(J0:(x == ("__debug__":Str))=false:=by decide)
  (he:starEach (e::es) X.env=(false,eval e X.env)::starEach es X.env:=by rfl)(K0:(backTo pos (starEach es X.env)).any (·.1)=false:=by rfl):DE X (.Call (.Name x p) (e::es) [] pos) (dCB f u):=by
 obtain⟨t,pt,s⟩:=ha;exact⟨_,Bk hc hg hm hv pt hn J0 he K0,Qq hs s⟩
def dH(h:Paired (Pk F H) [d] vs):∃v,vs=[v]/\Pk F H d v:=by
 cases h with
 |cons h t=>cases t;exact⟨_,rfl,h⟩
def pks2(h:Paired (Pk F H) [d,d'] vs):∃v v',vs=[v,v']/\Pk F H d v/\Pk F H d' v':=by
 cases h with
 |cons h t =>
  cases t with
  |cons h' t=>cases t;exact⟨_,_,rfl,h,h'⟩
def il:List D->(Bool->D->Prop)->Prop:=fun ds Q=>vg ds fun xs=>Q false (.int xs.length)
def jl:List D->(Bool->D->Prop)->Prop:=fun ds Q=>∃z,ds=[.str z]/\z.length<=sizeLine/\Q false (.int z.length)
def Vi:Uc (fun xs H Q=>∃p,xs=[.ref p]/\∃ys,H p=some (.lst ys)/\Q (.int ys.length) H) il:=by intro io H0 F0 F δ σ H xs vs Q Qd I px q k;replace q:=xx q;obtain⟨ys,rfl,q⟩:=q;obtain⟨v,rfl,pk⟩:=dH px;obtain⟨a,us,rfl,h1,r⟩:=pk.lst I;refine⟨a,rfl,us,h1,k false (.int ys.length) _ F H (BB.refl _) (I.pushF ?_) q⟩;rw[r.len];rfl
def Px:Uc (fun xs H Q=>∃z,xs=[.str z]/\z.length<=sizeLine/\Q (.int z.length) H) jl:=by intro io H0 F0 F δ σ H xs vs Q Qd I px q k;obtain⟨z,rfl,hz,q⟩:=q;obtain⟨v,rfl,pk⟩:=dH px;cases pk.str;exact⟨z,rfl,hz,k false _ _ F H (BB.refl _) I.pI q⟩
noncomputable def tyD:D->String
 |.non=>"NoneType" | .bl _=>"bool" | .int _=>"int" | .str _=>"str" | .ty _=>"type" | .lst _=>"list" | .tup _=>"tuple" | .dct _=>"dict"
noncomputable def isTy (t T:String):Bool:=t == T||(t == "bool"&&T == "int")
def Wi (K:W.Frag):Prop:=∀t∈["str","int","bool","list","tuple","dict","NoneType"],∀T∈["str","int","bool","list","tuple","dict"],kitOne K (.type t) (.type T)=some (isTy t T)
def vH:List D->(Bool->D->Prop)->Prop:=fun ds Q=>∃d T,ds=[d,.ty T]/\tyD d ≠ "type"/\T∈["str","int","bool","list","tuple","dict"]/\Q false (.bl (isTy (tyD d) T))
def Qx(I:EI io H0 F0 F δ σ H)(p:Pk F H d v)(h:tyD d ≠ "type"):ZB K H v (.type (tyD d)):=by
 cases d with
 |lst xs=>obtain⟨a,vs,rfl,h1,r⟩:=p.lst I;exact .lst h1
 |tup xs=>obtain⟨a,vs,rfl,h1,r⟩:=p.tup I;exact .tup h1
 |dct xs=>obtain⟨a,vs,rfl,h1,r⟩:=p.dct I;exact .dK h1
 |bl c=>cases p.bl;exact .bl c
 |int c=>cases p.int;exact .int c
 |str c=>cases p.str;exact .str c
 |non=>cases p.non;exact .non
 |ty c=>exact absurd rfl h
def Rx(hk:Wi K):Uc (fun xs H Q=>∃x T t b,xs=[x,.ty T]/\ZB K H x t/\kitOne K t (.type T)=some b/\Q (.bl b) H) vH:=by
 intro io H0 F0 F δ σ H xs vs Q Qd I px q k;obtain⟨d,T,rfl,hd,hT,q⟩:=q;obtain⟨v,v',rfl,p1,p2⟩:=pks2 px;have e:v' = .ty T:=by
  rcases p2 with h|⟨a,_,h⟩;exact h;exact h.elim
 subst e;refine⟨v,T,_,_,rfl,Qx I p1 hd,hk _ ?_ T hT,k false _ _ F H (BB.refl _) I.pB q⟩;cases d<;>first|exact absurd rfl hd|simp[tyD]
def ql:List D->(Bool->D->Prop)->Prop:=fun ds Q=>∃xs,ds=[.lst xs]/\Q true (.lst xs)
def Xi:Uc (fun xs H Q=>∃p,xs=[.ref p]/\∃ys,H p=some (.lst ys)/\∀l,H l=none->Q (.ref l) (upd H l (.lst ys))) ql:=by intro io H0 F0 F δ σ H xs vs Q Qd I px q k;obtain⟨ys,rfl,q⟩:=q;obtain⟨v,rfl,pk⟩:=dH px;obtain⟨a,us,rfl,h1,r⟩:=pk.lst I;exact⟨a,rfl,us,h1,fun l hl=>k true _ _ F _ (BB.refl _) (I.newL hl r) q⟩
def j6:List D->(Bool->D->Prop)->Prop:=fun ds Q=>(∃i,ds=[.int i]/\Q false (.int i)) \/ ∃b,ds=[.bl b]/\Q false (.int (if b then 1 else 0))
def cs_int:Uc (fun xs H Q=>(∃i,xs=[.int i]/\Q (.int i) H) \/ ∃k,xs=[.bl k]/\Q (.int (if k then 1 else 0)) H) j6:=by intro io H0 F0 F δ σ H xs vs Q Qd I px q k;rcases q with ⟨i,rfl,q⟩|⟨b,rfl,q⟩;obtain⟨v,rfl,pk⟩:=dH px;cases pk.int;exact .inl ⟨i,rfl,k false _ _ F H (BB.refl _) I.pI q⟩;obtain⟨v,rfl,pk⟩:=dH px;cases pk.bl;exact .inr ⟨b,rfl,k false _ _ F H (BB.refl _) I.pI q⟩
def dRev (td:TEd):TEd:=fun δ Q=>td δ fun _ d δ'=>∃xs,d=.lst xs/\Q true (.lst xs.reverse) δ'
def Sx(s:Sim te td):Sim (tRev K te) (dRev td):=fun io H0 F0 F δ σ H Q Qd I q k=>s.fz I q fun d v δ' F' H' sf I' r q'=>by
 obtain⟨xs,rfl,q'⟩:=q';obtain⟨a,vs,rfl,h1,r1⟩:=r;exact⟨a,vs,rfl,I'.sub _ _ h1,fun l hl=>k true _ _ δ' F' _ sf (I'.newL hl r1.rev) q'⟩
def Sq(hc:X.calm=true)(hgL:Gl X "list")(hmL:X.mg "list" = none)(hgR:Gl X "reversed")(hmR:X.mg "reversed" = none)(he:DE X e td)
  (hs1:starEach [.Call (.Name "reversed" p2) [e] [] p3] X.env=[(false,eval (.Call (.Name "reversed" p2) [e] [] p3) X.env)]:=by rfl)(hs2:starEach [e] X.env=[(false,eval e X.env)]:=by rfl) :
  DE X (.Call (.Name "list" p1) [.Call (.Name "reversed" p2) [e] [] p3] [] pos) (dRev td):=by
 obtain⟨t,p,s⟩:=he;exact⟨_,pq hc hgL hmL hgR hmR p hs1 hs2,Sx s⟩
def MtS (r:V->List V->Hp->VK->Prop)(f:D->List D->(D->D->Prop)->Prop):Prop:=∀(F H:Hp)(a:Addr)(c:D)(xs:List D)(vs:List V)(Q:VK)(Qd:D->D->Prop),BB F H->AC F H a c->F a=none->DB F xs vs->f c xs Qd ->
 (∀c' d w o,AC F (upd H a o) a c'->Rep F d w->Qd c' d->Q w (upd H a o))->r (.ref a) vs H Q
def dMt (f:D->List D->(D->D->Prop)->Prop)(i:Nat)(u:TLd):TEd:=fun δ Q=>cB i δ fun s=>pkS s fun d=>isLK d (u δ fun ds δ'=>cB i δ' fun s=>obK s fun fl c=>f c ds fun c' d=>fE i (.ob fl c') δ' fun δ''=>Q false d δ'')
def Tx(h:isLK d P):∃xs,d=.lst xs/\P:=by cases d<;>first|exact⟨_,rfl,h⟩|exact h.elim
def Tq {r:V->List V->Hp->VK->Prop}{f:D->List D->(D->D->Prop)->Prop}(hs:MtS r f)(s:SimL t u):Sim (tLM r (tVar i) t) (dMt f i u):=fun io H0 F0 F δ σ H Q Qd I q k=>by
 replace q:=vh q;obtain⟨d0,e0,q⟩:=q;replace q:=Tx q;obtain⟨xs,rfl,q⟩:=q;obtain⟨v,ev,pk⟩:=I.pk e0;obtain⟨a,vs,rfl,h1,_⟩:=pk.lst I;refine⟨_,ev,a,rfl,⟨vs,h1⟩,s io H0 F0 F δ σ H _ _ I q fun ds us δ' F' H' sf I' r q'=>?_⟩;replace q':=vx q';obtain⟨fl,c,ec,q'⟩:=q';obtain⟨a',ea,n1,n2,hc,hio⟩:=I'.get i _ ec;have:a' = a:=by
  have:=Ec ea;rw[ev]at this;cases this;rfl
 subst this;refine hs F' H' a' c ds us Q _ I'.sub hc n2 r q' fun c' d w o hc' rd qd=>?_;exact k false d w _ F' _ sf ((I'.change ec ea hc').pushF rd) qd
def Ux {r:V->List V->Hp->VK->Prop}{f:D->List D->(D->D->Prop)->Prop}(hs:MtS r f):Sim (tLM0 r (tVar i)) (dMt f i mE):=fun io H0 F0 F δ σ H Q Qd I q k=>by
 obtain⟨v,ev,a,e,h1,h2⟩:=(Tq (t:=tNil) (u:=mE) hs fun io H0 F0 F δ σ H Q Qd I q k=>k [] [] δ F H (BB.refl _) I rfl q) io H0 F0 F δ σ H Q Qd I q k;exact⟨v,ev,a,e,h1,h2⟩
end
section
variable {X:Cx}{x name:Str}{p apos cpos:Pos}{e:Expr}{es:List Expr}{i:Nat}{u:TLd}{f:D->List D->(D->D->Prop)->Prop}{r:V->List V->Hp->VK->Prop}{id:String}
def Uq (hs:MtS r f)(slot:PySem.Slot "list" name id)(hty:typeOf (.builtin id)=pure (.type "method_descriptor"))(hm:MtR X id r)(ho:PE X (.Name x p) (tVar i))
  (B0:attributeBase (.Name x p) name X.env (eval (.Name x p) X.env)=eval (.Name x p) X.env:=by rfl)(A0:(apos.endLine == cpos.line)=true:=by rfl):DE X (.Call (.Attribute (.Name x p) name apos) [] [] cpos) (dMt f i mE):=⟨_,Kk slot hty hm ho B0 A0,Ux hs⟩
def Yi (hs:MtS r f)(slot:PySem.Slot "list" name id)(hty:typeOf (.builtin id)=pure (.type "method_descriptor"))(hm:MtR X id r)(ho:PE X (.Name x p) (tVar i))(ha:DL X (e::es) u)
  (B0:attributeBase (.Name x p) name X.env (eval (.Name x p) X.env)=eval (.Name x p) X.env:=by rfl)
  (D0:((backTo cpos (starEach (e::es) X.env)).all (fun x=>!x.1)&&(backToKw cpos (keywordEach [] X.env)).all (fun x=>x.1.isSome)
  &&decide ((e::es).length+([]:List Keyword).length+(if ([]:List Keyword).isEmpty then 0 else 1)<30))=true:=by rfl)
  (A0:(apos.endLine == cpos.line)=true:=by rfl)(I0:starEach (e::es) X.env=(false,eval e X.env)::starEach es X.env:=by rfl)(C0:(backTo cpos (starEach es X.env)).any (·.1)=false:=by rfl) :
  DE X (.Call (.Attribute (.Name x p) name apos) (e::es) [] cpos) (dMt f i u):=by
 obtain⟨t,pt,s⟩:=ha;exact⟨_,Be slot hty hm ho pt B0 D0 A0 I0 C0,Tq hs s⟩
def Ag:D->List D->(D->D->Prop)->Prop:=fun c ds Q=>uD c fun xs=>oneK ds fun d=>xs.length<sizeLine/\Q (.lst (xs++[d])) .non
def xl:D->List D->(D->D->Prop)->Prop:=fun c ds Q=>∃xs ys,c=.lst xs/\ds=[.lst ys]/\xs.length+ys.length<=sizeLine/\Q (.lst (xs++ys)) .non
def fPop:D->List D->(D->D->Prop)->Prop:=fun c ds Q=>∃xs d,c=.lst xs/\ds=[]/\xs[xs.length - 1]? = some d/\Q (.lst xs.dropLast) d
def DB.one_inv(h:DB F [d] vs):∃v,vs=[v]/\Rep F d v:=by obtain⟨v,r,rfl,h1,h2⟩:=h;cases(show r=[] from h2);exact⟨v,rfl,h1⟩
def Vx:MtS z5s Ag:=by intro F H a c xs vs Q Qd s hc hf r q k;replace q:=ug q;obtain⟨ys,rfl,q⟩:=q;replace q:=yx q;obtain⟨d,rfl,hl,q⟩:=q;obtain⟨us,h1,r1⟩:=hc;obtain⟨v,rfl,rv⟩:=r.one_inv;exact⟨a,us,v,rfl,rfl,h1,by rw[<-r1.len];exact hl,k (.lst _) .non .non _ ⟨_,z0g,r1.app (.one rv)⟩ rfl q⟩
def zl:MtS z7h xl:=by intro F H a c xs vs Q Qd s hc hf r q k;obtain⟨ys,d,rfl,rfl,hl,q⟩:=q;obtain⟨us,h1,r1⟩:=hc;obtain⟨v,rfl,b,ws,rfl,h2,r2⟩:=r.one_inv;exact⟨a,b,us,ws,rfl,rfl,h1,s _ _ h2,by rw[<-r1.len,<-r2.len];exact hl,k (.lst _) .non .non _ ⟨_,z0g,r1.app r2⟩ rfl q⟩
def Vq:MtS rPop fPop:=by intro F H a c xs vs Q Qd s hc hf r q k;obtain⟨ys,d,rfl,rfl,hl,q⟩:=q;obtain⟨us,h1,r1⟩:=hc;cases(show vs=[] from r);obtain⟨v,ev,rv⟩:=r1.get hl;exact⟨a,us,v,rfl,rfl,h1,by rw[<-r1.len];exact ev,k (.lst _) d v _ ⟨_,z0g,r1.dropLast⟩ rv q⟩
def Zi:TSd:=fun E δ=>E.nx δ
def kG (t u:TSd):TSd:=fun E δ=>t { E with nx:=u E } δ
def dRet (td:TEd):TSd:=fun E δ=>td δ E.rt
def dBrk:TSd:=fun E δ=>E.bk δ
def Al:TSd:=fun _ _=>False
def Bg (td:TEd):TSd:=fun E δ=>td δ fun _ _ δ'=>E.nx δ'
def wH (c:TTd)(t u:TSd):TSd:=fun E δ=>c δ fun b δ'=>if b=true then t E δ' else u E δ'
def lG (i:Nat)(td:TEd):TSd:=fun E δ=>td δ fun b d δ'=>zF i (rsl b d) δ' E.nx
variable {pos:Pos}{a b:Expr}{da db:TEd}
def Wx:VB q4s Zi:=fun io H0 F0 F δ σ H E Ed I q S=>S.nx F δ σ H (BB.refl _) I q
def Xx:VB y8k Al:=fun io H0 F0 F δ σ H E Ed I q S=>q.elim
def Yx {t u:TS}(s:VB t td)(s':VB u ud):VB (tSeq t u) (kG td ud):=fun io H0 F0 F δ σ H E Ed I q S =>
 s io H0 F0 F δ σ H _ _ I q ⟨fun F' δ' σ' H' sf I' q'=>s' io H0 F0 F' δ' σ' H' E Ed I' q' (S.mono sf),S.rt,S.bk,S.ct⟩
def Zx(s:Sim te td):VB (tRet te) (dRet td):=fun io H0 F0 F δ σ H E Ed I q S =>
 s io H0 F0 F δ σ H _ _ I q fun b d v δ' F' H' sf I' q'=>S.rt b d v F' δ' σ H' sf I' q'
def ay(s:Sim te td):VB (x7f te) (Bg td):=fun io H0 F0 F δ σ H E Ed I q S =>
 s io H0 F0 F δ σ H _ _ I q fun b d v δ' F' H' sf I' q'=>S.nx F' δ' σ H' sf I'.pop q'
def cy{t u:TS}(sc:WB c cd)(s:VB t td)(s':VB u ud):VB (tIfS c t u) (wH cd td ud):=fun io H0 F0 F δ σ H E Ed I q S =>
 sc io H0 F0 F δ σ H _ _ I q fun b δ' F' H' sf I' q'=>by
  cases b with
  |true=>rw[if_pos rfl]at q' ⊢;exact s io H0 F0 F' δ' σ H' E Ed I' q' (S.mono sf)
  |false=>rw[if_neg Bool.false_ne_true]at q' ⊢;exact s' io H0 F0 F' δ' σ H' E Ed I' q' (S.mono sf)
def Wq(s:Sim te td):VB (tAsg te (x0c i)) (lG i td):=fun io H0 F0 F δ σ H E Ed I q S =>
 s io H0 F0 F δ σ H _ _ I q fun b d v δ' F' H' sf I' q'=>by
  replace q':=q0 q';obtain⟨h,q'⟩:=q';obtain⟨h1,h2⟩:=h.ne;exact S.nx F' _ _ H' sf (I'.setv h1 h2) q'
def Pa:DSs X [] Zi:=⟨_,dc,Wx⟩
def ka{gB:List Stmt}{t u:TSd}(h:DS X st t)(h':DSs X gB u):DSs X (st::gB) (kG t u):=by obtain⟨t,p,s⟩:=h;obtain⟨t',p',s'⟩:=h';exact⟨_,Ra p p',Yx s s'⟩
def ma(h:DS X st t):DSs X [st] t:=by obtain⟨t,p,s⟩:=h;exact⟨_,Ya p,s⟩
def Bl:DS X st Al:=⟨_,ip,Xx⟩
def Ea (h:DE X a da):DS X (.Return (some a) pos) (dRet da):=by obtain⟨t,p,s⟩:=h;exact⟨_,Sc p,Zx s⟩
def Xq:DS X (.Break pos) dBrk:=⟨_,Lv,fun io H0 F0 F δ σ H E Ed I q S=>S.bk F δ σ H (BB.refl _) I q⟩
def Gb (h:DE X a da)(hs:swapsWith a none pos.line X.env=pure false:=by rfl):DS X (.Expr a pos) (Bg da):=by obtain⟨t,p,s⟩:=h;exact⟨_,Vb p hs,ay s⟩
def Ja{x y:List Stmt}{t u:TSd}(hc:DT X c cd)(h:DSs X x t)(h':DSs X y u):DS X (.If c x y pos) (wH cd t u):=by obtain⟨tc,pc,sc⟩:=hc;obtain⟨t,p,s⟩:=h;obtain⟨t',p',s'⟩:=h';exact⟨_,vc pc p p',cy sc s s'⟩
def Ue(hN:X.N.Nodup)(hi:X.N[i]? = some x)(hx:Loc X.env.scope x)(he:DE X a da)(hs:swapsWith a (some (.Name x pos')) pos.line X.env=pure false:=by rfl)(hf:X.fn x=true\/X.env.scope.names.lookup x=some .local:=by first|exact .inl rfl|exact .inr rfl|assumption) :
  DS X (.Assign [.Name x pos'] a pos) (lG i da):=by obtain⟨t,p,s⟩:=he;exact⟨_,Cb hN hi hx p hs hf,Wq s⟩
def dgN (i:Nat):TGd:=fun d δ Q=>zF i (.fz d) δ Q
abbrev BC:=List D->List Slot->(List Slot->Prop)->Prop
def Df:BC:=fun ds δ Q=>match ds with | []=>Q δ|_=>False
noncomputable def je (g:TGd)(u:BC):BC:=fun ds δ Q=>match ds with|d::r=>g d δ fun δ'=>u r δ' Q | []=>False
def Yq(h:Df ds δ Q):ds=[]/\Q δ:=by
 cases ds with
 |nil=>exact⟨rfl,h⟩
 |cons _ _=>exact h.elim
def Zq{u:BC}(h:je g u ds δ Q):∃d r,ds=d::r/\g d δ fun δ'=>u r δ' Q:=by
 cases ds with
 |nil=>exact h.elim
 |cons d r=>exact⟨d,r,rfl,h⟩
def Ef (n:Nat)(u:BC):TGd:=fun d δ Q=>tupK d fun ds=>if ds.length=n then u ds δ Q else False
def ar{u:BC}(h:Ef n u d δ Q):∃ds,d=.tup ds/\ds.length=n/\u ds δ Q:=by obtain⟨ds,e,h⟩:=Gq h;by_cases z:ds.length=n;rw[if_pos z]at h;exact⟨ds,e,z,h⟩;rw[if_neg z]at h;exact h.elim
def SimGs (g:TGs)(gd:BC):Prop:=∀(io:List (Option Addr))(H0 F0 F:Hp)(δ:List Slot)(σ:St)(H:Hp)(ds:List D)(vs:List V)(Q:St->Hp->Prop)(Qd:List Slot->Prop),EI io H0 F0 F δ σ H->DB F ds vs->gd ds δ Qd ->
 (∀δ' σ',EI io H0 F0 F δ' σ' H->Qd δ'->Q σ' H)->g vs σ H Q
def DGs (X:Cx)(es:List Expr)(gd:BC):Prop:=∃g,PGs X es g/\SimGs g gd
def dy (i:Nat):SimG (x0c i) (dgN i):=fun io H0 F0 F δ σ H d v Q Qd I r q k=>by
 replace q:=q0 q;obtain⟨h,q⟩:=q;obtain⟨h1,h2⟩:=h.ne;exact k _ _ ((I.pushF r).setv (b:=false) h1 h2) q
def br(hN:X.N.Nodup)(hi:X.N[i]? = some x)(hx:Loc X.env.scope x)(hf:X.fn x=true\/X.env.scope.names.lookup x=some .local:=by first|exact .inl rfl|exact .inr rfl|assumption):DG X (.Name x pos) (dgN i):=⟨_,jd hN hi hx hf,dy i⟩
def Ve:DGs X [] Df:=⟨_,qi,fun io H0 F0 F δ σ H ds vs Q Qd I r q k=>by
 replace q:=Yq q;obtain⟨rfl,q⟩:=q;exact⟨r,k _ _ I q⟩⟩
def Ac{u:BC}(h1:DG X e g)(h2:DGs X es u)
  (hs:(assignEach (e::es) X.env).map (·.2)=assign e X.env::(assignEach es X.env).map (·.2):=by rfl):DGs X (e::es) (je g u):=by
 obtain⟨t,p,s⟩:=h1;obtain⟨t',p',s'⟩:=h2;refine⟨_,kg p p' hs,fun io H0 F0 F δ σ H ds vs Q Qd I r q k=>?_⟩;replace q:=Zq q;obtain⟨d,dr,rfl,q⟩:=q;obtain⟨v,vr,rfl,r1,r2⟩:=r;exact⟨v,vr,rfl,s io H0 F0 F δ σ H d v _ _ I r1 q fun δ' σ' I' q'=>s' io H0 F0 F δ' σ' H dr vr Q Qd I' r2 q' k⟩
def We{u:BC}(hc:X.calm=true)(h:DGs X es u)
  (hn:(assignEach es X.env).length=n:=by rfl)(I0:(assignEach es X.env).findIdx? (·.1)=none:=by rfl):DG X (.Tuple es k pos) (Ef n u):=by
 obtain⟨t,p,s⟩:=h;refine⟨_,ui hc p hn I0,fun io H0 F0 F δ σ H d v Q Qd I r q k=>?_⟩;replace q:=ar q;obtain⟨ds,rfl,hl,q⟩:=q;obtain⟨a,vs,rfl,h1,r1⟩:=r;exact⟨a,vs,rfl,SqT.of (I.sub _ _ h1),by rw[<-r1.len];exact hl,s io H0 F0 F δ σ H ds vs Q Qd I r1 q k⟩
def Dl (i:Nat)(ti tv:TEd):TSd:=fun E δ=>tv δ fun _ v δ1=>(kC δ1 i).isSome=true/\ti δ1 fun _ y δ2=>∃fl xs k j,δ2[i]? = some (.ob fl (.lst xs))/\y=.int k/\ixN xs.length k=some j/\E.nx (δ2.set i (.ob fl (.lst (xs.set j v))))
def ir(ho:PE X (.Name x p) (tVar i))(hi:DE X ie ti)(hv:DE X ve tv)(ha:∀v,assign (.Subscript (.Name x p) ie pos') X.env v=(do
   let ov <-holding [v] (eval (.Name x p) X.env);let iv <-holding [v,ov] (eval ie X.env)
   standAt pos'
   holding [v,ov,iv] (setItem ov iv v)
   release [v,ov,iv] []):=by intro _;rfl)(hs:swapsWithSole [.Subscript (.Name x p) ie pos'] ve pos.line X.env=pure false:=by rfl)(hw:swappedStores [.Subscript (.Name x p) ie pos'] ve X.env=pure none:=by rfl)
  (h1:(assignEach [.Subscript (.Name x p) ie pos'] X.env).map (·.2)=[assign (.Subscript (.Name x p) ie pos') X.env]:=by rfl):DS X (.Assign [.Subscript (.Name x p) ie pos'] ve pos) (Dl i ti tv):=by
 obtain⟨t,pi,si⟩:=hi;obtain⟨t',pv,sv⟩:=hv;refine⟨_,ps_asg pv (Mv ho pi sw ha) hs hw h1,fun io H0 F0 F δ σ H E Ed I q S=>sv.fz I q fun d v δ1 F1 H1 s1 I1 r1 q1=>?_⟩;obtain⟨p0,q1⟩:=q1;obtain⟨d0,e0⟩:=isSome_iff_exists.mp p0;obtain⟨v0,ev,_⟩:=I1.pk e0;refine⟨v0,ev,si.fz I1 q1 fun y u δ2 F2 H2 s2 I2 r2 q2=>?_⟩;obtain⟨fl,xs,k,j,ec,rfl,hj,q2⟩:=q2;obtain⟨a',ea,n1,n2,⟨vs,hc,rc⟩,hio⟩:=I2.get i _ ec;have e:=Ec ea;rw[ev]at e;cases e;exact⟨a',vs,k,j,rfl,r2,hc,by rw[<-rc.len];exact hj,S.nx F2 _ σ _ (s1.trans s2) (I2.change (c':=.lst (xs.set j d)) ec ea ⟨_,z0g,rc.set (Rep.mono s2 _ _ r1) j⟩) q2⟩
def AD (J:It)(F:Hp)(ds:List D):Prop:=∀(io:List (Option Addr))(H0 F0 F':Hp)(δ:List Slot)(σ:St)(H':Hp),BB F F'->EI io H0 F0 F' δ σ H'->∀i,
 (∀d,ds[i]? = some d->J.go i H'/\∀x H'',J.yld i H' x H''->∃F'',BB F' F''/\EI io H0 F0 F'' δ σ H''/\Rep F'' d x)/\(i=ds.length->J.stop i H')
def SimI (wi:TI)(di:TLd):Prop:=∀(io:List (Option Addr))(H0 F0 F:Hp)(δ:List Slot)(σ:St)(H:Hp)(R:It->Hp->Prop)(Qd:List D->List Slot->Prop),EI io H0 F0 F δ σ H->di δ Qd ->
 (∀J ds δ' F' H',BB F F'->EI io H0 F0 F' δ' σ H'->AD J F' ds->Qd ds δ'->R J H')->wi σ H R
def DI (X:Cx)(tg e:Expr)(di:TLd):Prop:=∃wi,PI X tg e wi/\SimI wi di
def jr (td:TEd):TLd:=fun δ Q=>td δ fun _ d δ'=>uD d fun ds=>Q ds δ'
def gy{a:Addr}(h:F a=some (.lst vs))(r:DB F ds vs):AD (Itl K a) F ds:=by intro io H0 F0 F' δ σ H' sf I i;have hH:H' a=some (.lst vs):=I.sub _ _ (sf _ _ h);refine⟨fun d e=>?_,fun e=>?_⟩;obtain⟨v,ev,rv⟩:=r.get e;refine⟨⟨vs,v,SqL.of hH,ev⟩,fun x H'' y=>?_⟩;obtain⟨e1,y⟩:=y;subst e1;have:=y vs (SqL.of hH);rw[ev]at this;cases this;exact⟨F',BB.refl _,I,Rep.mono sf _ _ rv⟩;exact⟨vs,SqL.of hH,by rw[e,r.len];exact le_refl _⟩
def fb(h:DE X a da):DI X tg a (jr da):=by obtain⟨t,p,s⟩:=h;refine⟨_,ze p,fun io H0 F0 F δ σ H R Qd I q k=>s.fz I q fun d v δ' F' H' sf I' r q'=>?_⟩;replace q':=ug q';obtain⟨ds,rfl,q'⟩:=q';obtain⟨a,vs,rfl,h1,r1⟩:=r;exact⟨a,rfl,⟨vs,SqL.of (I'.sub _ _ h1)⟩,k _ ds δ' F' H' sf I' (gy h1 r1) q'⟩
noncomputable def sB (lo:Int) (n:Nat):List D:=(range n).map fun(k:Nat)=>D.int (lo+(k:Int))
def kr (u:TLd):TLd:=fun δ Q=>u δ fun ds δ'=>uh ds fun j=>-(2 ^ 62)<=j/\j<2 ^ 62/\Q (sB 0 j.toNat) δ'
def jy(lo:Int)(n:Nat):AD (Itr lo n) F (sB lo n):=by
 intro io H0 F0 F' δ σ H' sf I i;refine⟨fun d e=>?_,fun e=>?_⟩
 ·have hi:i<n:=by
   have:=(List.getElem?_eq_some_iff.mp e).1;simpa[sB] using this
  have ed:d=.int (lo+(i:Int)):=by
   simp[sB,hi]at e;exact e.symm
  subst ed;refine⟨by simpa[Itr] using hi,fun x H'' y=>?_⟩;have y':x=.int (lo+(i:Int))/\H'' = H':=by
   obtain⟨y1,y2⟩:=y
   first
    |exact⟨y1,y2⟩
    |exact⟨y2,y1⟩
    |exact⟨y1,y2.symm⟩
  obtain⟨rfl,rfl⟩:=y';exact⟨F',BB.refl _,I,rfl⟩
 simp[sB]at e;subst e;simp[Itr]
def ke(hg:Gl X "range")(hm:X.mg "range" = none)(ha:DL X [e] u)(hs:starEach [e] X.env=[(false,eval e X.env)]:=by rfl):DI X tg (.Call (.Name "range" p) [e] [] pos) (kr u):=by obtain⟨t,pt,s⟩:=ha;refine⟨_,Rv hg hm pt hs,fun io H0 F0 F δ σ H R Qd I q k=>s io H0 F0 F δ σ H _ _ I q fun ds vs δ' F' H' sf I' r q'=>?_⟩;replace q':=wx q';obtain⟨j,rfl,h1,h2,q'⟩:=q';obtain⟨v,rfl,rv⟩:=r.one_inv;cases(show v=.int j from rv);exact⟨j,rfl,h1,h2,k _ _ δ' F' H' sf I' (jy 0 _) q'⟩
noncomputable def fgt:List Nat->List Slot->List Slot
 | [],δ=>δ
 |i::is,δ=>fgt is (δ.set i .no)
theorem EI.fgt:∀(is:List Nat){δ:List Slot},EI io H0 F0 F δ σ H->EI io H0 F0 F (VL.fgt is δ) σ H
 | [],_,I=>I
 |i::is,_,I=>EI.fgt is I.forget
def dFor (di:TLd)(g:TGd)(tb:TSd):TSd:=fun E δ=>di δ fun ds δ'=>∃(fg:List Nat)(P:List D->List Slot->Prop),P ds (fgt fg δ') /\
 (∀d r δ,P (d::r) δ->g d δ fun δ2=>tb { E with nx:=fun δ'=>P r (fgt fg δ'),ct:=fun δ'=>P r (fgt fg δ'),bk:=E.nx } δ2)/\∀δ,P [] δ->E.nx δ
def ky(si:SimI wi di)(sg:SimG g gd)(s:VB tb td):VB (tFor wi g tb) (dFor di gd td):=by
 intro io H0 F0 F δ σ H E Ed I q S;refine si io H0 F0 F δ σ H _ _ I q fun J ds δ' F' H' sf I' ok q'=>?_;obtain⟨fg,P,p0,step,fin⟩:=q';refine⟨fun i m σ H=>m=ds.length - i/\i<=ds.length/\∃F1 δ1,BB F' F1/\EI io H0 F0 F1 δ1 σ H/\P (ds.drop i) δ1,⟨ds.length,by simp,zero_le _,F',_,BB.refl _,I'.fgt fg,p0⟩,?_⟩;rintro i m σ1 H1 ⟨rfl,hi,F1,δ1,s1,I1,p1⟩;obtain⟨o1,o2⟩:=ok io H0 F0 F1 δ1 σ1 H1 s1 I1 i;by_cases hlt:i<ds.length
 ·have ed:ds[i]? = some ds[i]:=by simp[hlt]
  have edr:ds.drop i=ds[i]::ds.drop (i+1):=drop_eq_getElem_cons hlt;rw[edr]at p1;obtain⟨go,yl⟩:=o1 _ ed;refine .inr ⟨go,fun σ' H'=>∃F2 δ2,BB F' F2/\EI io H0 F0 F2 δ2 σ' H'/\P (ds.drop (i+1)) δ2,fun σ' H' hN=>⟨ds.length - (i+1),by lia,rfl,hlt,hN⟩,fun x H2 y=>?_⟩;obtain⟨F2,s2,I2,r2⟩:=yl x H2 y;refine sg io H0 F0 F2 δ1 σ1 H2 _ x _ _ I2 r2 (step _ _ δ1 p1) fun δ3 σ3 I3 q3=>?_;refine s io H0 F0 F2 δ3 σ3 H2 _ _ I3 q3 ⟨fun F4 δ4 σ4 H4 s4 I4 q4=>⟨F4,_,(s1.trans s2).trans s4,I4.fgt fg,q4⟩,fun b d v F4 δ4 σ4 H4 s4 I4 q4=>S.rt b d v F4 δ4 σ4 H4 (((sf.trans s1).trans s2).trans s4) I4 q4,fun F4 δ4 σ4 H4 s4 I4 q4=>S.nx F4 δ4 σ4 H4 (((sf.trans s1).trans s2).trans s4) I4 q4,fun F4 δ4 σ4 H4 s4 I4 q4=>⟨F4,_,(s1.trans s2).trans s4,I4.fgt fg,q4⟩⟩
 have e:i=ds.length:=by lia
 subst e;rw[drop_length]at p1;exact .inl ⟨o2 rfl,S.nx F1 δ1 σ1 H1 (sf.trans s1) I1 (fin δ1 p1)⟩
def ly(hp:PassesOwn (model X.prog X.w) X.A X.env X.xe)(hc:X.calm=true)(hi:DI X tg M0 di)(hg:DG X tg gd)(hb:DSs X body td)
  (hs:∀x,foldedSetIterable M0 X.env x=pure x:=by intro _;rfl):DS X (.For tg M0 body [] pos) (dFor di gd td):=by
 obtain⟨wi,p1,s1⟩:=hi;obtain⟨g,p2,s2⟩:=hg;obtain⟨t,p3,s3⟩:=hb;exact⟨_,Re hp hc p1 p2 p3 hs,ky s1 s2 s3⟩
def lr (c:TTd)(tb:TSd):TSd:=fun E δ=>∃(fg:List Nat)(P:List Slot->Prop)(μ:List Slot->Nat),P (fgt fg δ)/\∀δ,P δ->c δ fun b δ'=>if b=true then tb { E with nx:=fun δ2=>P (fgt fg δ2)/\μ (fgt fg δ2)<μ δ,ct:=fun δ2=>P (fgt fg δ2)/\μ (fgt fg δ2)<μ δ,bk:=E.nx } δ' else E.nx δ'
def my(sc:WB c cd)(s:VB tb td):VB (pp c tb) (lr cd td):=by
 intro io H0 F0 F δ σ H E Ed I q S;obtain⟨fg,P,μ,p0,step⟩:=q;refine⟨fun m σ H=>∃F1 δ1,BB F F1/\EI io H0 F0 F1 δ1 σ H/\P δ1/\μ δ1=m,⟨_,F,_,BB.refl _,I.fgt fg,p0,rfl⟩,?_⟩;rintro m σ1 H1 ⟨F1,δ1,s1,I1,p1,rfl⟩;refine sc io H0 F0 F1 δ1 σ1 H1 _ _ I1 (step δ1 p1) fun b δ2 F2 H2 s2 I2 q2=>?_;cases b with
 |false=>rw[if_neg Bool.false_ne_true]at q2 ⊢;exact S.nx F2 δ2 σ1 H2 (s1.trans s2) I2 q2
 |true =>
  rw[if_pos rfl]at q2 ⊢;refine⟨fun σ' H'=>∃F3 δ3,BB F F3/\EI io H0 F0 F3 δ3 σ' H'/\P δ3/\μ δ3<μ δ1,fun σ' H' ⟨F3,δ3,h1,h2,h3,h4⟩=>⟨μ δ3,h4,F3,δ3,h1,h2,h3,rfl⟩,?_⟩;exact s io H0 F0 F2 δ2 σ1 H2 _ _ I2 q2 ⟨fun F4 δ4 σ4 H4 s4 I4 q4=>⟨F4,_,(s1.trans s2).trans s4,I4.fgt fg,q4.1,q4.2⟩,fun b d v F4 δ4 σ4 H4 s4 I4 q4=>S.rt b d v F4 δ4 σ4 H4 ((s1.trans s2).trans s4) I4 q4,fun F4 δ4 σ4 H4 s4 I4 q4=>S.nx F4 δ4 σ4 H4 ((s1.trans s2).trans s4) I4 q4,fun F4 δ4 σ4 H4 s4 I4 q4=>⟨F4,_,(s1.trans s2).trans s4,I4.fgt fg,q4.1,q4.2⟩⟩
def El(hp:PassesOwn (model X.prog X.w) X.A X.env X.xe)(hc:DT X c cd)(hb:DSs X body td):DS X (.While c body [] pos) (lr cd td):=by obtain⟨t1,p1,s1⟩:=hc;obtain⟨t,p3,s3⟩:=hb;exact⟨_,wk hp p1 p3,my s1 s3⟩
open PySem.Spec PyProof.Rows
noncomputable def er (H:Hp):Option Addr->Hp
 |none=>H
 |some a=>fun b=>if b=a then none else H b
abbrev RD:=List Slot->(Bool->D->List Slot->Prop)->Prop
def spD (R:RD):Sp:=fun vs H Q _=>∃(Hx:Hp)(ic:List (Option Addr))(F:Hp)(δ:List Slot)(Qd:Bool->D->List Slot->Prop),(∀p a,ic.getD p none=some a->vs[p]? = some (.ref a))/\EI ic Hx F F δ (vs.map some) H/\R δ Qd /\
 ∀b d v δ' F' H',EI (none::ic) Hx F F' (rsl b d::δ') (some v::vs.map some) H'->Qd b d δ'->Q v H'
end
section
open PySem.Spec PyProof.Rows
variable {io ic:List (Option Addr)}{H0 F0 F F' H H':Hp}{δ δc:List Slot}{σ σc:L2.St}{b:Bool}{d:D}{v:V}
def EI.back0 (I:EI io H0 F0 F δ σ H)(s:BB F F')(s':BB H H')(sub:BB F' H')(new:∀b o,F' b=some o->F b=none->H b=none):EI io H0 F0 F' δ σ H' where
 base:=I.base.trans s'
 sub:=sub
 ext:=I.ext.trans s
 new:=fun b o e h=>by
  cases q:F b with
  |none=>exact I.base.free (new b o e q)
  |some u=>exact I.new b u q h
 len:=I.len
 get:=fun i t e=>(I.get i t e).mono s fun a b c es eo=>by
  subst es;obtain⟨a',e1,h1,h2,h3,h4⟩:=I.get i _ e;rw[eo]at e1;cases e1;obtain⟨u,hu⟩:=h3.some;refine⟨?_,fun u hu=>s' _ _ hu⟩;cases q:F' a with
  |none=>rfl
  |some o=>rw[new a o q h2]at hu;cases hu
 apart:=I.apart
def EI.back (I:EI io H0 F0 F δ σ H)(C:EI ic H F F' (rsl b d::δc) (some v::σc) H'):EI (none::io) H0 F0 F' (rsl b d::δ) (some v::σ) H':=by
 have J:=I.back0 C.ext C.base C.sub C.new;refine J.push ?_ fun b' c a es ev j b2 c2 ej eo=>?_
 ·have h0:=C.get 0 _ rfl;cases b with
  |false=>obtain⟨v',e,r⟩:=h0;simp at e;subst e;exact⟨v,rfl,r⟩
  |true =>
   obtain⟨a,e,h1,h2,h3,h4⟩:=h0;simp at e;subst e;exact⟨a,rfl,I.base.free h1,h2,h3,fun z=>by cases z⟩
 subst ev;obtain⟨a',e1,h1,h2,h3,h4⟩:=I.get j _ ej;rw[eo]at e1;cases e1;obtain⟨u,hu⟩:=h3.some;have h0:=C.get 0 _ rfl;cases b with
 |false=>cases es
 |true =>
  obtain⟨a,e,h1,_⟩:=h0;simp at e;subst e;rw[h1]at hu;cases hu
def Cg {ds:List D}{vs:List V}(s:BB F H)(r:DB F ds vs):EI [] H F F (ds.map .fz) (vs.map some) H where
 base:=BB.refl _
 sub:=s
 ext:=BB.refl _
 new:=fun b o e h=>by rw[h]at e;cases e
 len:=by simp[r.len]
 get:=fun i t e=>by
  rw[getElem?_map]at e;cases q:ds[i]? with
  |none=>rw[q]at e;cases e
  |some d =>
   rw[q]at e;cases e;obtain⟨v,ev,rv⟩:=r.get q;exact⟨v,by simp[getD_eq_getElem?_getD,ev],rv⟩
 apart:=fun i j b c b' c' a ne e1=>by
  rw[getElem?_map]at e1;cases q:ds[i]?<;>rw[q]at e1<;>cases e1
def Ff (R:RD)(u:TLd):TEd:=fun δ Q=>u δ fun ds δ'=>R (ds.map .fz) fun b d _=>Q b d δ'
def oy(s:SimL t u):Sim (z8n (spD R) [] E t) (Ff R u):=fun io H0 F0 F δ σ H Q Qd I q k =>
 s io H0 F0 F δ σ H _ _ I q fun ds vs δ' F' H' sf I' r q'=>by
  show spD R (vs++[]) H' Q E;rw[append_nil];refine⟨H',[],F',_,_,fun p a e=>by simp at e,Cg I'.sub r,q',fun b d v δ2 F2 H2 C q2=>?_⟩;exact k b d v δ' F2 H2 (sf.trans C.ext) (I'.back C) q2
variable {X:Cx}{CX:CXT}{k:Nat}{f:Addr}{fd:FuncData}{ps:List Str}{R:RD}{E:XK}{x:Str}{p pos:Pos}{e:Expr}{es:List Expr}{u:TLd}
def qy (G:MB X.prog X.w X.K X.mg X.base CX k f fd ps (spD R))(hr:KB k X.A)(hg:Gl X x)(hm:X.mg x=some (.ref f))(hk:keepIn X.K (.ref f)=true)(hb:OB X.K fd ps [])(hx:Zd CX X E)
  (ha:DL X (e::es) u)(J0:(x == ("__debug__":Str))=false:=by decide)(he:starEach (e::es) X.env=(false,eval e X.env)::starEach es X.env:=by rfl)(K0:(backTo pos (starEach es X.env)).any (·.1)=false:=by rfl) :
  DE X (.Call (.Name x p) (e::es) [] pos) (Ff R u):=by
 obtain⟨t,pt,s⟩:=ha;exact⟨_,ae G hr hg hm hk hb .nil hx pt J0 he K0,oy s⟩
abbrev TAd:=List Slot->(List (Option D)->List Slot->Prop)->Prop
noncomputable def AOk (F:Hp) (w:V) (o:Option D) (v:V):Prop:=match o with|some d=>Rep F d v|none=>v=w
def SimA (i:Nat)(te:TA)(td:TAd):Prop:=∀(io:List (Option Addr))(H0 F0 F:Hp)(δ:List Slot)(σ:L2.St)(H:Hp)(w:V)(Q:List V->Hp->Prop)(Qd:List (Option D)->List Slot->Prop),EI io H0 F0 F δ σ H->σ[i]? = some (some w)->td δ Qd ->
 (∀os vs δ' F' H',BB F F'->EI io H0 F0 F' δ' σ H'->Paired (AOk F' w) os vs->Qd os δ'->Q vs H')->te σ H Q
def DA (X:Cx)(i:Nat)(es:List Expr)(td:TAd):Prop:=∃te,PA X es te/\SimA i te td
def Fh:TAd:=fun δ Q=>Q [] δ
def daV (t:TEd)(u:TAd):TAd:=fun δ Q=>t δ fun _ d δ'=>u δ' fun os δ''=>Q (some d::os) δ''
def daO (u:TAd):TAd:=fun δ Q=>u δ fun os δ''=>Q (none::os) δ''
end
section
open PySem.Spec PyProof.Rows
variable {X:Cx}{i:Nat}{a:Expr}{es:List Expr}{da:TEd}{u:TAd}
def Wb:DA X i [] Fh:=⟨_,Da,fun io H0 F0 F δ σ H w Q Qd I hw q k=>k [] [] δ F H (BB.refl _) I .nil q⟩
def bG (ha:DE X a da)(hr:DA X i es u)(hs:starEach (a::es) X.env=(false,eval a X.env)::starEach es X.env:=by rfl):DA X i (a::es) (daV da u):=by obtain⟨ta,pa,sa⟩:=ha;obtain⟨tr,pr,sr⟩:=hr;refine⟨_,Aa pa pr hs,fun io H0 F0 F δ σ H w Q Qd I hw q k=>sa.fz I q fun d v δ' F' H' sf I' r q'=>sr io H0 F0 F' δ' σ H' w _ _ I' hw q' fun ds vs δ2 F2 H2 s2 I2 r2 q2=>?_⟩;exact k (some d::ds) (v::vs) δ2 F2 H2 (sf.trans s2) I2 (.cons (show Rep F2 d v from Rep.mono s2 _ _ r) r2) q2
def kD(ha:PE X (.Name x p) (tVar i))(hr:DA X i es u)(hs:starEach (.Name x p::es) X.env=(false,eval (.Name x p) X.env)::starEach es X.env:=by rfl):DA X i (.Name x p::es) (daO u):=by obtain⟨tr,pr,sr⟩:=hr;refine⟨_,Aa ha pr hs,fun io H0 F0 F δ σ H w Q Qd I hw q k=>⟨w,hw,sr io H0 F0 F δ σ H w _ _ I hw q fun ds vs δ2 F2 H2 s2 I2 r2 q2=>?_⟩⟩;exact k (none::ds) (w::vs) δ2 F2 H2 s2 I2 (.cons rfl r2) q2
noncomputable def z9l (c:D):Option D->Slot
 |some d=>.fz d
 |none=>.ob true c
noncomputable def me:List Slot->Option D
 |.ob true c::_=>some c
 |_::r=>me r
 | []=>none
def Fl (R:RD)(i:Nat)(u:TAd):TEd:=fun δ Q=>(kC δ i).isSome=true/\u δ fun os δ'=>∃fl c,δ'[i]? = some (.ob fl c)/\(os.filter isNone).length=1/\R (os.map (z9l c)) fun b d δ2=>∃c',me δ2=some c'/\Q b d (δ'.set i (.ob fl c'))
theorem Gh:∀{δ:List Slot}{c:D},me δ=some c->∃p:Nat,δ[p]? = some (Slot.ob true c)
 | [],c,h=>by cases h
 |.no::r,c,h=>by obtain⟨p,e⟩:=Gh (δ:=r) h;exact⟨p+1,by simpa using e⟩
 |.fz d::r,c,h=>by obtain⟨p,e⟩:=Gh (δ:=r) h;exact⟨p+1,by simpa using e⟩
 |.sc K d::r,c,h=>by obtain⟨p,e⟩:=Gh (δ:=r) h;exact⟨p+1,by simpa using e⟩
 |.ob false d::r,c,h=>by obtain⟨p,e⟩:=Gh (δ:=r) h;exact⟨p+1,by simpa using e⟩
 |.ob true d::r,c,h=>by cases h;exact⟨0,rfl⟩
theorem Paired.getE:∀{xs:List α}{ys:List β}{i:Nat}{x:α},Paired R xs ys->xs[i]? = some x->∃y,ys[i]? = some y/\R x y
 |_,_,_,_,.nil,e=>by simp at e
 |_,_,0,_,.cons r _,e=>by simp at e;subst e;exact⟨_,rfl,r⟩
 |_,_,i+1,x,.cons _ t,e=>by
  obtain⟨u,h1,h2⟩:=Paired.getE (i:=i) (x:=x) t (by simpa using e);exact⟨u,by simpa using h1,h2⟩
def sy {os:List (Option D)}(h:(os.filter isNone).length=1)(hi:os[i]? = some none)(hj:os[j]? = some none):i=j:=by
 induction os generalizing i j with
 |nil=>simp at hi
 |cons o os ih =>
  cases o with
  |none =>
   simp at h;have key:∀k,os[k]? ≠ some none:=fun k e=>by
    have:=mem_of_getElem? e;exact absurd rfl (h none this)
   cases i with
   |zero =>
    cases j with
    |zero=>rfl
    |succ j=>exact absurd (by simpa using hj) (key j)
   |succ i=>exact absurd (by simpa using hi) (key i)
  |some d =>
   cases i with
   |zero=>simp at hi
   |succ i =>
    cases j with
    |zero=>simp at hj
    |succ j=>exact congrArg (· + 1) (ih (by simpa using h) (by simpa using hi) (by simpa using hj))
def wy(s:SimA i t u):Sim (z8n (spD R) [] E t) (Fl R i u):=fun io H0 F0 F δ σ H Q Qd I q k=>by
 obtain⟨p0,q⟩:=q;obtain⟨d0,e0⟩:=isSome_iff_exists.mp p0;obtain⟨w,ew,_⟩:=I.pk e0;refine s io H0 F0 F δ σ H w _ _ I ew q fun os vs δ' F' H' sf I' r q'=>?_;obtain⟨fl,c,ec,hone,q'⟩:=q';obtain⟨a,ea,n1,n2,hc,hio⟩:=I'.get i _ ec;have e:=Ec ea;rw[ew]at e;cases e;show spD R (vs++[]) H' Q E;rw[append_nil];have erNe:∀b,b≠a->er H' (some a) b=H' b:=fun b hb=>if_neg hb;have erA:er H' (some a) a=none:=if_pos rfl;have lenE:os.length=vs.length:=Paired.length r;refine⟨er H' (some a),os.map (fun o=>match o with|none=>some a|some _=>none),F',_,_,fun p b ep=>?_,⟨fun b o eb=>?_,I'.sub,BB.refl _,fun b o eb hb=>?_,by simp[lenE],fun j t ej=>?_,fun j l b1 c1 b2 c2 a' ne e1 e2 _ _=>?_⟩,q',fun b d v δ2 F2 H2 C q2=>?_⟩
 ·rw[getD_eq_getElem?_getD,getElem?_map]at ep;cases eo:os[p]? with
  |none=>rw[eo]at ep;cases ep
  |some o =>
   rw[eo]at ep;cases o with
   |some d=>cases ep
   |none =>
    cases ep;obtain⟨v,ev,rv⟩:=Paired.getE r eo;cases(show v=.ref a from rv);exact ev
 ·by_cases hb:b=a;subst hb;rw[erA]at eb;cases eb;rw[erNe b hb]at eb;exact eb
 rw[hb]at eb;cases eb
 ·rw[getElem?_map]at ej;cases eo:os[j]? with
  |none=>rw[eo]at ej;cases ej
  |some o =>
   rw[eo]at ej;cases ej;obtain⟨v,ev,rv⟩:=Paired.getE r eo;cases o with
   |some d=>exact⟨v,by simp[getD_eq_getElem?_getD,ev],rv⟩
   |none =>
    cases(show v=.ref a from rv);exact⟨a,by simp[getD_eq_getElem?_getD,ev],erA,n2,hc,fun _=>by simp[getD_eq_getElem?_getD,eo]⟩
 ·rw[getElem?_map]at e1 e2;have key:∀{j:Nat}{b:Bool}{c':D},Option.map (z9l c) os[j]? = some (.ob b c')->os[j]? = some none:=fun {j b c'} h=>by
   cases eo:os[j]? with
   |none=>rw[eo]at h;cases h
   |some o =>
    rw[eo]at h;cases o with
    |none=>rfl
    |some d=>cases h
  exact ne (sy hone (key e1) (key e2))
 obtain⟨c',eo,q2⟩:=q2;obtain⟨p,ep⟩:=Gh eo;obtain⟨a2,ea2,m1,m2,hc2,hio2⟩:=C.get (p+1) _ (by simpa using ep);have ea3:a2=a:=by
  have h1:=hio2 rfl;simp only[getD_cons_succ]at h1;rw[getD_eq_getElem?_getD,getElem?_map]at h1;cases eo:os[p]? with
  |none=>rw[eo]at h1;cases h1
  |some o =>
   rw[eo]at h1;cases o with
   |some d=>cases h1
   |none=>cases h1;rfl
 subst ea3;have hnew:∀b o,F2 b=some o->F' b=none->H' b=none\/b=a2:=fun b o e1 e2=>by
  by_cases hb:b=a2;exact .inr hb;have:=C.new b o e1 e2;rw[erNe b hb]at this;exact .inl this
 have oth:∀j b1 c1 a3,j≠i->δ'[j]? = some (.ob b1 c1)->σ.getD j none=some (.ref a3)->a3≠a2:=fun j b1 c1 a3 hj e1 e2 z=>I'.apart j i _ _ _ _ a2 hj e1 ec (by rw[e2,z]) ea;have keepH:∀b o,b≠a2->H' b=some o->H2 b=some o:=fun b o hb e=>C.base b o (by rw[erNe b hb];exact e);have J:EI io H0 F0 F2 (δ'.set i (.ob fl c')) σ H2:=by
  refine⟨fun b o eb=>?_,C.sub,I'.ext.trans C.ext,fun b o e h=>?_,by simpa using I'.len,fun j t ej=>?_,fun j l b1 c1 b2 c2 a' ne e1 e2 e3 e4=>?_⟩;exact keepH b o (fun z=>by rw[z,n1]at eb;cases eb) (I'.base b o eb)
  ·cases q:F' b with
   |some u=>exact I'.new b u q h
   |none =>
    rcases hnew b o e q with z|z;exact I'.base.free z;rw[z];exact n1
  ·rw[getElem?_set]at ej;split at ej
   ·rename_i hij;subst hij;split at ej;cases ej;exact⟨a2,ea,n1,m2,hc2,hio⟩;cases ej
   rename_i hij;refine(I'.get j t ej).mono C.ext fun a3 b3 c3 es eo=>?_;subst es;obtain⟨a4,e1,h1,h2,h3,h4⟩:=I'.get j _ ej;rw[eo]at e1;cases e1;have hne:=oth j _ _ _ (fun z=>hij z.symm) ej eo;refine⟨?_,fun u hu=>keepH _ _ hne hu⟩;cases q:F2 a3 with
   |none=>rfl
   |some o =>
    rcases hnew a3 o q h2 with z|z;obtain⟨u,hu⟩:=h3.some;rw[z]at hu;cases hu;exact absurd z hne
  have key:∀{j:Nat}{b1:Bool}{c1:D},(δ'.set i (.ob fl c'))[j]? = some (Slot.ob b1 c1)->∃b2 c2,δ'[j]? = some (Slot.ob b2 c2):=fun {j b1 c1} h=>by
   rw[getElem?_set]at h;split at h;rename_i hij;subst hij;exact⟨_,_,ec⟩;exact⟨_,_,h⟩
  obtain⟨b3,c3,q1⟩:=key e1;obtain⟨b4,c4,q2⟩:=key e2;exact I'.apart j l _ _ _ _ a' ne q1 q2 e3 e4
 refine k b d v _ F2 H2 (sf.trans C.ext) (J.push ?_ fun b' c3 a3 es ev j b2 c2 ej eo=>?_) q2
 ·have h0:=C.get 0 _ rfl;cases b with
  |false=>obtain⟨v',e,r⟩:=h0;simp at e;subst e;exact⟨v,rfl,r⟩
  |true =>
   obtain⟨a3,e,h1,h2,h3,h4⟩:=h0;simp at e;subst e;refine⟨a3,rfl,?_,h2,h3,fun z=>by cases z⟩;by_cases hb:a3=a2;rw[hb];exact n1;rw[erNe a3 hb]at h1;exact I'.base.free h1
 subst ev;have h0:=C.get 0 _ rfl;cases b with
 |false=>cases es
 |true =>
  obtain⟨a5,e5,h5,_⟩:=h0;simp at e5;subst e5;rw[getElem?_set]at ej;split at ej;rename_i hij;subst hij;rw[ea]at eo;cases eo;exact C.apart 0 (p+1) false d true c' a2 (by lia) rfl (by simpa using ep) rfl ea2;rename_i hij;have hne:=oth j _ _ _ (fun z=>hij z.symm) ej eo;rw[erNe _ hne]at h5;obtain⟨a4,e1,h1,h2,h3,h4⟩:=I'.get j _ ej;rw[eo]at e1;cases e1;obtain⟨u,hu⟩:=h3.some;rw[h5]at hu;cases hu
noncomputable def ioK:List Slot->(D->Prop)->Prop
 |.ob true c::_,k=>k c
 |_::r,k=>ioK r k
 | [],_=>False
theorem j8b:ioK (.ob true c::r) k=k c:=rfl
theorem j2e:ioK (.no::r) k=ioK r k:=rfl
theorem Hh:∀{δ:List Slot}{k:D->Prop},(∃c,me δ=some c/\k c)=ioK δ k
 | [],k=>by simp[me,ioK]
 |.no::r,k=>by simpa[me,ioK] using Hh (δ:=r) (k:=k)
 |.fz _::r,k=>by simpa[me,ioK] using Hh (δ:=r) (k:=k)
 |.sc _ _::r,k=>by simpa[me,ioK] using Hh (δ:=r) (k:=k)
 |.ob false _::r,k=>by simpa[me,ioK] using Hh (δ:=r) (k:=k)
 |.ob true c::r,k=>by simp[me,ioK]
inductive Beh (Q:Bool->D->List Slot->Prop):Type|mk
def vF (R:RD)(Q:Bool->D->List Slot->Prop)(_:Beh Q)(δ:List Slot):Prop:=R δ Q
def De (R:RD)(i:Nat)(u:TAd):TEd:=fun δ Q=>cB i δ fun s=>pkS s fun _=>u δ fun os δ'=>cB i δ' fun s=>obK s fun fl c=>(os.filter isNone).length=1/\vF R (fun b d δ2=>ioK δ2 fun c'=>fE i (.ob fl c') δ' fun δ''=>Q b d δ'') .mk (os.map (z9l c))
def xy:Fl R i u=De R i u:=by funext δ Q;unfold Fl De vF;rw[sh];simp only[Li,Hh,fE]
def yy(s:SimA i t u):Sim (z8n (spD R) [] E t) (De R i u):=xy ▸ wy s
variable {CX:CXT}{k:Nat}{f:Addr}{fd:FuncData}{ps:List Str}{R:RD}{E:XK}{x:Str}{p pos:Pos}{e:Expr}
def zy (G:MB X.prog X.w X.K X.mg X.base CX k f fd ps (spD R))(hr:KB k X.A)(hg:Gl X x)(hm:X.mg x=some (.ref f))(hk:keepIn X.K (.ref f)=true)(hb:OB X.K fd ps [])(hx:Zd CX X E)
  (ha:DA X i (e::es) u)(J0:(x == ("__debug__":Str))=false:=by decide)(he:starEach (e::es) X.env=(false,eval e X.env)::starEach es X.env:=by rfl)(K0:(backTo pos (starEach es X.env)).any (·.1)=false:=by rfl) :
  DE X (.Call (.Name x p) (e::es) [] pos) (De R i u):=by
 obtain⟨t,pt,s⟩:=ha;exact⟨_,ae G hr hg hm hk hb .nil hx pt J0 he K0,yy s⟩
noncomputable def Dg:Slot->Slot
 |.ob true c=>.ob true c
 |_=>.no
noncomputable def outS:Nat->List Slot->List Slot
 |0,_=>[]
 |n+1,[]=>.no::outS n []
 |n+1,s::r=>Dg s::outS n r
theorem Hl:∀(n:Nat)(δ:List Slot),(outS n δ).length=n
 |0,_=>rfl
 |n+1,[]=>by simp[outS,Hl n]
 |n+1,s::r=>by simp[outS,Hl n]
theorem aj:∀{n:Nat}{δ:List Slot}{p:Nat}{s:Slot},(outS n δ)[p]? = some s->s=.no \/ ∃c,s=.ob true c/\δ[p]? = some (.ob true c)
 |0,δ,p,s,h=>by simp[outS]at h
 |n+1,[],0,s,h=>by simp[outS]at h;exact .inl h.symm
 |n+1,[],p+1,s,h=>by
  rcases aj (n:=n) (δ:=[]) (p:=p) (s:=s) (by simpa[outS] using h) with z|⟨c,_,z⟩;exact .inl z;simp at z
 |n+1,t::r,0,s,h=>by
  simp[outS]at h;cases t with
  |no=>exact .inl h.symm
  |fz d=>exact .inl h.symm
  |sc K d=>exact .inl h.symm
  |ob b c =>
   cases b with
   |false=>exact .inl h.symm
   |true=>exact .inr ⟨c,h.symm,rfl⟩
 |n+1,t::r,p+1,s,h=>by simpa using aj (n:=n) (δ:=r) (p:=p) (s:=s) (by simpa[outS] using h)
variable {P:Program}{w:World}{K:W.Frag}{mg:Str->Option Value}{base:Heap}
def _root_.L2.Fun.okC{st:Stmt}(F:Fun K x qual st f fd)(S:CB N ps (Ca st))(len:∀vs H Q E,sp vs H Q E->vs.length=ps.length)
  (hbody:∀(cdv:Value)(A:Around)(V0:List Env)(s:Shared)(H:Hp)(vs:List V)(Q:VK)(E:XK),fd.code=cdv->KB k (A.deeper (envOfC qual (Ca st) s.heap.objs.size f cdv))->sp vs H Q E ->
   ∃t,PSs (rC CX0 P w K mg base N qual (Ca st) f cdv A V0 s H E).nox (jc st) t/\t { nx:=fun _ H'=>Q .non H',rt:=Q } (L2.start N vs) H):MB P w K mg base CX0 (k+1) f fd ps sp:=by
 obtain⟨oc,od,kV,doc,pm,an,cdv,ct,O0,rfl,lk,hcd⟩:=F.ex;refine Ak lk hcd S len fun A V0 s H vs Q E hr hsp=>?_;obtain⟨t,h,q⟩:=hbody cdv A V0 s H vs Q E rfl hr hsp;exact⟨t,h.nox,q⟩
def Fun.dokC{st:Stmt}(Fn:Fun K x qual st f fd)(S:CB N ps (Ca st))(hlen:∀δ Qd,R δ Qd->δ.length=ps.length)(hN:ps.length<=N.length)
  (hbody:∀(cdv:Value)(A:Around)(V0:List Env)(s:Shared)(H:Hp)(E:XK)(δ:List Slot)(Qd:Bool->D->List Slot->Prop),fd.code=cdv->KB k (A.deeper (envOfC qual (Ca st) s.heap.objs.size f cdv))->R δ Qd ->
   ∃td,DSs (rC CX0 P w K mg base N qual (Ca st) f cdv A V0 s H E).nox (jc st) td/\td { nx:=fun δ'=>Qd false .non (outS ps.length δ'),rt:=fun b d δ'=>Qd b d (outS ps.length δ') } (δ++replicate (N.length - ps.length) .no)) :
  MB P w K mg base CX0 (k+1) f fd ps (spD R):=by
 refine Fn.okC S (fun vs H Q E h=>?_) (fun cdv A V0 s H vs Q E hfc hr h=>?_);obtain⟨x,ic,F,δ,Qd,_,I,hR,_⟩:=h;have:=I.len;rw[length_map]at this;rw[<-this];exact hlen _ _ hR;obtain⟨x,ic,F,δ,Qd,hic,I,hR,kq⟩:=h;have l1:=I.len;rw[length_map]at l1;have l2:=hlen _ _ hR;obtain⟨td,⟨t,pt,st'⟩,ht⟩:=hbody cdv A V0 s H E δ Qd hfc hr hR;refine⟨t,pt,?_⟩;have est:L2.start N vs=vs.map some++replicate (N.length - ps.length) none:=by rw[L2.start,<-l1,l2]
 have I1:EI ic x F F (δ++replicate (N.length - ps.length) .no) (L2.start N vs) H:=by
  rw[est];refine⟨I.base,I.sub,I.ext,I.new,by simp[l1],fun j s e=>?_,fun i j b c b' c' a ne e1 e2 e3 e4=>?_⟩
  ·by_cases hj:j<δ.length;rw[getElem?_append_left hj]at e;have:=I.get j s e;rwa [getD_eq_getElem?_getD,getD_eq_getElem?_getD,getElem?_append_left (by simpa[<-l1] using hj),<-getD_eq_getElem?_getD,<-getD_eq_getElem?_getD];rw[getElem?_append_right (by lia),getElem?_replicate]at e;split at e;cases e;trivial;cases e
  have key:∀{j:Nat}{b:Bool}{c:D},(δ++replicate (N.length - ps.length) Slot.no)[j]? = some (.ob b c)->j<δ.length/\δ[j]? = some (.ob b c):=fun {j b c} h=>by
   by_cases hj:j<δ.length;rw[getElem?_append_left hj]at h;exact⟨hj,h⟩;rw[getElem?_append_right (by lia),getElem?_replicate]at h;split at h<;>cases h
  obtain⟨z1,q1⟩:=key e1;obtain⟨z2,q2⟩:=key e2;rw[getD_eq_getElem?_getD,getElem?_append_left (by simpa[<-l1] using z1)]at e3;rw[getD_eq_getElem?_getD,getElem?_append_left (by simpa[<-l1] using z2)]at e4;exact I.apart i j b c b' c' a ne q1 q2 (by rw[getD_eq_getElem?_getD];exact e3) (by rw[getD_eq_getElem?_getD];exact e4)
 have fin:∀(b:Bool)(d:D)(v:V)(F':Hp)(δ':List Slot)(σ':L2.St)(H':Hp),EI (none::ic) x F F' (rsl b d::δ') (some v::σ') H'->EI (none::ic) x F F' (rsl b d::outS ps.length δ') (some v::vs.map some) H':=by
  intro b d v F' δ' σ' H' I2;have key:∀{p:Nat}{c:D},δ'[p]? = some (.ob true c)->∃a,σ'.getD p none=some (.ref a)/\(vs.map some).getD p none=some (.ref a)/\SOk x F' H' (ic.getD p none) (some (.ref a)) (.ob true c):=fun {p c} h=>by
   have q:=I2.get (p+1) _ (by simpa using h);simp only[getD_cons_succ]at q;obtain⟨a,e,h1,h2,h3,h4⟩:=q;have ev:=hic p a (h4 rfl);exact⟨a,e,by simp[getD_eq_getElem?_getD,ev],a,rfl,h1,h2,h3,h4⟩
  refine⟨I2.base,I2.sub,I2.ext,I2.new,by simp[Hl,<-l1,l2],fun j s e=>?_,fun i j b1 c b' c' a ne e1 e2 e3 e4=>?_⟩
  ·cases j with
   |zero=>simp at e;subst e;exact I2.get 0 _ rfl
   |succ j =>
    simp only[getElem?_cons_succ,getD_cons_succ]at e ⊢;rcases aj e with z|⟨c,z,z2⟩;subst z;trivial;subst z;obtain⟨a,_,e2,q⟩:=key z2;rw[e2];exact q
  have k2:∀{j:Nat}{b1:Bool}{c:D}{a:Addr},(rsl b d::outS ps.length δ')[j]? = some (.ob b1 c)->(some v::vs.map some).getD j none=some (.ref a)->(rsl b d::δ')[j]? = some (.ob b1 c)/\(some v::σ').getD j none=some (.ref a):=fun {j b1 c a} g1 g2=>by
   cases j with
   |zero=>exact⟨g1,g2⟩
   |succ j =>
    simp only[getElem?_cons_succ,getD_cons_succ]at g1 g2 ⊢;rcases aj g1 with z|⟨c',z,z2⟩;cases z;cases z;obtain⟨a',q1,q2,_⟩:=key z2;rw[g2]at q2;cases q2;exact⟨z2,q1⟩
  obtain⟨u1,u2⟩:=k2 e1 e3;obtain⟨u3,u4⟩:=k2 e2 e4;exact I2.apart i j _ _ _ _ a ne u1 u3 u2 u4
 exact st' ic x F F _ _ H _ _ I1 ht ⟨fun F' δ' σ' H' sf I2 q2=>kq false .non .non _ F' H' (fin _ _ _ _ _ _ _ I2.pN) q2,fun b d v F' δ' σ' H' sf I2 q2=>kq b d v _ F' H' (fin _ _ _ _ _ _ _ I2) q2,fun _ _ _ _ _ _ z=>z.elim,fun _ _ _ _ _ _ z=>z.elim⟩
def Fun.dok{st:Stmt}(Fn:Fun K x qual st f fd)(S:CB N ps (Ca st))(hlen:∀δ Qd,R δ Qd->δ.length=ps.length)(hN:ps.length<=N.length)
  (hbody:∀(cdv:Value)(A:Around)(V0:List Env)(s:Shared)(H:Hp)(E:XK)(δ:List Slot)(Qd:Bool->D->List Slot->Prop),KB k (A.deeper (envOfC qual (Ca st) s.heap.objs.size f cdv))->R δ Qd ->
   ∃td,DSs (rC CX0 P w K mg base N qual (Ca st) f cdv A V0 s H E).nox (jc st) td/\td { nx:=fun δ'=>Qd false .non (outS ps.length δ'),rt:=fun b d δ'=>Qd b d (outS ps.length δ') } (δ++replicate (N.length - ps.length) .no)) :
  MB P w K mg base CX0 (k+1) f fd ps (spD R) :=
 VL.Fun.dokC Fn S hlen hN fun cdv A V0 s H E δ Qd _=>hbody cdv A V0 s H E δ Qd
end
end VL
namespace L2
open PySem PySem.Spec PyProof.Rows
structure SB (osc:Scope)(N:List Str)(xs:List Str)(sc:Scope)(M:List Str):Prop where
 kind:sc.kind=.function
 cell:∀y∈sc.names,y.2≠.cell
 names:∀y∈sc.names,y.2=.local->sc.names.lookup y.1=some .local
 free:∀y∈sc.names,y.2=.free->osc.names.lookup y.1=some .cell\/osc.names.lookup y.1=some .free
 ok:oC sc N M=true
def bj (n:Nat)(wi:TI)(g:TG)(tc:TT)(te:TE):TE:=fun σ H Q=>wi σ H fun J H1=>∀D,H1 D=none->∃W:Nat->Nat->List V->Hp->Prop,(∃m,W 0 m [] (upd H1 D (.lst [])))/\∀i m ys H2,W i m ys H2 ->
 H2 D=some (.lst ys)/\((J.stop i H2/\Q (.ref D) H2)\/(J.go i H2/\∃N:List V->Hp->Prop,(∀ys' H',N ys' H'->∃m',m' < m/\W (i+1) m' ys' H')/\∀v H3,J.yld i H2 v H3->∀τ:L2.St,τ.length=n->g v (τ++σ) H3 fun σ4 H4=>(∃τ':L2.St,τ'.length=n/\σ4=τ'++σ)/\tc σ4 H4 fun b H5=>if b=true then te σ4 H5 fun y H6=>H6 D=some (.lst ys)/\ys.length<sizeLine/\N (ys++[y]) (upd H6 D (.lst (ys++[y])))
   else N ys H5))
def Ay(I:Nat->Shared->Prop)
  (turn:∀n s,I n s->wpAny (model prog w) A (pyNext it) (fun r s₁=>match r with
   |none=>R (.ok .next) s₁
   |some v=>wpAny (model prog w) A (letOwnedTupleGo G0 it v >>= fun _=>assign G0 env v) (fun _ s₂ =>
     wpAny (model prog w) A (forIn P0 true fun c r=>if r=true then do let ok <-isTrue c env (eval c env);pure (ForInStep.yield ok) else pure (ForInStep.yield r)) (fun ok s₃ =>
      if ok=true then wpAny (model prog w) A (eval L0 env) (fun x s₄ =>
       wpAny (model prog w) A (call (.builtin "list.append") [n0,x]) (fun _ s₅=>∃m,m<n/\I m s₅) (notedBy (model prog w) A env fun e s'=>R (.error e) s') s₄) (notedBy (model prog w) A env fun e s'=>R (.error e) s') s₃
      else ∃m,m<n/\I m s₃) (notedBy (model prog w) A env fun e s'=>R (.error e) s') s₂) (notedBy (model prog w) A env fun e s'=>R (.error e) s') s₁) (notedBy (model prog w) A env fun e s'=>R (.error e) s') s)
  (n:Nat)(h:I n s) :
  codeAny (model prog w) A (.compLoop (.ListComp L0 [⟨G0,M0,P0,0⟩] scope pos) 0 it n0 env) R s:=by
 refine codeAny_loop rfl I (fun n s hI=>?_) n h;show wpAny _ A ((compTurn (.ListComp L0 [⟨G0,M0,P0,0⟩] scope pos) 0 it n0 env).onRaise (fun x=>do noteFrame x env;theTreesLotGoes x)) _ _ s;refine wpAny_noted ?_;rw[compTurn_list];refine wpAny_bind (wpAny_standAt (wpAny_bind (wpAny_mono (turn n s hI) (fun r s₁ h₁=>?_) fun _ _ h'=>h')));cases r with
 |none=>exact wpAny_pure h₁
 |some v =>
  show wpAny _ A (letOwnedTupleGo G0 it v >>= fun _=>assign G0 env v >>= _) _ _ s₁;rw[<-bind_assoc];refine wpAny_bind (wpAny_mono h₁ (fun _ s₂ h₂=>wpAny_bind (wpAny_mono h₂ (fun ok s₃ h₃=>?_) fun _ _ h'=>h')) fun _ _ h'=>h');cases ok with
  |false=>exact wpAny_pure ⟨rfl,h₃⟩
  |true =>
   exact wpAny_bind (wpAny_bind (wpAny_mono h₃ (fun x s₄ h₄=>wpAny_bind (wpAny_mono h₄ (fun _ s₅ h₅=>wpAny_pure (wpAny_pure ⟨rfl,h₅⟩)) fun _ _ h'=>h')) fun _ _ h'=>h'))
section
variable {X:Cx}
def mr{Q:VK}
  {RR:Value->Addr->Result->Shared->Prop} 
  (hc:X.calm=true)(hg:∀Q0 ex H₀ s₀ C,PG (Rb X sc (xs++M) Q0 ex H₀ s₀ C) tg g)(S:SB X.env.scope X.N xs sc M)
  (ht:∀Q0 ex H₀ s₀ C,PF (Rb X sc (xs++M) Q0 ex H₀ s₀ C) P0 tc)(he:∀Q0 ex H₀ s₀ C,PE (Rb X sc (xs++M) Q0 ex H₀ s₀ C) L0 te)
  (I2:Inv X Q0 σ H2 s2)(T:TC X.prog X.w X.K tg J fp it tn)(st2:tn 0 s2.heap)(f2:∀b∈fp,EC X Q0 H2 b)
  (hw:∀D,H2 D=none->∃W:Nat->Nat->List V->Hp->Prop,(∃m,W 0 m [] (upd H2 D (.lst [])))/\∀i m ys H2,W i m ys H2 ->
   H2 D=some (.lst ys)/\((J.stop i H2/\Q (.ref D) H2)\/(J.go i H2/\∃N:List V->Hp->Prop,(∀ys' H',N ys' H'->∃m',m' < m/\W (i+1) m' ys' H')/\∀v H3,J.yld i H2 v H3->∀τ:L2.St,τ.length=xs.length->g v (τ++σ) H3 fun σ4 H4=>(∃τ':L2.St,τ'.length=xs.length/\σ4=τ'++σ)/\tc σ4 H4 fun b H5=>if b=true then te σ4 H5 fun y H6=>H6 D=some (.lst ys)/\ys.length<sizeLine/\N (ys++[y]) (upd H6 D (.lst (ys++[y])))
   else N ys H5)))
  (hRR:∀(D C:Addr)(s':Shared)(H':Hp)(m:Str->Option Value),Inv X Q0 σ H' s'->s'.heap.Ns C m->H' C=none->s2.heap.objs.size<=C->Q (.ref D) H'->RR (.ref D) C (.ok .next) s') :
  wpAny (model X.prog X.w) X.A (newList []) (fun n0 s₃=>wpAny (model X.prog X.w) X.A (newFunctionEnv sc X.env.globals (zc sc.names X.env.cells []) [] X.env.qual none .none (some X.env)) (fun cenv s₄ =>
   codeAny (model X.prog X.w) X.A (.compStart (.ListComp L0 [⟨tg,M0,P0,0⟩] sc pos) 0 (.ref it) n0 { cenv with scope:=relabel sc X.env }) (RR n0 cenv.locals) s₄) E s₃) E s2:=by
 obtain⟨W,⟨m0,w0⟩,turn⟩:=hw s2.heap.objs.size I2.fresh;have hfreeC:∀y∈sc.names,y.2=.free->∃c,X.env.cells.lookup y.1=some c:=fun y hy hf=>I2.ok.has y.1 (S.free y hy hf);have clk:∀{y:Str}{c:Addr},(zc sc.names X.env.cells []).lookup y=some c->X.env.cells.lookup y=some c:=fun {y c} e=>rq sc.names [] hfreeC (fun z=>by cases z) e;obtain⟨nlen,nget⟩:=oC.get S.ok;have I3:Inv X Q0 σ (upd H2 s2.heap.objs.size (.lst [])) { s2 with heap:=s2.heap.push { cls:=.type "list",data:=.seq ([]:List Value).toArray } }:=I2.lnew (Z0:=[]) (t':=s2.toks) .nil (zero_le _);refine wpAny_newObj_type ?_;generalize hs3:({ s2 with heap:=s2.heap.push { cls:=.type "list",data:=.seq ([]:List Value).toArray } }:Shared)=s3 at I3;have e3:s3.heap=s2.heap.push { cls:=.type "list",data:=.seq ([]:List Value).toArray }:=by rw[<-hs3]
 have sz3:s3.heap.objs.size=s2.heap.objs.size+1:=by rw[e3,size_push]
 have up3:∀b o,s2.heap.get? b=some o->s3.heap.get? b=some o:=fun b o e=>by rw[e3];exact get?_push_of_some _ e
 have st3:tn 0 s3.heap:=T.keep _ _ _ st2 fun b _ o e=>up3 b o e;have fpL:∀b∈fp,b<s2.heap.objs.size:=fun b hb=>let ⟨_,e,_⟩:=T.obj _ _ st2 b hb;lt_size e;have f3:∀b∈fp,EC X Q0 (upd H2 s2.heap.objs.size (.lst [])) b:=fun b hb=>⟨by rw[ya (ne_of_lt (fpL b hb))];exact(f2 b hb).1,(f2 b hb).2⟩;show wpAny _ _ (newFunctionEnv sc X.env.globals (zc sc.names X.env.cells []) [] X.env.qual none .none (some X.env)) _ _ s3;refine wpAny_newFunctionEnv S.cell (by intro y hy;simp at hy) (fun h₁ hns₁ hsb₁=>?_) S.kind;have old:∀b o,s3.heap.get? b=some o->h₁.get? b=some o:=fun b o e=>hsb₁.extBut b o (ne_of_lt (lt_size e)) (get?_push_of_some _ e);have cellLt:∀{y:Str}{c:Addr},X.env.cells.lookup y=some c->c<s3.heap.objs.size:=fun {y c} e=>let ⟨_,z⟩:=I3.cell y c e;z.lt;have locLt:=I3.lt;generalize hC:s3.heap.objs.size=C at hns₁ hsb₁ cellLt locLt ⊢;have hle:s2.heap.objs.size<=C:=by rw[<-hC,sz3];exact le_succ _
 let X':Cx:=Rb X sc (xs++M) Q0 fp (upd H2 s2.heap.objs.size (.lst [])) s3 C;have ok':X'.Ok:={
  mod:=I3.ok.mod
  kind:=S.kind
  glob:=I3.ok.glob
  blt:=I3.ok.blt
  above:=le_of_eq hC
  inj:=fun y z c e1 e2=>I3.ok.inj y z c (clk e1) (clk e2)
  has:=fun y hy=>by
   have hf:sc.names.lookup y=some .free:=by
    rcases hy with hy|hy
    ·rcases Jk hy with q|⟨_,q⟩;exact absurd rfl (S.cell _ (mh q));exact q
    rcases Jk hy with q|⟨q,_⟩;exact q;cases q
   exact isSome_iff_exists.mp (Ik sc.names [] (.inl (mh hf)))
  cab:=fun y c h _=>by cases h
  hd:=I3.ok.hd
  frames:=I3.ok.frames
  stk:=.inl rfl
  exf:=fun b hb=>⟨ne_of_lt (lt_of_lt_of_le (fpL b hb) hle),fun y c e=>(f3 b hb).2.2.2.2.1 y c (clk e)⟩
  bs:=I3.bs
  bsz:=le_trans I3.ok.bsz I3.sz
  noex:=fun b o e hb=>by
   rcases(f3 b hb).2.2.2.1 with z|z;exact I3.ok.noex b o e z;exact absurd (lt_of_lt_of_le (lt_size e) (le_trans I3.ok.bsz z)) (lt_irrefl _)
  exfs:=fun b hb z=>by
   rcases mem_cons.mp (I3.stkSub b z) with q|q;exact(f3 b hb).2.1 q;exact(f3 b hb).2.2.1 q
  funs:=I3.stack
  frf:=I3.stkFree
  lam:=fun p e=>I3.base.tbls p (I3.ok.lam p e) }
 have seen:∀{h':Heap}{m:Str->Option Value},(∀b o,s3.heap.get? b=some o->h'.get? b=some o)->∀(i:Nat)(y:Str)(v:V),(xs++M)[i]? = some y->(replicate xs.length none++σ)[i]? = some (some v)->Vis (relabel sc X.env) y->∃u,GB v u/\Look (compEnvC sc (zc sc.names X.env.cells []) C X.env) h' m y u:=by
  intro h' m kp i y v e1 e2 e3;by_cases hi:i<xs.length;rw[getElem?_append_left (by simpa using hi),getElem?_replicate,if_pos hi]at e2;cases e2;obtain⟨i,rfl⟩:∃k,i=xs.length+k:=⟨i - xs.length,by lia⟩;have e1':M[i]? = some y:=by rw[getElem?_append_right (by lia)]at e1;simpa using e1
  have e2':σ[i]? = some (some v):=by rw[getElem?_append_right (by simp)]at e2;simpa using e2
  rcases nget i y e1' with q|⟨q1,q2⟩;rcases e3 with z|z|z<;>rcases Jk z with z|⟨_,z⟩<;>rw[q]at z<;>cases z;have ofree:=S.free (y,.free) (mh q2) rfl;obtain⟨mo,_,hl⟩:=I3.loc;obtain⟨u,r,l⟩:=hl i y v q1 e2' (by rcases ofree with z|z;exact .inr (.inl z);exact .inr (.inr z));refine⟨u,r,.inr ⟨Ow q2,?_⟩⟩;rcases l with ⟨z,_⟩|⟨_,c,z1,z2⟩;have z':X.env.scope.names.lookup y=some .local:=z;rcases ofree with q|q<;>rw[z']at q<;>cases q;obtain⟨c',hc'⟩:=isSome_iff_exists.mp (Ik (cells:=X.env.cells) (y:=y) sc.names [] (.inl (mh q2)));have z3:=clk hc';rw[z1]at z3;cases z3;obtain⟨o,ho,hd⟩:=z2;exact⟨c,hc',o,kp c o ho,hd⟩
 have I4:Inv X' [] (replicate xs.length none++σ) (upd H2 s2.heap.objs.size (.lst [])) { s3 with heap:=h₁,toks:=s3.toks+([]:List (Str×Value)).length }:={
  ok:=ok'
  pos:=le_trans I3.pos (le_add_right _ _)
  os:=rfl
  bare:=I3.bare
  base:=Un.kept old
  loc:=⟨_,hns₁,fun i y v e1 e2 e3=>seen old i y v e1 e2 e3⟩
  cell:=fun y c e=>by
   obtain⟨v,o,ho,hd⟩:=I3.cell y c (clk e);exact⟨v,o,old c o ho,hd⟩
  free:=I3.hok.fresh (le_of_eq hC)
  freeC:=fun y c e=>I3.freeC y c (clk e)
  pin:=fun p hp=>by
   have hp':p∈X.pn++Q0:=by simpa[X',Rb] using hp
   obtain⟨e,n,ne,nf,d⟩:=I3.pin p hp';refine⟨old _ _ e,n,?_,fun z=>?_,d⟩;exact ne_of_lt (lt_of_lt_of_le (lt_size e) (le_of_eq hC));rcases mem_cons.mp (I3.stkSub p.1 z) with q|q;exact ne q;exact nf q
  hok:=I3.hok.kept old
  len:=by
   have l3:=I3.len;show(replicate xs.length none++σ).length=(xs++M).length;rw[length_append,length_append,List.length_replicate,l3,nlen] }
 have fx:∀{H':Hp},(∀b∈fp,H' b=none)->∀b∈fp,EC X' [] H' b:=fun hn b hb=>by
  refine⟨hn b hb,(ok'.exf b hb).1,ok'.exfs b hb,.inl hb,(ok'.exf b hb).2,fun p hp=>?_⟩;exact(f3 b hb).2.2.2.2.2 p (by simpa[X',Rb] using hp)
 have envE:({ newEnv sc C X.env.globals (zc sc.names X.env.cells []) X.env.qual none .none (some X.env) builtinsNs with scope:=relabel sc X.env }:Env)=compEnvC sc (zc sc.names X.env.cells []) C X.env:=rfl;have loop:codeAny (model X.prog X.w) X.A (.compLoop (.ListComp L0 [⟨tg,M0,P0,0⟩] sc pos) 0 (.ref it) (.ref s2.heap.objs.size) (compEnvC sc (zc sc.names X.env.cells []) C X.env)) (RR (.ref s2.heap.objs.size) C)
   { s3 with heap:=h₁,toks:=s3.toks+([]:List (Str×Value)).length }:=by
  refine Ay (fun n s'=>∃i ys τ H',τ.length=xs.length/\Inv X' [] (τ++σ) H' s'/\tn i s'.heap/\(∀b∈fp,H' b=none)/\W i n ys H') ?_ m0 ⟨0,[],replicate xs.length none,_,by simp,I4,T.keep _ _ _ st3 fun b _ o e=>old b o e,fun b hb=>(f3 b hb).1,w0⟩;rintro n s' ⟨i,ys,τ0,H',hτ,I',st',fr',w'⟩;obtain⟨hD,step⟩:=turn i n ys H' w';rcases step with ⟨stop,q⟩|⟨go,N,hN,step⟩;refine thn (T.done X' rfl rfl rfl hc i [] s' _ H' _ I' (fx fr') st' stop) fun r s5 zq=>?_;obtain⟨hr,I5⟩:=zq;subst hr;obtain⟨m5,hn5,_⟩:=I5.loc;refine hRR _ C s5 H' m5 ?_ hn5 I5.free hle q;refine I3.call' (ch:=fp) I5.os I5.base I5.hok I5.bare fun b hb=>?_;obtain⟨_,z1,_,z3,z4,z5⟩:=f3 b hb;exact⟨z3,z1,z4,z5⟩;refine thnK (T.item X' rfl rfl rfl hc i [] s' _ H' _ I' (fx fr') st' go) fun r s5 k5 zq=>?_;obtain⟨u,hr,h5⟩:=zq;subst hr;have h6:wpAny (model X.prog X.w) X.A (letOwnedTupleGo tg (.ref it) u >>= fun _=>assign tg X'.env u) (fun _ s7=>∃(σ7:L2.St)(H7:Hp)(s6:Shared),Inv X' ([]++lg fp s6.heap) σ7 H7 s7/\tn (i+1) s6.heap/\(∃τ':L2.St,τ'.length=xs.length/\σ7=τ'++σ)/\tc σ7 H7 fun b H5=>if b=true then te σ7 H5 fun y H6=>H6 s2.heap.objs.size=some (.lst ys)/\ys.length<sizeLine/\N (ys++[y]) (upd H6 s2.heap.objs.size (.lst (ys++[y]))) else N ys H5)
    (notedBy (model X.prog X.w) X.A (compEnvC sc (zc sc.names X.env.cells []) C X.env) fun e s'=>RR (.ref s2.heap.objs.size) C (.error e) s') s5:=by
   refine wpAny_bind (thn (hs:=k5) h5 fun _ s6 zq=>?_);obtain⟨v,H6,I6,r6,y6,st6,fr6⟩:=zq;have I6':=I6.pinned (fx fr6) (T.obj _ _ st6);refine tH (hg Q0 fp _ s3 C _ s6 _ H6 v u _ I6' r6 (step v H6 y6 τ0 hτ)) (fun _ s7 zq=>?_) fun _ _ z=>z.elim;obtain⟨σ7,H7,I7,q7⟩:=zq;exact⟨σ7,H7,s6,I7,st6,q7⟩
  refine wpAny_mono h6 (fun _ s7 zq=>?_) fun _ _ z=>z;obtain⟨σ7,H7,s6,I7,st6,⟨τ',hτ',eσ⟩,q7⟩:=zq;subst eσ;have again:∀{σ8:L2.St}{H7:Hp}{s8:Shared},Inv X' ([]++lg fp s6.heap) σ8 H7 s8->tn (i+1) s8.heap/\∀b∈fp,H7 b=none:=fun {σ8 H7 s8} I8=>by
   refine⟨T.keep _ _ _ st6 fun b hb o e=>(I8.pin (b,o) (mem_append_right _ (mem_append_right _ (vi hb e)))).1,fun b hb=>?_⟩;obtain⟨o,e,d⟩:=T.obj _ _ st6 b hb;exact(I8.pin (b,o) (mem_append_right _ (mem_append_right _ (vi hb e)))).2.1
  refine tH (ht Q0 fp _ s3 C _ s7 _ H7 _ I7 q7) (fun ok s8 zq=>?_) fun _ _ z=>z.elim;obtain⟨H8,I8,q8⟩:=zq;cases ok with
  |false =>
   rw[if_neg Bool.false_ne_true]at q8 ⊢;obtain⟨m',hm,w8⟩:=hN _ _ q8;obtain⟨t8,n8⟩:=again I8;exact⟨m',hm,i+1,ys,τ',H8,hτ',I8.unpinned,t8,n8,w8⟩
  |true =>
   rw[if_pos rfl]at q8 ⊢;refine tH (he Q0 fp _ s3 C _ s8 _ H8 _ I8 q8) (fun y s9 zq=>?_) fun _ _ z=>z.elim;obtain⟨vy,H9,I9,r9,hD9,hz,q9⟩:=zq;refine tH (qf (X:=X') _ s9 _ H9 (.ref s2.heap.objs.size) [vy] (.ref s2.heap.objs.size) [y] (fun _ H'=>H' = upd H9 s2.heap.objs.size (.lst (ys++[vy]))) I9 rfl (.cons r9 .nil) ⟨_,ys,vy,rfl,rfl,hD9,hz,rfl⟩) (fun _ s10 zq=>?_) fun _ _ z=>z.elim;obtain⟨_,H10,I10,_,e10⟩:=zq;subst e10;obtain⟨t10,n10⟩:=again I10;obtain⟨m',hm,w9⟩:=hN _ _ q9;exact⟨m',hm,i+1,ys++[vy],τ',_,hτ',I10.unpinned,t10,n10,w9⟩
 exact codeAny_compStart_list loop (T.self _ 0 _ _ _ (T.keep _ _ _ st3 fun b _ o e=>old b o e) loop)
def Il(xs:List Str)(M:List Str)(hc:X.calm=true)(hg:∀Q0 ex H₀ s₀ C,PG (Rb X sc (xs++M) Q0 ex H₀ s₀ C) tg g)(S:SB X.env.scope X.N xs sc M)(hi:PI X tg M0 wi)
  (ht:∀Q0 ex H₀ s₀ C,PF (Rb X sc (xs++M) Q0 ex H₀ s₀ C) P0 tc)(he:∀Q0 ex H₀ s₀ C,PE (Rb X sc (xs++M) Q0 ex H₀ s₀ C) L0 te)
  (hs:∀v,foldedSetIterable M0 X.env v=pure v:=by intro _;rfl):PE X (.ListComp L0 [⟨tg,M0,P0,0⟩] sc pos) (bj xs.length wi g tc te):=by
 intro Q0 s σ H Q I h;rw[eval_ListComp];refine wpAny_comprehension_free (use:=none) rfl hs (qq fun y hy hf=>I.ok.has y.1 (S.free y hy hf)) S.kind S.names (bH (hi Q0 s σ H _ I h) fun v s1 k1 h1=>bH (hs:=k1) h1 fun itv s2 k2 h2=>?_);obtain⟨it,fp,tn,J,H2,rfl,I2,T,st2,f2,hw⟩:=h2;refine mr (RR:=fun n0 C=>compPost (model X.prog X.w) X.A X.xe none (EP X Q0 σ Q) n0 C) hc hg S ht he I2 T st2 f2 hw fun D C s' H' m I' hn hC hle q=>?_;refine⟨m,hn,fun h' hs'=>fun _=>⟨.ref D,H',?_,rfl,q⟩⟩;have fC:=I2.fpOk (H':=H') hle hC;exact I'.turned (t':=s'.toks) (fun b o hb e=>(hs'.2 b hb).trans e) hC fC.2.1 fC.2.2.2.1 fC.2.2.2.2.1 fC.2.2.2.2.2
def Cy(xs:List Str)(M:List Str)(hN:X.N.Nodup)(hj:X.N[j]? = some y)(hy:X.env.scope.names.lookup y=some .local)(hc:X.calm=true)(hg:∀Q0 ex H₀ s₀ C,PG (Rb X sc (xs++M) Q0 ex H₀ s₀ C) tg g)(S:SB X.env.scope X.N xs sc M)(hi:PI X tg M0 wi)
  (ht:∀Q0 ex H₀ s₀ C,PF (Rb X sc (xs++M) Q0 ex H₀ s₀ C) P0 tc)(he:∀Q0 ex H₀ s₀ C,PE (Rb X sc (xs++M) Q0 ex H₀ s₀ C) L0 te)
  (hsw:swapsWith (.ListComp L0 [⟨tg,M0,P0,0⟩] sc pos) (some (.Name y py)) spos.line X.env=pure true:=by rfl)
  (hs:∀v,foldedSetIterable M0 X.env v=pure v:=by intro _;rfl):PS X (.Assign [.Name y py] (.ListComp L0 [⟨tg,M0,P0,0⟩] sc pos) spos) (tAsg (bj xs.length wi g tc te) (x0c j)):=by
 intro Q0 s σ H D I h;rw[exec_Assign_Name_used _ _ _ _ hsw];refine wpAny_bind (wpAny_standAt (wpAny_bind ?_));show wpAny _ _ (do let _ <-comprehension (.ListComp L0 [⟨tg,M0,P0,0⟩] sc pos) sc X.env _ (newList []) false (eval M0 X.env) (some (assign (.Name y py) X.env))) _ _ s;refine wpAny_bind (wpAny_mono (wpAny_comprehension_free (use:=some (assign (.Name y py) X.env)) (Q:=fun _ s'=>SP X Q0 D .next s') rfl hs (qq fun y hy hf=>I.ok.has y.1 (S.free y hy hf)) S.kind S.names
  (bH (hi Q0 s σ H _ I h) fun v s1 k1 h1=>bH (hs:=k1) h1 fun itv s2 k2 h2=>?_)) (fun _ s' hq=>wpAny_pure (wpAny_pure hq)) fun _ _ e=>e)
 obtain⟨it,fp,tn,J,H2,rfl,I2,T,st2,f2,hw⟩:=h2;refine mr (Q:=fun x H1=>x0c j x σ H1 D.nx) (RR:=fun n0 C=>compPost (model X.prog X.w) X.A X.xe (some (assign (.Name y py) X.env)) (fun _ s'=>SP X Q0 D .next s') n0 C) hc hg S ht he I2 T st2 f2 hw fun D' C s' H' m I' hn hC hle q=>?_;have fC:=I2.fpOk (H':=H') hle hC;show wpAny _ _ (assign (.Name y py) X.env (.ref D')) _ _ s';refine wpAny_assign_Name (Xo (v:=.ref D') I' hN hj (.inl hy) rfl (fun s3 I3 ⟨a,sb,ha⟩=>?_) (.inr hy));have haC:C≠a:=by
  rcases ha with rfl|ha;exact fC.2.1;exact fun z=>fC.2.2.2.2.1 y a ha z.symm
 refine⟨m,hn.sameBut sb haC,fun h' hs'=>fun _=>⟨_,H',?_,q⟩⟩;exact I3.turned (t':=s3.toks) (fun b o hb e=>(hs'.2 b hb).trans e) hC fC.2.1 fC.2.2.2.1 fC.2.2.2.2.1 fC.2.2.2.2.2
end
end L2
namespace VL
open PySem L2
section
variable {io:List (Option Addr)}{H0 F0 F F':Hp}{δ:List Slot}{σ:St}{H:Hp}
def EI.pushN {o:Option V}(I:EI io H0 F0 F δ σ H):EI (none::io) H0 F0 F (.no::δ) (o::σ) H where
 base:=I.base
 sub:=I.sub
 ext:=I.ext
 new:=I.new
 len:=by simp[I.len]
 get:=fun i t e=>by
  cases i with
  |zero=>simp at e;subst e;trivial
  |succ i=>simpa using I.get i t (by simpa using e)
 apart:=fun i j b c b' c' a ne e1 e2 e3 e4=>by
  cases i with
  |zero=>simp at e1
  |succ i =>
   cases j with
   |zero=>simp at e2
   |succ j=>exact I.apart i j b c b' c' a (by lia) (by simpa using e1) (by simpa using e2) (by simpa using e3) (by simpa using e4)
theorem EI.pad (I:EI io H0 F0 F δ σ H):∀(τ:St),EI (replicate τ.length none++io) H0 F0 F (replicate τ.length .no++δ) (τ++σ) H
 | []=>I
 |o::τ=>by
  have:=(I.pad τ).pushN (o:=o);simpa[List.replicate_succ] using this
theorem EI.unpad:∀{τ:St}{δ:List Slot},EI (replicate τ.length none++io) H0 F0 F δ (τ++σ) H->EI io H0 F0 F (δ.drop τ.length) σ H
 | [],δ,I=>I
 |o::τ,[],I=>by have:=I.len;simp at this
 |o::τ,s::δ,I=>by
  have I':EI (none::(replicate τ.length none++io)) H0 F0 F (s::δ) (o::(τ++σ)) H:=by simpa[List.replicate_succ] using I
  simpa using EI.unpad I'.pop
def EI.hide(I:EI (none::io) H0 F0 F (.ob false (.lst n0)::δ) (some (.ref p)::σ) H)(hp:H p=some (.lst ys)):EI io (upd H0 p (.lst ys)) F0 F δ σ H:=by
 have J:=I.pop;obtain⟨a,e,h1,h2,h3,h4⟩:=I.get 0 _ rfl;simp at e;subst e;refine⟨fun b o eb=>?_,I.sub,I.ext,fun b o e h=>?_,J.len,fun i t e=>?_,J.apart⟩
 ·by_cases hb:b=p;subst hb;rw[z0g]at eb;cases eb;exact hp;rw[ya hb]at eb;exact I.base b o eb
 rw[ya (fun z=>by rw[z,h2]at e;cases e)];exact I.new b o e h;have q:=J.get i t e;cases t with
 |no=>trivial
 |fz d=>exact q
 |sc K d=>exact q
 |ob b c =>
  obtain⟨a,e1,g1,g2,g3,g4⟩:=q;refine⟨a,e1,?_,g2,g3,g4⟩;rw[ya];exact g1;rintro rfl;exact I.apart 0 (i+1) _ _ _ _ _ (by lia) rfl (by simpa using e) rfl (by simpa using e1)
def EI.unhide(I:EI io (upd H0 p (.lst ys)) F0 F δ σ H)(h0:H0 p=none)(hF:F0 p=none)(r:DB F n0 ys'):EI (none::io) H0 F0 F (.ob false (.lst n0)::δ) (some (.ref p)::σ) (upd H p (.lst ys')):=by
 have hFp:F p=none:=by
  cases q:F p with
  |none=>rfl
  |some o=>have:=I.new p o q hF;rw[z0g]at this;cases this
 have ownNe:∀{i:Nat}{b:Bool}{c:D}{a:Addr},δ[i]? = some (.ob b c)->σ.getD i none=some (.ref a)->a≠p:=fun {i b c a} e eo z=>by
  obtain⟨a',e1,g1,_⟩:=I.get i _ e;rw[eo]at e1;cases e1;rw[z,z0g]at g1;cases g1
 refine⟨fun b o eb=>?_,I.sub.upd hFp,I.ext,fun b o e h=>?_,by simp[I.len],fun i t e=>?_,fun i j b c b' c' a ne e1 e2 e3 e4=>?_⟩
 ·have hb:b≠p:=fun z=>by rw[z,h0]at eb;cases eb
  rw[ya hb];exact I.base b o (by rw[ya hb];exact eb)
 ·have q:=I.new b o e h;by_cases hb:b=p;rw[hb];exact h0;rw[ya hb]at q;exact q
 ·cases i with
  |zero=>simp at e;subst e;exact⟨p,rfl,h0,hFp,⟨ys',z0g,r⟩,fun z=>by cases z⟩
  |succ i =>
   have e':δ[i]? = some t:=by simpa using e
   have q:=I.get i t e';simp only[getD_cons_succ];cases t with
   |no=>trivial
   |fz d=>exact q
   |sc K d=>exact q
   |ob b c =>
    obtain⟨a,e1,g1,g2,g3,g4⟩:=q;have ne:=ownNe e' e1;rw[ya ne]at g1;exact⟨a,e1,g1,g2,g3.mono (BB.refl _) (fun o eo=>by rw[ya ne];exact eo),g4⟩
 cases i with
 |zero =>
  cases j with
  |zero=>exact ne rfl
  |succ j=>simp at e1 e3;subst e3;exact ownNe (by simpa using e2) (by simpa using e4) rfl
 |succ i =>
  cases j with
  |zero=>simp at e2 e4;subst e4;exact ownNe (by simpa using e1) (by simpa using e3) rfl
  |succ j=>exact I.apart i j b c b' c' a (by lia) (by simpa using e1) (by simpa using e2) (by simpa using e3) (by simpa using e4)
def cj (n:Nat)(g:TG)(gd:TGd):Prop:=∀(io:List (Option Addr))(H0 F0 F:Hp)(δ:List Slot)(σ:St)(H:Hp)(d:D)(v:V)(Q:St->Hp->Prop)(Qd:List Slot->Prop),EI io H0 F0 F δ σ H->Rep F d v->gd d δ Qd ->
 (∀δ' σ',EI io H0 F0 F δ' σ' H->σ'.drop n=σ.drop n->σ'.length=σ.length->Qd δ'->Q σ' H)->g v σ H Q
def Dy (n:Nat)(g:TGs)(gd:BC):Prop:=∀(io:List (Option Addr))(H0 F0 F:Hp)(δ:List Slot)(σ:St)(H:Hp)(ds:List D)(vs:List V)(Q:St->Hp->Prop)(Qd:List Slot->Prop),EI io H0 F0 F δ σ H->DB F ds vs->gd ds δ Qd ->
 (∀δ' σ',EI io H0 F0 F δ' σ' H->σ'.drop n=σ.drop n->σ'.length=σ.length->Qd δ'->Q σ' H)->g vs σ H Q
def DGn (X:Cx)(n:Nat)(e:Expr)(gd:TGd):Prop:=∃g,PG X e g/\cj n g gd
def DGsn (X:Cx)(n:Nat)(es:List Expr)(gd:BC):Prop:=∃g,PGs X es g/\Dy n g gd
variable {X:Cx}{pos:Pos}{n:Nat}
def Jl(hn:i<n)(hN:X.N.Nodup)(hi:X.N[i]? = some x)(hx:Loc X.env.scope x)(hf:X.fn x=true\/X.env.scope.names.lookup x=some .local:=by first|exact .inl rfl|exact .inr rfl|assumption):DGn X n (.Name x pos) (dgN i) :=
 ⟨_,jd hN hi hx hf,fun io H0 F0 F δ σ H d v Q Qd I r q k=>by
  replace q:=q0 q;obtain⟨h,q⟩:=q;obtain⟨h1,h2⟩:=h.ne;refine k _ _ ((I.pushF r).setv (b:=false) h1 h2) ?_ (by simp) q;rw[List.drop_set_of_lt (by lia)]⟩
def Ey:DGsn X n [] Df:=⟨_,qi,fun io H0 F0 F δ σ H ds vs Q Qd I r q k=>by
 replace q:=Yq q;obtain⟨rfl,q⟩:=q;exact⟨r,k _ _ I rfl rfl q⟩⟩
def qr(h1:DGn X n e g)(h2:DGsn X n es u)
  (hs:(assignEach (e::es) X.env).map (·.2)=assign e X.env::(assignEach es X.env).map (·.2):=by rfl):DGsn X n (e::es) (je g u):=by
 obtain⟨t,p,s⟩:=h1;obtain⟨t',p',s'⟩:=h2;refine⟨_,kg p p' hs,fun io H0 F0 F δ σ H ds vs Q Qd I r q k=>?_⟩;replace q:=Zq q;obtain⟨d,dr,rfl,q⟩:=q;obtain⟨v,vr,rfl,r1,r2⟩:=r;exact⟨v,vr,rfl,s io H0 F0 F δ σ H d v _ _ I r1 q fun δ' σ' I' e1 e2 q'=>s' io H0 F0 F δ' σ' H dr vr Q Qd I' r2 q' fun δ2 σ2 I2 e3 e4 q2=>k δ2 σ2 I2 (e3.trans e1) (e4.trans e2) q2⟩
def Fy(hc:X.calm=true)(h:DGsn X n es u)
  (hn:(assignEach es X.env).length=m:=by rfl)(I0:(assignEach es X.env).findIdx? (·.1)=none:=by rfl):DGn X n (.Tuple es k pos) (Ef m u):=by
 obtain⟨t,p,s⟩:=h;refine⟨_,ui hc p hn I0,fun io H0 F0 F δ σ H d v Q Qd I r q k=>?_⟩;replace q:=ar q;obtain⟨ds,rfl,hl,q⟩:=q;obtain⟨a,vs,rfl,h1,r1⟩:=r;exact⟨a,vs,rfl,SqT.of (I.sub _ _ h1),by rw[<-r1.len];exact hl,s io H0 F0 F δ σ H ds vs Q Qd I r1 q k⟩
def eG:TTd:=fun δ Q=>Q true δ
def DF (X:Cx)(P0:List Expr)(td:TTd):Prop:=∃t,PF X P0 t/\WB t td
def Vc:DF X [] eG:=⟨_,tq,fun io H0 F0 F δ σ H Q Qd I q k=>k true δ F H (BB.refl _) I q⟩
def Ee(h:DT X c td):DF X [c] td:=by obtain⟨t,p,s⟩:=h;exact⟨t,Pw p,s⟩
def Eg (n:Nat)(di:TLd)(gd:TGd)(tc:TTd)(te:TEd):TEd:=fun δ Q=>di δ fun ds δ'=>∃P:List D->List D->List Slot->Prop,P ds [] δ' /\
 (∀d r n0 δ1,P (d::r) n0 δ1->gd d (replicate n .no++δ1) fun δ2=>tc δ2 fun b δ3=>if b=true then te δ3 fun _ y δ4=>n0.length<sizeLine/\P r (n0++[y]) (δ4.drop n) else P r n0 (δ3.drop n)) /\
 ∀n0 δ1,P [] n0 δ1->Q true (.lst n0) δ1
def ur(si:SimI wi di)(sg:cj n g gd)(sc:WB tc cd)(se:Sim te ed):Sim (bj n wi g tc te) (Eg n di gd cd ed):=by
 intro io H0 F0 F δ σ H Q Qd I q k;refine si io H0 F0 F δ σ H _ _ I q fun J ds δ' F' H' sf I' ok q' Dp hD=>?_;obtain⟨P,p0,step,fin⟩:=q';have hF0:F0 Dp=none:=I'.ext.free (I'.sub.free hD);refine⟨fun i m ys H=>m=ds.length - i/\i<=ds.length/\∃F1 δ1 n0,BB F' F1/\EI (none::io) H0 F0 F1 (.ob false (.lst n0)::δ1) (some (.ref Dp)::σ) H/\H Dp=some (.lst ys)/\P (ds.drop i) n0 δ1,⟨ds.length,by simp,zero_le _,F',δ',[],BB.refl _,I'.newL hD rfl,z0g,p0⟩,?_⟩;rintro i m ys H1 ⟨rfl,hi,F1,δ1,n0,s1,I1,hy,p1⟩;refine⟨hy,?_⟩;obtain⟨a,e,hH0,hF1,⟨vs,hv,rv⟩,_⟩:=I1.get 0 _ rfl;simp at e;subst e;rw[hy]at hv;cases hv;have Ih:=I1.hide hy;obtain⟨o1,o2⟩:=ok io _ F0 F1 δ1 σ H1 s1 Ih i;by_cases hlt:i<ds.length
 ·have ed':ds[i]? = some ds[i]:=by simp[hlt]
  have edr:ds.drop i=ds[i]::ds.drop (i+1):=drop_eq_getElem_cons hlt;rw[edr]at p1;obtain⟨go,yl⟩:=o1 _ ed';refine .inr ⟨go,fun ys' H'=>∃F2 δ2 acc',BB F' F2/\EI (none::io) H0 F0 F2 (.ob false (.lst acc')::δ2) (some (.ref Dp)::σ) H'/\H' Dp=some (.lst ys')/\P (ds.drop (i+1)) acc' δ2,fun ys' H' hN=>⟨ds.length - (i+1),by lia,rfl,hlt,hN⟩,fun x H2 y τ hτ=>?_⟩;obtain⟨F2,s2,I2,r2⟩:=yl x H2 y;have I2p:=I2.pad τ;rw[hτ]at I2p;refine sg _ _ F0 F2 _ (τ++σ) H2 _ x _ _ I2p r2 (step _ _ n0 δ1 p1) fun δ3 σ3 I3 e1 e2 q3=>?_;have eσ:σ3=σ3.take n++σ:=by
   have h1:σ3.drop n=σ:=by rw[e1,<-hτ];simp
   conv=>lhs;rw[<-take_append_drop n σ3,h1]
  have lτ:(σ3.take n).length=n:=by
   rw[length_take,e2,length_append,hτ];lia
  refine⟨⟨σ3.take n,lτ,eσ⟩,?_⟩;refine sc _ _ F0 F2 δ3 σ3 H2 _ _ I3 q3 fun b δ4 F4 H4 s4 I4 q4=>?_;have back:∀{δ5:List Slot}{F5 H5:Hp},EI (replicate n none++io) (upd H0 Dp (.lst ys)) F0 F5 δ5 σ3 H5->EI io (upd H0 Dp (.lst ys)) F0 F5 (δ5.drop n) σ H5:=fun {δ5 F5 H5} I5=>by
   rw[eσ]at I5;have I5':EI (replicate (σ3.take n).length none++io) (upd H0 Dp (.lst ys)) F0 F5 δ5 (σ3.take n++σ) H5:=by rw[lτ];exact I5
   have:=EI.unpad I5';rwa [lτ]at this
  cases b with
  |false =>
   rw[if_neg Bool.false_ne_true]at q4 ⊢;have I5:=(back I4);have hy4:H4 Dp=some (.lst ys):=I4.base _ _ z0g;have I6:=I5.unhide (ys':=ys) hH0 hF0 (DB.mono (s2.trans s4) _ _ rv);have eH:upd H4 Dp (.lst ys)=H4:=by
    funext b;by_cases hb:b=Dp;rw[hb,z0g,hy4];rw[ya hb]
   rw[eH]at I6;exact⟨F4,_,n0,(s1.trans s2).trans s4,I6,hy4,q4⟩
  |true =>
   rw[if_pos rfl]at q4 ⊢;refine se.fz I4 q4 fun d v δ5 F5 H5 s5 I5 r5 q5=>?_;refine⟨I5.base _ _ z0g,by rw[<-rv.len];exact q5.1,F5,_,n0++[d],((s1.trans s2).trans s4).trans s5,?_,z0g,q5.2⟩;exact(back I5).unhide hH0 hF0 ((DB.mono ((s2.trans s4).trans s5) _ _ rv).app (.one r5))
 have e:i=ds.length:=by lia
 subst e;rw[drop_length]at p1;exact .inl ⟨o2 rfl,k true _ _ δ1 F1 H1 (sf.trans s1) I1 (fin n0 δ1 p1)⟩
def tOf (td:TEd):TE:=fun σ H Q=>∃io H0 F0 F δ Qd,EI io H0 F0 F δ σ H/\td δ Qd/\∀b d v δ' F' H',BB F F'->EI (none::io) H0 F0 F' (rsl b d::δ') (some v::σ) H'->Qd b d δ'->Q v H'
def Kl (td:TEd):Sim (tOf td) td:=fun io H0 F0 F δ σ H Q Qd I q k=>⟨io,H0,F0,F,δ,Qd,I,q,k⟩
def DE.pe(h:DE X e td):PE X e (tOf td):=by obtain⟨te,p,s⟩:=h;intro Q0 s' σ H Q I q;obtain⟨io,H0,F0,F,δ,Qd,J,q,k⟩:=q;exact p Q0 s' σ H Q I (s io H0 F0 F δ σ H Q Qd J q k)
def ttOf (td:TTd):TT:=fun σ H Q=>∃io H0 F0 F δ Qd,EI io H0 F0 F δ σ H/\td δ Qd/\∀b δ' F' H',BB F F'->EI io H0 F0 F' δ' σ H'->Qd b δ'->Q b H'
def Ll (td:TTd):WB (ttOf td) td:=fun io H0 F0 F δ σ H Q Qd I q k=>⟨io,H0,F0,F,δ,Qd,I,q,k⟩
def DF.pf(h:DF X e td):PF X e (ttOf td):=by obtain⟨te,p,s⟩:=h;intro Q0 s' σ H Q I q;obtain⟨io,H0,F0,F,δ,Qd,J,q,k⟩:=q;exact p Q0 s' σ H Q I (s io H0 F0 F δ σ H Q Qd J q k)
def tgOf (n:Nat)(gd:TGd):TG:=fun v σ H Q=>∃io H0 F0 F δ d Qd,EI io H0 F0 F δ σ H/\Rep F d v/\gd d δ Qd/\∀δ' σ',EI io H0 F0 F δ' σ' H->σ'.drop n=σ.drop n->σ'.length=σ.length->Qd δ'->Q σ' H
def Ml (n:Nat)(gd:TGd):cj n (tgOf n gd) gd:=fun io H0 F0 F δ σ H d v Q Qd I r q k=>⟨io,H0,F0,F,δ,d,Qd,I,r,q,k⟩
def DGn.pg(h:DGn X n e gd):PG X e (tgOf n gd):=by obtain⟨g,p,s⟩:=h;intro Q0 s' σ H v u Q I r q;obtain⟨io,H0,F0,F,δ,d,Qd,J,rd,q,k⟩:=q;exact p Q0 s' σ H v u Q I r (s io H0 F0 F δ σ H d v Q Qd J rd q k)
def Gy(xs:List Str)(M:List Str)(hc:X.calm=true)(S:SB X.env.scope X.N xs sc M)(hi:DI X tg M0 di)(hg:∀Q0 ex H₀ s₀ C,DGn (Rb X sc (xs++M) Q0 ex H₀ s₀ C) xs.length tg gd)
  (ht:∀Q0 ex H₀ s₀ C,DF (Rb X sc (xs++M) Q0 ex H₀ s₀ C) P0 cd)(he:∀Q0 ex H₀ s₀ C,DE (Rb X sc (xs++M) Q0 ex H₀ s₀ C) L0 ed)
  (hs:∀v,foldedSetIterable M0 X.env v=pure v:=by intro _;rfl):DE X (.ListComp L0 [⟨tg,M0,P0,0⟩] sc pos) (Eg xs.length di gd cd ed):=by
 obtain⟨wi,p2,s2⟩:=hi;exact⟨_,Il xs M hc (fun Q0 ex H₀ s₀ C=>(hg Q0 ex H₀ s₀ C).pg) S p2 (fun Q0 ex H₀ s₀ C=>(ht Q0 ex H₀ s₀ C).pf) (fun Q0 ex H₀ s₀ C=>(he Q0 ex H₀ s₀ C).pe) hs,ur s2 (Ml _ _) (Ll _) (Kl _)⟩
def Hy(xs:List Str)(M:List Str)(hN:X.N.Nodup)(hj:X.N[j]? = some y)(hy:X.env.scope.names.lookup y=some .local)(hc:X.calm=true)(S:SB X.env.scope X.N xs sc M)(hi:DI X tg M0 di)
  (hg:∀Q0 ex H₀ s₀ C,DGn (Rb X sc (xs++M) Q0 ex H₀ s₀ C) xs.length tg gd)(ht:∀Q0 ex H₀ s₀ C,DF (Rb X sc (xs++M) Q0 ex H₀ s₀ C) P0 cd)(he:∀Q0 ex H₀ s₀ C,DE (Rb X sc (xs++M) Q0 ex H₀ s₀ C) L0 ed)
  (hsw:swapsWith (.ListComp L0 [⟨tg,M0,P0,0⟩] sc pos) (some (.Name y py)) spos.line X.env=pure true:=by rfl)
  (hs:∀v,foldedSetIterable M0 X.env v=pure v:=by intro _;rfl):DS X (.Assign [.Name y py] (.ListComp L0 [⟨tg,M0,P0,0⟩] sc pos) spos) (lG j (Eg xs.length di gd cd ed)):=by
 obtain⟨wi,p2,s2⟩:=hi;exact⟨_,Cy xs M hN hj hy hc (fun Q0 ex H₀ s₀ C=>(hg Q0 ex H₀ s₀ C).pg) S p2 (fun Q0 ex H₀ s₀ C=>(ht Q0 ex H₀ s₀ C).pf) (fun Q0 ex H₀ s₀ C=>(he Q0 ex H₀ s₀ C).pe) hsw hs,Wq (ur s2 (Ml _ _) (Ll _) (Kl _))⟩
end
end VL
namespace L2
open PySem PySem.Spec PyProof.Rows
section
variable {X:Cx}
def Iy:SlR X (fun x lo hi H Q=>∃z,x=.str z/\z.length<=sizeLine/\Q (.str (Txt.slice z lo hi)) H):=by
 intro Q0 s σ H x v vl vu lo hi sl Q I rx hs pl pu h;obtain⟨z,rfl,hz,q⟩:=h;obtain⟨t,rfl⟩:=rx;refine⟨"str",_,F.slot_str_getitem.lookup,typeIs_str _ _ _,?_⟩;have key:∀(l u:Option (Int×Tok)),vl=partValue l->vu=partValue u->lo=l.map (·.1)->hi=u.map (·.1)->wpAny (model X.prog X.w) X.A (getItem (.str z t) (.ref sl)) (EP X Q0 σ Q) X.xe s:=by
  intro l u e1 e2 e3 e4;subst e1 e2 e3 e4;refine wpAny_getItem_str_slice (l:=l) (u:=u) (st:=none) hs rfl (post_val_or_str ⟨le_trans (slice_le z _ _) hz,fun t' k=>?_⟩);exact(fun _=>⟨.str _,H,I.tok k,⟨t',rfl⟩,q⟩)
 cases pl with
 |none =>
  cases pu with
  |none=>exact key none none rfl rfl rfl rfl
  |int j u=>exact key none (some (j,u)) rfl rfl rfl rfl
 |int i u' =>
  cases pu with
  |none=>exact key (some (i,u')) none rfl rfl rfl rfl
  |int j u=>exact key (some (i,u')) (some (j,u)) rfl rfl rfl rfl
theorem xr:∀{ts:List Str}{us:List Value},EB (ts.map V.str) us->∃l:List (Str×Tok),us=strValues l/\l.map (·.1)=ts
 | [],_,.nil=>⟨[],rfl,rfl⟩
 |t::ts,_,.cons r rs=>by
  obtain⟨k,rfl⟩:=r;obtain⟨l,rfl,e⟩:=xr rs;exact⟨(t,k)::l,rfl,by simp[e]⟩
def Jy:MtR X "str.join" (fun x vs H Q=>∃sep p,x=.str sep/\vs=[.ref p]/\∃ts:List Str,H p=some (.lst (ts.map V.str))/\JoinOk sep ts=true/\Q (.str (join sep ts)) H):=by intro Q0 s σ H x xs v us Q I rx rs h;obtain⟨sep,p,rfl,rfl,ts,hp,ok,q⟩:=h;obtain⟨t,rfl⟩:=rx;obtain⟨u,rfl,ru⟩:=Jc rs;cases ru;obtain⟨Z0,rv,pl,hz⟩:=I.list (SqL.of hp);obtain⟨l,rfl,el⟩:=xr rv;exact SC.join pl.isList el ok fun t' k=>(fun _=>⟨.str _,H,I.tok k,⟨t',rfl⟩,q⟩)
theorem Ky:typeLookup (.type "list") "keys" = pure none:=by rw[typeLookup_type,builtinLookup_eq_fast];kernel_rfl
def getAttr?_miss_list 
  (hx:s.heap.get? a=some { cls:=.type "list",data:=.seq xs k })(hA:A.handled=none)
  (h:∀h' tk,(∀b o,s.heap.get? b=some o->h'.get? b=some o)->Q none { s with heap:=h',toks:=tk }) :
  wpAny (model prog w) A (getAttr? (.ref a) "keys") Q E s:=by
 obtain⟨hp,g,d,tk,os⟩:=s;have hT:∀tk',(⟨hp,g,d,tk',os⟩:Shared).TypeIs (.ref a) "list":=fun _=>⟨_,hx,rfl⟩;have f1:=sub_AttributeError;have f3:=F.slot_list_getattribute.lookup;have f4:=F.slot_list_getattribute.bind (.ref a);have f5:=am_list_getattr_none;unfold getAttr? getAttrBy? getAttrBy
 repeat (any_goals (first|assumption|exact hT _|((with_reducible show wpAny _ _ (call (Value.builtin "list.__getattribute__") _ _) _ _ _);refine call_meets F.slot_list_getattribute (hT _) am_entry_list_getattribute (F.args_list_getattribute_2 _ _) (meets_getattribute_miss_list a xs k #[] "keys" _ Ky (by decide +kernel) (by decide +kernel)) ⟨hx,hA,fun h' tk' e hx'=>?_⟩)|wp_step))
 obtain⟨t',u',he⟩:=hx'.there;show wpAny _ _ (getattributeRaised _ _ _ _ _ _ _) _ _ _;unfold getattributeRaised
 repeat (any_goals (first|assumption|wp_step))
 exact h _ _ hx'.keeps
def yr:entryFor table "dict.update.loop" = some Builtin.«dict.update.loop»:=entryFor_of_tree (by kernel_rfl)
def fj:plainId "dict.update.loop" = true:=by decide +kernel
def Ly(h:IsTup s.heap b Z0)(q:Q Z0.toList s):wpAny (model prog w) A (Builtin.Dict.pairItems (.ref b)) Q E s:=by
 obtain⟨o,ho,hc,n,hd⟩:=h;unfold Builtin.Dict.pairItems;refine wpAny_bind (wpAny_typeOf (show s.TypeIs (.ref b) "tuple" from⟨o,ho,hc⟩) ?_);have hT:s.TypeIs (.ref b) "tuple":=⟨o,ho,hc⟩;obtain⟨hp,g,d,tk,os⟩:=s;unfold seqItems?;have hd':o.data=.seq Z0 n:=hd;obtain⟨c,dct,dat,sl⟩:=o;subst hd'
 repeat (any_goals (first|assumption|wp_step))
def zr (h:Heap)(u:Value)(k:Key)(r:Value):Prop:=∃b ku,u=.ref b/\IsTup h b #[ku,r]/\GB (kV k) ku
variable {prog:Program}{w:World}{A:Around}{R:Result->Shared->Prop}
def My(hh:A.in1.handled=none)(hne:l≠it)(hSi:S≠it)(hSl:S≠l)(ps:List (Key×Value))(hps:ps.length=items.size)(hps':ps.length<=sizeLine) :
  ∀(k i:Nat)(s:Shared)(vs:List (Key×Value)),items.size - i=k->i<=items.size->s.heap.IsListIter it l i->s.heap.IsList l items->s.heap.DictOf (Zb prog w) S vs->vs.length<=i ->
  (∀(j:Nat)(kv:Key×Value)(u:Value),ps[j]? = some kv->items[j]? = some u->∃b,u=.ref b/\b≠S/\b≠it/\zr s.heap u kv.1 kv.2) ->
  (∀h' tk,(∀b o,b≠it->b≠S->s.heap.get? b=some o->h'.get? b=some o)->h'.DictOf (Zb prog w) S (merged vs (ps.drop i))->R (.ok (.ret .none)) { s with heap:=h',toks:=tk }) ->
  codeAny (model prog w) A (.builtin "dict.update.loop" ⟨[.ref S,.ref it,rawInt i,.none],[]⟩) R s:=by
 intro k;have W:=(Walks.list (prog:=prog) (w:=w) (A:=A.in1) hh it l hne items);induction k with
 |zero =>
  intro i s vs hk hi h1 h2 hd hvl hp hR;have hin:i=items.size:=by lia
  subst hin;refine codeAny_builtin yr ?_;rw[Around.under_plainId fj _];show wpAny _ A.in1 (pyNext (.ref it) >>= _) _ _ s;refine wpAny_bind (W.done s _ _ ⟨h1,h2⟩ fun h' tk' hm=>?_);show wpAny _ _ (Builtin.Dict.addKeywords S [] >>= _) _ _ _;refine wpAny_bind (wpAny_pure (wpAny_pure (hR h' tk' (fun b o hb hb' e=>hm b o (by simpa using hb) e) ?_)));rw[drop_of_length_le (by lia)];obtain⟨o,es,ep,g,gB⟩:=hd;exact⟨o,es,ep,hm S o (by simpa using hSi) g,gB⟩
 |succ k ih =>
  intro i s vs hk hi h1 h2 hd hvl hp hR;have hlt:i<items.size:=by lia
  have hlt':i<ps.length:=by lia
  refine codeAny_builtin yr ?_;rw[Around.under_plainId fj _];show wpAny _ A.in1 (pyNext (.ref it) >>= _) _ _ s;refine wpAny_bind (W.item i s _ _ hlt ⟨h1,h2⟩ fun v h' tk' hv st' hm=>?_);obtain⟨b,eb,nbS,nbi,pa⟩:=hp i ps[i] v (getElem?_eq_getElem hlt') hv;obtain⟨b',ku,e2,ht,rk⟩:=pa;rw[eb]at e2;cases e2;subst eb;have kp:∀c o,c≠it->s.heap.get? c=some o->h'.get? c=some o:=fun c o hc e=>hm c o (by simpa using hc) e;have ht':IsTup h' b #[ku,ps[i].2]:=by obtain⟨o,ho,r⟩:=ht;exact⟨o,kp b o nbi ho,r⟩
  have hd':h'.DictOf (Zb prog w) S vs:=by
   obtain⟨o,es,ep,g,gB⟩:=hd;exact⟨o,es,ep,kp S o hSi g,gB⟩
  show wpAny _ A.in1 (holding [Value.ref b] _ >>= _) _ _ _;refine wpAny_bind (wpAny_holding ?_);refine wpAny_bind ?_;refine wpAny_tryCatch (Ly (s:={ s with heap:=h',toks:=tk' }) ht' ?_);show wpAny _ A.in1 (holding [ku,ps[i].2] (dictSet S ku ps[i].2)) _ _ _;refine wpAny_holding (wpAny_dictSet_pairs (qg rk) hd' (fun h2' hd2 hs2=>?_) (by lia));show wpAny _ A.in1 (again _) _ _ _;refine wpAny_pure ⟨plainId_quiet fj _,?_⟩;have kp2:∀c o,c≠it->c≠S->s.heap.get? c=some o->h2'.get? c=some o:=fun c o hc hc' e=>(hs2.2 c hc').trans (kp c o hc e);have ec:((i:Int)+1)=((i+1:Nat):Int):=by lia
  show codeAny _ _ (.builtin "dict.update.loop" ⟨[.ref S,.ref it,rawInt ((i:Int)+1),.none],[]⟩) _ _;rw[ec];refine ih (i+1) _ (stored vs ps[i].1 ps[i].2) (by lia) hlt (st'.1.at fun o e=>(hs2.2 it (Ne.symm hSi)).trans e) (st'.2.at fun o e=>(hs2.2 l (Ne.symm hSl)).trans e) hd2 ?_ ?_ ?_
  ·have:(stored vs ps[i].1 ps[i].2).length<=vs.length+1:=by
    unfold stored;split;simp;simp
   lia
  intro j kv u ej eu;obtain⟨c,e1,n1,n2,c',ku',e2,t2,r2⟩:=hp j kv u ej eu;rw[e1]at e2;cases e2;refine⟨c,e1,n1,n2,c,ku',e1,?_,r2⟩;obtain⟨o,ho,r⟩:=t2;exact⟨o,kp2 c o n2 n1 ho,r⟩;intro h3 tk3 k3 d3;refine hR h3 tk3 (fun c o hc hc' e=>k3 c o hc hc' (kp2 c o hc hc' e)) ?_;have e4:ps.drop i=ps[i]::ps.drop (i+1):=drop_eq_getElem_cons hlt';rw[e4];exact d3
theorem Ar:∀{ps:List (Key×V)}{ys:List V}{us:List Value}{H:Hp}{h:Heap},(∀b o,H b=some o->HB X.prog X.w H h b o)->EB ys us->ps.length=ys.length->(∀(i:Nat) y kv,ys[i]? = some y->ps[i]? = some kv->∃b,y=.ref b/\H b=some (.tup [kV kv.1,kv.2])) ->
  ∃qs:List (Key×Value),KV ps qs/\qs.length=ps.length/\∀(j:Nat) kv u,qs[j]? = some kv->us[j]? = some u->∃b,u=.ref b/\(∃o,H b=some o)/\zr h u kv.1 kv.2
 | [],[],_,H,h,hok,.nil,_,_=>⟨[],.nil,rfl,fun j kv u e=>by simp at e⟩
 | [],y::ys,_,H,h,hok,_,hl,_=>by simp at hl
 |p::ps,[],_,H,h,hok,_,hl,_=>by simp at hl
 |p::ps,y::ys,_,H,h,hok,.cons (b:=u) (l₂:=us) r rs,hl,hp=>by
  obtain⟨qs,k1,k2,k3⟩:=Ar (ps:=ps) (ys:=ys) (us:=us) hok rs (by simpa using hl) fun i y kv e1 e2=>hp (i+1) y kv (by simpa using e1) (by simpa using e2);obtain⟨b,rfl,hb⟩:=hp 0 y p rfl rfl;cases r;obtain⟨_,Z0,rv,ht⟩:=hok b _ hb;obtain⟨ku,u2,rfl,rk,ru⟩:=yi rv;refine⟨(p.1,u2)::qs,.cons ⟨rfl,ru⟩ k1,by simp[k2],fun j kv u e1 e2=>?_⟩;cases j with
  |zero =>
   simp at e1 e2;subst e1 e2;exact⟨b,rfl,⟨_,hb⟩,b,ku,rfl,ht,rk⟩
  |succ j=>exact k3 j kv u (by simpa using e1) (by simpa using e2)
def Nl (hc:X.calm=true):yc X (.type "dict") (fun xs H Q=>∃p ys,xs=[.ref p]/\H p=some (.lst ys)/\∃ps:List (Key×V),ps.length=ys.length/\(∀(i:Nat) y kv,ys[i]? = some y->ps[i]? = some kv->∃b,y=.ref b/\H b=some (.tup [kV kv.1,kv.2])) /\
  ∀l,H l=none->Q (.ref l) (upd H l (.dK (ce [] ps)))):=by
 intro Q0 s σ H xs us Q I r h;obtain⟨p,ys,rfl,hp,ps,hl,hpair,q⟩:=h;obtain⟨u,rfl,ru⟩:=Jc r;cases ru;obtain⟨hz,Z0,nn,rv,el⟩:=I.hok p _ hp;have hlen:=rv.length;obtain⟨qs,kv1,kv2,kv3⟩:=Ar (X:=X) I.hok rv hl hpair;have lp:p<s.heap.objs.size:=lt_size el;refine callType_codes (Q₁:=fun obj s₁=>obj=.ref s.heap.objs.size/\s₁ = { s with heap:=s.heap.push { cls:=.type "dict",data:=.dict #[] } }) F.kt_called_dict (F.kt_typeCall_dict_1 _) F.entry_dict_init (kt_code_dict_new _ ⟨rfl,rfl⟩) ?_;rintro obj s₁ ⟨rfl,rfl⟩;have hnew:(s.heap.push { cls:=.type "dict",data:=.dict #[] }).DictOf (Zb X.prog X.w) s.heap.objs.size []:=Heap.DictOf.new s.heap;refine⟨hnew.typeIs,F.args_dict_init_2 _ _,?_⟩;unfold Builtin.«dict.__init__»;refine wpAny_bind ?_;unfold Builtin.Dict.selfAndRest;refine wpAny_bind (wpAny_notOrdered_dict hnew.typeIs ?_);show wpAny _ _ (pure (s.heap.objs.size,[Value.ref p])) _ _ _;refine wpAny_pure ?_;show wpAny _ _ (Builtin.Dict.updateFrom "dict.__init__" s.heap.objs.size (.ref p) [] .none) _ _ _;unfold Builtin.Dict.updateFrom;have el1:(s.heap.push { cls:=.type "dict",data:=.dict #[] }).get? p=some { cls:=.type "list",data:=.seq Z0.toArray nn }:=get?_push_of_some _ el;refine wpAny_bind (wpAny_typeOf (show Shared.TypeIs _ (.ref p) "list" from⟨_,el1,rfl⟩) ?_);rw[if_pos (by decide)];refine wpAny_bind (getAttr?_miss_list el1 (I.ok.hd hc) fun h2 tk2 k2=>?_);show wpAny _ _ (rule _ >>= fun _=>pyIter (.ref p) >>= fun it=>again (Code.builtin "dict.update.loop" { pos:=[Value.ref s.heap.objs.size,it,rawInt 0,Value.none] })) _ _ _;refine wpAny_bind (wpAny_rule ?_);have up1:∀b o,s.heap.get? b=some o->h2.get? b=some o:=fun b o e=>k2 b o (get?_push_of_some _ e);have el2:h2.get? p=some { cls:=.type "list",data:=.seq Z0.toArray nn }:=up1 _ _ el;have isl2:h2.IsList p Z0.toArray:=⟨_,el2,rfl,_,rfl⟩;refine wpAny_bind (wpAny_pyIter_list (s:={ s with heap:=h2,toks:=tk2 }) isl2 ?_);have hS2:∃o,h2.get? s.heap.objs.size=some o:=⟨_,k2 _ _ (get?_push_size _ rfl)⟩;have ltS:s.heap.objs.size<h2.objs.size:=let ⟨_,e⟩:=hS2;lt_size e;have ltp:p<h2.objs.size:=lt_size el2;have hd2:h2.DictOf (Zb X.prog X.w) s.heap.objs.size []:=by
  obtain⟨o,es,ep,g,gB⟩:=hnew;exact⟨o,es,ep,k2 _ _ g,gB⟩
 have hd3:(h2.push { cls:=.type "list_iterator",data:=.fields #[.ref p,.int 0 0] }).DictOf (Zb X.prog X.w) s.heap.objs.size []:=hd2.push _;refine wpAny_pure ⟨plainId_quiet fj _,?_⟩;refine My (A:=X.A.in1) (prog:=X.prog) (w:=X.w) (it:=h2.objs.size) (l:=p) (S:=s.heap.objs.size) (items:=Z0.toArray) (I.ok.hd hc) (ne_of_lt ltp) (ne_of_lt ltS) (ne_of_gt lp) qs (by simp[kv2,hl,hlen]) (by rw[kv2,hl];exact hz) _ 0 { s with heap:=h2.push { cls:=.type "list_iterator",data:=.fields #[.ref p,.int 0 0] },toks:=tk2 } [] rfl (zero_le _) ⟨_,get?_push_size _ rfl,rfl,rfl⟩ (isl2.push _) hd3 (le_refl _) ?_ ?_;intro j kv u e1 e2;obtain⟨b,rfl,⟨o,hb⟩,b',ku,e3,t3,r3⟩:=kv3 j kv u e1 (by simpa using e2);cases e3;obtain⟨o',ho',rr⟩:=t3;have lb:b<s.heap.objs.size:=lt_size ho';exact⟨b,rfl,ne_of_lt lb,ne_of_lt (lt_trans lb ltS),b,ku,rfl,⟨o',get?_push_of_some _ (up1 _ _ ho'),rr⟩,r3⟩;intro h' tk k3 d3;refine⟨rfl,fun _=>⟨.ref s.heap.objs.size,upd H s.heap.objs.size (.dK (ce [] ps)),I.laid (t':=tk) (fun b o e=>?_) (le_refl _) (lq ?_ (beq_eq_false_iff_ne.mpr (Ne.symm (ne_of_lt I.big))) (KV.merge kv1 .nil) d3),rfl,q _ I.fresh⟩⟩;have lb:b<s.heap.objs.size:=lt_size e;exact k3 b o (ne_of_lt (lt_trans lb ltS)) (ne_of_lt lb) (get?_push_of_some _ (up1 b o e));have:∀(ps Y0:List (Key×V)),(ce Y0 ps).length<=Y0.length+ps.length:=by
  intro ps;induction ps with
  |nil=>intro Y0;exact le_refl _
  |cons a r ih =>
   intro Y0;have h1:=ih (rB Y0 a.1 a.2);have h2:=Fk Y0 a.1 a.2;show(ce (rB Y0 a.1 a.2) r).length<=_;simp only[length_cons]
   lia
 have:=this ps [];simp at this
 lia
end
end L2
namespace VL
open PySem L2
section
variable {X:Cx}{pos:Pos}
def Ol(hg:Gl X x)(hm:∃t,X.mg x=some (.str z t))(hd:(x == ("__debug__":Str))=false:=by decide):DE X (.Name x pos) (dC (.str z)):=by obtain⟨t,hm⟩:=hm;exact Dx (v:=.str z) (fun _=>rfl) hg hm ⟨t,rfl⟩ hd
abbrev TOd:=List Slot->(Option Int->List Slot->Prop)->Prop
def SimO (t:TO)(td:TOd):Prop:=∀(io:List (Option Addr))(H0 F0 F:Hp)(δ:List Slot)(σ:St)(H:Hp)(Q:Option Int->Hp->Prop)(Qd:Option Int->List Slot->Prop),EI io H0 F0 F δ σ H->td δ Qd ->
 (∀o δ' F' H',BB F F'->EI io H0 F0 F' δ' σ H'->Qd o δ'->Q o H')->t σ H Q
def DO (X:Cx)(e:Option Expr)(td:TOd):Prop:=∃t,PO X e t/\SimO t td
def doN:TOd:=fun δ Q=>Q none δ
def doS (t:TEd):TOd:=fun δ Q=>t δ fun _ d δ'=>kE d fun i=>Q (some i) δ'
def Bc:DO X none doN:=⟨_,mw,fun io H0 F0 F δ σ H Q Qd I q k=>k none δ F H (BB.refl _) I q⟩
def bc(h:DE X e t):DO X (some e) (doS t):=by obtain⟨t,p,s⟩:=h;refine⟨_,Op p,fun io H0 F0 F δ σ H Q Qd I q k=>s.fz I q fun d v δ' F' H' sf I' r q'=>?_⟩;replace q':=zf q';obtain⟨i,rfl,q'⟩:=q';exact⟨i,r,k (some i) δ' F' H' sf I' q'⟩
noncomputable def oB (xs:List D) (lo hi:Option Int):List D:=(xs.drop (HT.sIx xs.length 0 lo)).take (HT.sIx xs.length xs.length hi - HT.sIx xs.length 0 lo)
def DB.cut(r:DB F ds vs)(lo hi:Option Int):DB F (oB ds lo hi) (oG vs lo hi):=by unfold oB oG;rw[r.len];exact(r.drop _).take _
def dSlL (t:TEd)(l h:TOd):TEd:=fun δ Q=>t δ fun _ d δ1=>l δ1 fun lo δ2=>h δ2 fun hi δ3=>∃xs,d=.lst xs/\Q true (.lst (oB xs lo hi)) δ3
def Pl (i:Nat)(l h:TOd):TEd:=fun δ Q=>cB i δ fun s=>pkS s fun _=>l δ fun lo δ2=>h δ2 fun hi δ3=>cB i δ3 fun s=>pkS s fun d=>uD d fun xs=>Q true (.lst (oB xs lo hi)) δ3
def dSlS (t:TEd)(l h:TOd):TEd:=fun δ Q=>t δ fun _ d δ1=>l δ1 fun lo δ2=>h δ2 fun hi δ3=>∃z,d=.str z/\z.length<=sizeLine/\Q false (.str (Txt.slice z lo hi)) δ3
variable {e:Expr}{lo hi:Option Expr}{p2:Pos}{t:TEd}{l h:TOd}
def Ny (he:DE X e t)(hl:DO X lo l)(hh:DO X hi h):DE X (.Subscript e (.Slice lo hi none p2) pos) (dSlL t l h):=by obtain⟨t1,p1,s1⟩:=he;obtain⟨t2,p2,s2⟩:=hl;obtain⟨t3,p3,s3⟩:=hh;refine⟨_,zi vq p1 p2 p3,fun io H0 F0 F δ σ H Q Qd I q k=>s1.fz I q fun d v δ1 F1 H1 f1 I1 r1 q1=>s2 io H0 F0 F1 δ1 σ H1 _ _ I1 q1 fun lo δ2 F2 H2 f2 I2 q2=>s3 io H0 F0 F2 δ2 σ H2 _ _ I2 q2 fun hi δ3 F3 H3 f3 I3 q3=>?_⟩;obtain⟨xs,rfl,q3⟩:=q3;obtain⟨a,vs,rfl,h1,r⟩:=r1;exact⟨a,rfl,vs,I3.sub _ _ (f3 _ _ (f2 _ _ h1)),fun p hp=>k true _ _ δ3 F3 _ ((f1.trans f2).trans f3) (I3.newL hp ((DB.mono (f2.trans f3) _ _ r).cut lo hi)) q3⟩
def Nc(ho:PE X (.Name x p) (tVar i))(hl:DO X lo l)(hh:DO X hi h):DE X (.Subscript (.Name x p) (.Slice lo hi none p2) pos) (Pl i l h):=by obtain⟨t2,p2,s2⟩:=hl;obtain⟨t3,p3,s3⟩:=hh;refine⟨_,zi vq ho p2 p3,fun io H0 F0 F δ σ H Q Qd I q k=>?_⟩;replace q:=Hq q;obtain⟨p0,q⟩:=q;obtain⟨d0,e0⟩:=isSome_iff_exists.mp p0;obtain⟨v0,ev,_⟩:=I.pk e0;refine⟨v0,ev,s2 io H0 F0 F δ σ H _ _ I q fun lo δ2 F2 H2 f2 I2 q2=>s3 io H0 F0 F2 δ2 σ H2 _ _ I2 q2 fun hi δ3 F3 H3 f3 I3 q3=>?_⟩;replace q3:=vh q3;obtain⟨d3,e3,q3⟩:=q3;replace q3:=ug q3;obtain⟨xs,rfl,q3⟩:=q3;obtain⟨v,ev',pk⟩:=I3.pk e3;rw[ev]at ev';cases ev';obtain⟨a,vs,rfl,h1,r⟩:=pk.lst I3;exact⟨a,rfl,vs,h1,fun p hp=>k true _ _ δ3 F3 _ (f2.trans f3) (I3.newL hp (r.cut lo hi)) q3⟩
def Br (he:DE X e t)(hl:DO X lo l)(hh:DO X hi h):DE X (.Subscript e (.Slice lo hi none p2) pos) (dSlS t l h):=by obtain⟨t1,p1,s1⟩:=he;obtain⟨t2,p2,s2⟩:=hl;obtain⟨t3,p3,s3⟩:=hh;refine⟨_,zi Iy p1 p2 p3,fun io H0 F0 F δ σ H Q Qd I q k=>s1.fz I q fun d v δ1 F1 H1 f1 I1 r1 q1=>s2 io H0 F0 F1 δ1 σ H1 _ _ I1 q1 fun lo δ2 F2 H2 f2 I2 q2=>s3 io H0 F0 F2 δ2 σ H2 _ _ I2 q2 fun hi δ3 F3 H3 f3 I3 q3=>?_⟩;obtain⟨z,rfl,hz,q3⟩:=q3;exact⟨z,r1,hz,k false _ _ δ3 F3 _ ((f1.trans f2).trans f3) I3.pS q3⟩
def Ql (ta tb:TEd):TEd:=fun δ Q=>ta δ fun _ x δ1=>∃sep,x=.str sep/\tb δ1 fun _ y δ2=>∃ts:List Str,y=.lst (ts.map .str)/\JoinOk sep ts=true/\Q false (.str (join sep ts)) δ2
def Oy(ha:DE X a ta)(hb:DE X b tb)
  (B0:attributeBase a "join" X.env (eval a X.env)=eval a X.env:=by rfl)
  (D0:((backTo cpos (starEach [b] X.env)).all (fun x=>!x.1)&&(backToKw cpos (keywordEach [] X.env)).all (fun x=>x.1.isSome)
  &&decide ([b].length+([]:List Keyword).length+(if ([]:List Keyword).isEmpty then 0 else 1)<30))=true:=by rfl)
  (A0:(apos.endLine == cpos.line)=true:=by rfl)(I0:starEach [b] X.env=(false,eval b X.env)::starEach [] X.env:=by rfl)(C0:(backTo cpos (starEach [] X.env)).any (·.1)=false:=by rfl) :
  DE X (.Call (.Attribute a "join" apos) [b] [] cpos) (Ql ta tb):=by
 obtain⟨t1,p1,s1⟩:=ha;obtain⟨t2,p2,s2⟩:=hb;refine⟨_,pe_bm PySem.F.plainAttrs_str PySem.F.slot_str_join PySem.F.type_str_join Jy p1 (Aa p2 Da I0) B0 D0 A0 I0 C0,fun io H0 F0 F δ σ H Q Qd I q k=>s1.fz I q fun d v δ1 F1 H1 f1 I1 r1 q1=>?_⟩;obtain⟨sep,rfl,q1⟩:=q1;cases(show v=.str sep from r1);refine⟨rfl,s2.fz I1 q1 fun d v δ2 F2 H2 f2 I2 r2 q2=>?_⟩;obtain⟨ts,rfl,ok,q2⟩:=q2;obtain⟨a,vs,rfl,h1,r⟩:=r2;rw[r.strs]at h1;exact⟨sep,a,rfl,rfl,ts,I2.sub _ _ h1,ok,k false _ _ δ2 F2 H2 (f1.trans f2) I2.pS q2⟩
noncomputable def eB (N0:List (Key×D)) (k:Str):Option D:=(N0.find? fun kv=>decide (kv.1=Sum.inr k)).map (·.2)
noncomputable def uB (N0:List (Key×D)) (k:Str) (d:D):List (Key×D):=if (N0.any fun kv=>decide (kv.1=Sum.inr k))=true then N0.map (fun kv=>if kv.1=Sum.inr k then(kv.1,d) else kv) else N0++[(Sum.inr k,d)]
theorem JB.len:∀{ds:List (Key×D)}{vs:List (Key×V)},JB F ds vs->ds.length=vs.length
 | [],vs,h=>by cases(show vs=[] from h);rfl
 |d::ds,vs,h=>by obtain⟨v,r,rfl,h1,h2⟩:=h;simp[JB.len h2]
theorem JB.val(k:Str):∀{ds:List (Key×D)}{vs:List (Key×V)},JB F ds vs->(∀d,eB ds k=some d->∃v,iB vs (Sum.inr k)=some v/\Rep F d v)/\(eB ds k=none->iB vs (Sum.inr k)=none)
 | [],vs,h=>by cases(show vs=[] from h);exact⟨fun d e=>by simp[eB]at e,fun _=>rfl⟩
 |(k',d)::ds,vs,h=>by
  obtain⟨⟨q1,q2⟩,r,rfl,⟨e1,r1⟩,h2⟩:=h;have ih:=JB.val k h2;cases(show q1=k' from e1);by_cases hk:k' = Sum.inr k;refine⟨fun d' e=>⟨q2,by simp[iB,hk],?_⟩,fun e=>by simp[eB,hk]at e⟩;simp[eB,hk]at e;subst e;exact r1;refine⟨fun d' e=>?_,fun e=>?_⟩;obtain⟨v,e2,r2⟩:=ih.1 d' (by simpa[eB,find?_cons,hk] using e);exact⟨v,by simpa[iB,find?_cons,hk] using e2,r2⟩;have:=ih.2 (by simpa[eB,find?_cons,hk] using e);simpa[iB,find?_cons,hk] using this
theorem JB.any(k:Key):∀{ds:List (Key×D)}{vs:List (Key×V)},JB F ds vs->(ds.any fun kv=>decide (kv.1=k))=(vs.any fun kv=>decide (kv.1=k))
 | [],vs,h=>by cases(show vs=[] from h);rfl
 |(k',d)::ds,vs,h=>by
  obtain⟨⟨q1,q2⟩,r,rfl,⟨e1,r1⟩,h2⟩:=h;cases(show q1=k' from e1);simp[JB.any k h2]
theorem JB.app:∀{ds es:List (Key×D)}{vs us:List (Key×V)},JB F ds vs->JB F es us->JB F (ds++es) (vs++us)
 | [],es,vs,us,h,h'=>by cases(show vs=[] from h);exact h'
 |d::ds,es,vs,us,h,h'=>by obtain⟨v,r,rfl,h1,h2⟩:=h;exact⟨v,r++us,rfl,h1,JB.app h2 h'⟩
theorem JB.upd(k:Key)(hv:Rep F d v):∀{ds:List (Key×D)}{vs:List (Key×V)},JB F ds vs->JB F (ds.map fun kv=>if kv.1=k then(kv.1,d) else kv) (vs.map fun kv=>if kv.1=k then(kv.1,v) else kv)
 | [],vs,h=>by cases(show vs=[] from h);rfl
 |(k',d')::ds,vs,h=>by
  obtain⟨⟨q1,q2⟩,r,rfl,⟨e1,r1⟩,h2⟩:=h;cases(show q1=k' from e1);refine⟨_,_,rfl,?_,JB.upd k hv h2⟩;by_cases hk:k' = k;simp only[hk,if_true];exact(show WC F (k,d) (k,v) from⟨rfl,hv⟩);simp only[hk,if_false];exact(show WC F (k',d') (k',q2) from⟨rfl,r1⟩)
def JB.put(r:JB F ds vs)(k:Str)(hv:Rep F d v):JB F (uB ds k d) (rB vs (Sum.inr k) v):=by unfold uB rB;rw[r.any];split;exact r.upd _ hv;exact r.app ⟨_,[],rfl,⟨rfl,hv⟩,rfl⟩
def Cr:TEd:=fun δ Q=>Q true (.dct []) δ
def Jh:DE X (.Dict [] [] pos) Cr:=⟨_,Fi,fun io H0 F0 F δ σ H Q Qd I q k p hp=>k true (.dct []) _ δ F _ (BB.refl _) (I.newD (ds:=[]) (vs:=[]) hp rfl) q⟩
def Sl (i:Nat)(ti:TEd):TEd:=fun δ Q=>(kC δ i).isSome=true/\ti δ fun _ y δ'=>∃N0 k d,kC δ' i=some (.dct N0)/\y=.str k/\eB N0 k=some d/\Q false d δ'
def gj(hu:X.A.units+100<cLine)(ho:PE X (.Name x p) (tVar i))(hi:DE X ie ti)(hs:NoSl ie:=by intro _ _;rfl):DE X (.Subscript (.Name x p) ie pos) (Sl i ti):=by obtain⟨t,pi,si⟩:=hi;refine⟨_,Di (by lia) ho pi hs,fun io H0 F0 F δ σ H Q Qd I q k=>?_⟩;obtain⟨p0,q⟩:=q;obtain⟨d0,e0⟩:=isSome_iff_exists.mp p0;obtain⟨v0,ev,_⟩:=I.pk e0;refine⟨v0,ev,si.fz I q fun d v δ1 F1 H1 f1 I1 r1 q1=>?_⟩;obtain⟨N0,key,dd,e1,rfl,eg,q1⟩:=q1;obtain⟨v,ev',pk⟩:=I1.pk e1;rw[ev]at ev';cases ev';obtain⟨a,Y0,rfl,h1,rk⟩:=pk.dct I1;cases(show _=V.str key from r1);obtain⟨w,ew,rw'⟩:=(rk.val key).1 dd eg;exact⟨a,w,rfl,NB.s h1 ew,k false _ _ δ1 F1 H1 f1 (I1.pushF rw') q1⟩
def Gf (neg:Bool)(ti:TEd)(i:Nat):TEd:=fun δ Q=>ti δ fun _ y δ'=>∃N0 k,kC δ' i=some (.dct N0)/\y=.str k/\Q false (.bl (if neg then !(eB N0 k).isSome else(eB N0 k).isSome)) δ'
def Tl(si:Sim ti td):Sim (tDIn ti (tVar i)) (Gf false td i)/\Sim (z7c ti (tVar i)) (Gf true td i):=by
 refine⟨fun io H0 F0 F δ σ H Q Qd I q k=>si.fz I q fun d v δ1 F1 H1 f1 I1 r1 q1=>?_,fun io H0 F0 F δ σ H Q Qd I q k=>si.fz I q fun d v δ1 F1 H1 f1 I1 r1 q1=>?_⟩ <;>
 ·obtain⟨N0,key,e1,rfl,q1⟩:=q1;obtain⟨w,ew,pk⟩:=I1.pk e1;obtain⟨a,Y0,rfl,h1,rk⟩:=pk.dct I1;cases(show v=V.str key from r1);have e:(iB Y0 (Sum.inr key)).isSome=(eB N0 key).isSome:=by
   cases eg:eB N0 key with
   |none=>rw[(rk.val key).2 eg];rfl
   |some d=>obtain⟨w,ew,_⟩:=(rk.val key).1 d eg;rw[ew];rfl
  refine⟨_,ew,a,_,rfl,NB.o h1,k false _ _ δ1 F1 H1 f1 (I1.pushF ?_) q1⟩;rw[e];rfl
def Py(hu:X.A.units+100<cLine)(hi:DE X e ti)(ho:PE X (.Name x p) (tVar i))(hm:behindInMarks .In (.Name x p)=false:=by rfl):DE X (.Compare e [.In] [.Name x p] pos) (Gf false ti i):=by obtain⟨t,pi,si⟩:=hi;exact⟨_,Jv (kh (by lia) pi ho) hm,(Tl si).1⟩
def Dr(hu:X.A.units+100<cLine)(hi:DE X e ti)(ho:PE X (.Name x p) (tVar i))(hm:behindInMarks .In (.Name x p)=false:=by rfl):DT X (.Compare e [.In] [.Name x p] pos) (Kc (Gf false ti i)):=by obtain⟨t,pi,si⟩:=hi;exact⟨_,jg (kh (by lia) pi ho) hm,Ch (Tl si).1⟩
def Ul(hu:X.A.units+100<cLine)(hi:DE X e ti)(ho:PE X (.Name x p) (tVar i))(hm:behindInMarks .NotIn (.Name x p)=false:=by rfl):DT X (.Compare e [.NotIn] [.Name x p] pos) (Kc (Gf true ti i)):=by obtain⟨t,pi,si⟩:=hi;exact⟨_,jg (mq (by lia) pi ho) hm,Ch (Tl si).2⟩
def Vl (i:Nat)(ti tv:TEd):TSd:=fun E δ=>tv δ fun _ v δ1=>(kC δ1 i).isSome=true/\ti δ1 fun _ y δ2=>∃fl N0 k,δ2[i]? = some (.ob fl (.dct N0))/\y=.str k/\N0.length<sizeLine/\E.nx (δ2.set i (.ob fl (.dct (uB N0 k v))))
def Kh(hu:X.A.units+100<cLine)(ho:PE X (.Name x p) (tVar i))(hi:DE X ie ti)(hv:DE X ve tv)(hs:swapsWith ve (some (.Subscript (.Name x p) ie pos')) pos.line X.env=pure false:=by rfl):DS X (.Assign [.Subscript (.Name x p) ie pos'] ve pos) (Vl i ti tv):=by obtain⟨t,pi,si⟩:=hi;obtain⟨t',pv,sv⟩:=hv;refine⟨_,Ei (by lia) ho pi pv hs,fun io H0 F0 F δ σ H E Ed I q S=>sv.fz I q fun d v δ1 F1 H1 s1 I1 r1 q1=>?_⟩;obtain⟨p0,q1⟩:=q1;obtain⟨d0,e0⟩:=isSome_iff_exists.mp p0;obtain⟨v0,ev,_⟩:=I1.pk e0;refine⟨v0,ev,si.fz I1 q1 fun y u δ2 F2 H2 s2 I2 r2 q2=>?_⟩;obtain⟨fl,N0,key,ec,rfl,hl,q2⟩:=q2;obtain⟨a',ea,n1,n2,⟨Y0,hc,rc⟩,hio⟩:=I2.get i _ ec;have e:=Ec ea;rw[ev]at e;cases e;cases(show u=V.str key from r2);exact⟨a',_,rfl,HC.s hc (by rw[<-rc.len];exact hl),S.nx F2 _ σ _ (s1.trans s2) (I2.change (c':=.dct (uB N0 key d)) ec ea ⟨_,z0g,rc.put key (Rep.mono s2 _ _ r1)⟩) q2⟩
def Qy:List D->(Bool->D->Prop)->Prop:=fun ds Q=>∃ps:List (Str×D),ds=[.lst (ps.map fun p=>.tup [.str p.1,p.2])]/\Q true (.dct (ps.foldl (fun n0 p=>uB n0 p.1 p.2) []))
theorem ij:∀{ps:List (Str×D)}{ys:List V},DB F (ps.map fun p=>D.tup [.str p.1,p.2]) ys->∃qs:List (Key×V),qs.length=ys.length/\(∀(i:Nat) y kv,ys[i]? = some y->qs[i]? = some kv->∃b,y=.ref b/\F b=some (.tup [kV kv.1,kv.2])) /\
  ∀(N0:List (Key×D))(Y0:List (Key×V)),JB F N0 Y0->JB F (ps.foldl (fun n0 p=>uB n0 p.1 p.2) N0) (ce Y0 qs)
 | [],ys,h=>by cases(show ys=[] from h);exact⟨[],rfl,fun i y kv e=>by simp at e,fun _ _ r=>r⟩
 |(k,d)::ps,ys,h=>by
  obtain⟨y,r,rfl,⟨b,vs,rfl,hb,rv⟩,h2⟩:=h;obtain⟨v1,r1,rfl,e1,v2,r2,rfl,e2,e3⟩:=rv;cases(show v1=V.str k from e1);cases(show r2=[] from e3);obtain⟨qs,l,hq,hm⟩:=ij h2;refine⟨(Sum.inr k,v2)::qs,by simp[l],fun i y kv g1 g2=>?_,fun N0 Y0 r=>hm _ _ (r.put k e2)⟩;cases i with
  |zero=>simp at g1 g2;subst g1 g2;exact⟨b,rfl,hb⟩
  |succ i=>exact hq i y kv (by simpa using g1) (by simpa using g2)
def Ry:Uc (fun xs H Q=>∃p ys,xs=[.ref p]/\H p=some (.lst ys)/\∃ps:List (Key×V),ps.length=ys.length/\(∀(i:Nat) y kv,ys[i]? = some y->ps[i]? = some kv->∃b,y=.ref b/\H b=some (.tup [kV kv.1,kv.2])) /\
  ∀l,H l=none->Q (.ref l) (upd H l (.dK (ce [] ps)))) Qy:=by
 intro io H0 F0 F δ σ H xs vs Q Qd I px q k;obtain⟨ps,rfl,q⟩:=q;obtain⟨v,rfl,pk⟩:=dH px;obtain⟨a,us,rfl,h1,r⟩:=pk.lst I;obtain⟨qs,l,hq,hm⟩:=ij r;refine⟨a,us,rfl,h1,qs,l,fun i y kv e1 e2=>?_,fun p hp=>k true _ _ F _ (BB.refl _) (I.newD hp (hm [] [] rfl)) q⟩;obtain⟨b,e,hb⟩:=hq i y kv e1 e2;exact⟨b,e,I.sub _ _ hb⟩
end
section
def dSlC (K:W.Frag)(i:Nat)(l h:TOd):TEd:=fun δ Q=>∃ns,δ[i]? = some (.sc K ns)/\l δ fun lo δ2=>h δ2 fun hi δ3=>Q true (.lst (oB (ns.map .int) lo hi)) δ3
def Sy (ns:List Int)(lo hi:Option Int):∃ms:List Int,oB (ns.map .int) lo hi=ms.map .int/\oG (ns.map .int) lo hi=ms.map .int:=by refine⟨(ns.drop (HT.sIx ns.length 0 lo)).take (HT.sIx ns.length ns.length hi - HT.sIx ns.length 0 lo),?_,?_⟩;unfold oB;simp[map_take,map_drop];unfold oG;simp[map_take,map_drop]
theorem Er:∀ms:List Int,DB F (ms.map .int) (ms.map .int)
 | []=>rfl
 |m::ms=>⟨_,_,rfl,rfl,Er ms⟩
variable {X:Cx}{pos p2:Pos}{lo hi:Option Expr}{l h:TOd}
def Uy(hK:X.K=K)(ho:PE X (.Name x p) (tVar i))(hl:DO X lo l)(hh:DO X hi h):DE X (.Subscript (.Name x p) (.Slice lo hi none p2) pos) (dSlC K i l h):=by subst hK;obtain⟨t2,p2,s2⟩:=hl;obtain⟨t3,p3,s3⟩:=hh;refine⟨_,zi Vp ho p2 p3,fun io H0 F0 F δ σ H Q Qd I q k=>?_⟩;obtain⟨ns,e,q⟩:=q;obtain⟨a,ea,sq⟩:=I.get i _ e;refine⟨.ref a,Ec ea,s2 io H0 F0 F δ σ H _ _ I q fun lo δ2 F2 H2 f2 I2 q2=>s3 io H0 F0 F2 δ2 σ H2 _ _ I2 q2 fun hi δ3 F3 H3 f3 I3 q3=>?_⟩;refine⟨a,_,rfl,I3.sub.seq ((f2.trans f3).seq sq),fun p hp=>?_⟩;obtain⟨ms,e1,e2⟩:=Sy ns lo hi;rw[e1]at q3;rw[e2];exact k true _ _ δ3 F3 _ (f2.trans f3) (I3.newL hp (Er ms)) q3
def Hf (ds:List D)(g:TGd)(tb:TSd)(E:QC)(δ:List Slot):Prop:=∃(fg:List Nat)(P:List D->List Slot->Prop),P ds (fgt fg δ) /\
 (∀d r δ,P (d::r) δ->g d δ fun δ2=>tb { E with nx:=fun δ'=>P r (fgt fg δ'),ct:=fun δ'=>P r (fgt fg δ'),bk:=E.nx } δ2)/\∀δ,P [] δ->E.nx δ
theorem q2u:dFor di g tb E δ=di δ fun ds δ'=>Hf ds g tb E δ':=rfl
def Jb(fg:List Nat)(P:List D->List Slot->Prop)(h0:P ds (fgt fg δ))(hs:∀d r δ,P (d::r) δ->g d δ fun δ2=>tb { E with nx:=fun δ'=>P r (fgt fg δ'),ct:=fun δ'=>P r (fgt fg δ'),bk:=E.nx } δ2)(hd:∀δ,P [] δ->E.nx δ):Hf ds g tb E δ:=⟨fg,P,h0,hs,hd⟩
end
section
def x9 (lo:Int)(n i:Nat)(h:i<n):(sB lo n).drop i=.int (lo+i)::(sB lo n).drop (i+1):=by
 have hl:i<(sB lo n).length:=by simpa[sB] using h
 rw[drop_eq_getElem_cons hl];simp[sB]
def Jf {lo:Int}(fg:List Nat)(P:Nat->List Slot->Prop)(h0:P 0 (fgt fg δ))(hs:∀i δ,i<n->P i δ->g (.int (lo+i)) δ fun δ2=>tb { E with nx:=fun δ'=>P (i+1) (fgt fg δ'),ct:=fun δ'=>P (i+1) (fgt fg δ'),bk:=E.nx } δ2)(hd:∀δ,P n δ->E.nx δ):Hf (sB lo n) g tb E δ:=by
 have len:∀i,i<=n->((sB lo n).drop i).length=n - i:=fun i _=>by simp[sB]
 have key:∀i,i<=n->(fun δ=>(sB lo n).drop i=(sB lo n).drop (n - ((sB lo n).drop i).length)/\P (n - ((sB lo n).drop i).length) δ)=P i:=by
  intro i hi;funext δ;rw[len i hi,show n - (n - i)=i by lia];simp
 refine⟨fg,fun r δ=>r=(sB lo n).drop (n - r.length)/\P (n - r.length) δ,?_,?_,?_⟩;have:=congrFun (key 0 (zero_le _)) (fgt fg δ);simp only[List.drop_zero]at this;exact this.mpr h0
 ·rintro d r δ ⟨e,p⟩;have hlt:n - (d::r).length<n:=by
   have hle:(d::r).length<=n:=by
    rw[e];simp[sB]
   simp at hle ⊢;lia
  generalize hi:n - (d::r).length=i at e p hlt;rw[x9 lo n i hlt]at e;cases e;have q:=hs i δ hlt p;rw[<-key (i+1) hlt]at q;exact q
 rintro δ ⟨_,p⟩;exact hd δ (by simpa using p)
def Xe (n:Nat)(ds:List D)(gd:TGd)(tc:TTd)(te:TEd)(Q:Bool->D->List Slot->Prop)(δ:List Slot):Prop:=∃P:List D->List D->List Slot->Prop,P ds [] δ /\
 (∀d r n0 δ1,P (d::r) n0 δ1->gd d (replicate n .no++δ1) fun δ2=>tc δ2 fun b δ3=>if b=true then te δ3 fun _ y δ4=>n0.length<sizeLine/\P r (n0++[y]) (δ4.drop n) else P r n0 (δ3.drop n)) /\
 ∀n0 δ1,P [] n0 δ1->Q true (.lst n0) δ1
theorem x4t:Eg n di gd tc te δ Q=di δ fun ds δ'=>Xe n ds gd tc te Q δ':=rfl
inductive IB {α β:Type}(G:α->β->Prop):List α->List β->Prop
 |nil:IB G [] []
 |cons {a b as bs}:G a b->IB G as bs->IB G (a::as) (b::bs)
def IB.snoc(h:IB G as bs)(h':G a b):IB G (as++[a]) (bs++[b]):=by
 induction h with
 |nil=>exact .cons h' .nil
 |cons g _ ih=>exact .cons g ih
def IB.len(h:IB G as bs):as.length=bs.length:=by
 induction h with
 |nil=>rfl
 |cons _ _ ih=>simp[ih]
def IB.map_eq(h:IB G as bs)(e:∀a b,a∈as->G a b->b=f a):bs=as.map f:=by
 induction h with
 |nil=>rfl
 |cons g _ ih=>simp[e _ _ mem_cons_self g,ih fun a b ha=>e a b (mem_cons_of_mem _ ha)]
def comp1(G:D->D->Prop)(hl:ds.length<=sizeLine)
  (h:∀d∈ds,∀P:D->List Slot->Prop,(∀y,G d y->P y (.fz d::δ))->te (.fz d::δ) fun _ y δ'=>P y δ')(q:∀ys,IB G ds ys->Q true (.lst ys) δ):Xe 1 ds (dgN 0) eG te Q δ:=by
 refine⟨fun r n0 δ1=>δ1=δ/\∃pre,ds=pre++r/\IB G pre n0,⟨rfl,[],rfl,.nil⟩,?_,?_⟩
 ·rintro d r n0 δ1 ⟨rfl,pre,e,hp⟩;unfold eG;dsimp only;simp only[↓reduceIte];have hl2:=hp.len;have hlen:pre.length<sizeLine:=by rw[e]at hl;simp at hl;lia
  refine h d (by rw[e];simp) (fun y δ4=>n0.length<sizeLine/\drop 1 δ4=δ1/\∃pre,ds=pre++r/\IB G pre (n0++[y])) fun y hy=>?_;exact⟨by lia,rfl,pre++[d],by rw[e];simp,hp.snoc hy⟩
 rintro n0 δ1 ⟨rfl,pre,e,hp⟩;simp at e;subst e;exact q n0 hp
def Wl(c:D->Bool)(f:D->D)(hl:ds.length<=sizeLine)
  (hc:∀d∈ds,∀P:Bool->List Slot->Prop,P (c d) (.fz d::δ)->tc (.fz d::δ) P)
  (h:∀d∈ds,c d=true->∀P:D->List Slot->Prop,P (f d) (.fz d::δ)->te (.fz d::δ) fun _ y δ'=>P y δ')(q:Q true (.lst ((ds.filter c).map f)) δ):Xe 1 ds (dgN 0) tc te Q δ:=by
 refine⟨fun r n0 δ1=>δ1=δ/\∃pre,ds=pre++r/\n0=(pre.filter c).map f,⟨rfl,[],rfl,rfl⟩,?_,?_⟩
 ·rintro d r n0 δ1 ⟨rfl,pre,e,rfl⟩;have hd:d∈ds:=by rw[e];simp
  have hlen:pre.length<sizeLine:=by rw[e]at hl;simp at hl;lia
  refine hc d hd _ ?_;cases hcd:c d with
  |false =>
   rw[if_neg Bool.false_ne_true];exact⟨rfl,pre++[d],by rw[e];simp,by simp[filter_append,hcd]⟩
  |true =>
   rw[if_pos rfl];refine h d hd hcd _ ⟨?_,rfl,pre++[d],by rw[e];simp,by simp[filter_append,hcd]⟩;have:=length_filter_le c pre;simp;lia
 rintro n0 δ1 ⟨rfl,pre,e,rfl⟩;simp at e;subst e;exact q
def Vy(f:D->D)(hl:ds.length<=sizeLine)
  (h:∀d∈ds,∀P:D->List Slot->Prop,P (f d) (.fz d::δ)->te (.fz d::δ) fun _ y δ'=>P y δ')(q:Q true (.lst (ds.map f)) δ):Xe 1 ds (dgN 0) eG te Q δ:=by
 refine comp1 (fun d y=>y=f d) hl (fun d hd P hP=>h d hd P (hP _ rfl)) fun ys hys=>?_;rw[hys.map_eq (f:=f) fun a b _ e=>e];exact q
theorem x4m:Dg (.ob true c)=.ob true c:=rfl
theorem x5w:Dg (.ob false c)=.no:=rfl
theorem x0y:Dg (.fz c)=.no:=rfl
theorem x0r:Dg .no=.no:=rfl
theorem y8l:Dg (.sc K c)=.no:=rfl
def wb(hr:KB k A):A.units+100<cLine:=by have:=hr.un;lia
def Ye{i:Int}(h0:0<=i)(h1:i<xs.length):∃d∈xs,atI xs i=some d:=by
 obtain⟨j,rfl⟩:=Int.eq_ofNat_of_zero_le h0;have hj:j<xs.length:=by lia
 exact⟨xs[j],getElem_mem hj,Pd (getElem?_eq_getElem hj)⟩
def xb {a b:Int}(h:0<b):0<=a % b:=Int.emod_nonneg _ (by lia)
def yb {a b:Int}(h:0<b):a % b<b:=Int.emod_lt_of_pos _ h
def Xl (i:Nat)(ds:List D)(n:Nat)(gd:TGd)(tc:TTd)(te:TEd)(Q:Bool->D->List Slot->Prop)(δ:List Slot):Prop:=∃P:List D->List D->List Slot->Prop,P ds [] δ /\
 (∀d r n0 δ1,P (d::r) n0 δ1->kC δ1 i=some (.lst ds)/\gd d (replicate n .no++δ1) fun δ2=>tc δ2 fun b δ3=>if b=true then te δ3 fun _ y δ4=>n0.length<sizeLine/\P r (n0++[y]) (δ4.drop n) else P r n0 (δ3.drop n)) /\
 ∀n0 δ1,P [] n0 δ1->kC δ1 i=some (.lst ds)/\Q true (.lst n0) δ1
def jj (i:Nat)(n:Nat)(gd:TGd)(tc:TTd)(te:TEd):TEd:=fun δ Q=>∃ds,kC δ i=some (.lst ds)/\Xl i ds n gd tc te Q δ
def Wy(sg:cj n g gd)(sc:WB tc cd)(se:Sim te ed):Sim (bj n (yk K (tVar i)) g tc te) (jj i n gd cd ed):=by
 intro io H0 F0 F δ σ H Q Qd I q k;obtain⟨ds,e0,P,p0,step,fin⟩:=q;obtain⟨v,ev,pk⟩:=I.pk e0;obtain⟨a,vs0,rfl,hv0,_⟩:=pk.lst I;have at':∀{io':List (Option Addr)}{H0' F' H':Hp}{δ':List Slot},EI io' H0' F0 F' δ' σ H'->kC δ' i=some (.lst ds)->∃vs,H' a=some (.lst vs)/\DB F' ds vs:=fun {io' H0' F' H' δ'} J e=>by
  obtain⟨v,ev',pk⟩:=J.pk e;rw[ev]at ev';cases ev';obtain⟨a',vs,e',h,r⟩:=pk.lst J;cases e';exact⟨vs,h,r⟩
 refine⟨_,ev,a,rfl,⟨vs0,SqL.of hv0⟩,fun Dp hD=>?_⟩;have hF0:F0 Dp=none:=I.ext.free (I.sub.free hD);refine⟨fun j m ys H=>m=ds.length - j/\j<=ds.length/\∃F1 δ1 n0,BB F F1/\EI (none::io) H0 F0 F1 (.ob false (.lst n0)::δ1) (some (.ref Dp)::σ) H/\H Dp=some (.lst ys)/\P (ds.drop j) n0 δ1,⟨ds.length,by simp,zero_le _,F,δ,[],BB.refl _,I.newL hD rfl,z0g,p0⟩,?_⟩;rintro j m ys H1 ⟨rfl,hi,F1,δ1,n0,s1,I1,hy,p1⟩;refine⟨hy,?_⟩;obtain⟨a',e,hH0,hF1,⟨vs,hv,rv⟩,_⟩:=I1.get 0 _ rfl;simp at e;subst e;rw[hy]at hv;cases hv;have Ih:=I1.hide hy;by_cases hlt:j<ds.length
 ·have ed':ds[j]? = some ds[j]:=by simp[hlt]
  have edr:ds.drop j=ds[j]::ds.drop (j+1):=drop_eq_getElem_cons hlt;rw[edr]at p1;obtain⟨pk1,st1⟩:=step _ _ n0 δ1 p1;obtain⟨vs,hva,rva⟩:=at' Ih pk1;obtain⟨x0,ex0,rx0⟩:=rva.get ed';refine .inr ⟨⟨vs,x0,SqL.of hva,ex0⟩,fun ys' H'=>∃F2 δ2 acc',BB F F2/\EI (none::io) H0 F0 F2 (.ob false (.lst acc')::δ2) (some (.ref Dp)::σ) H'/\H' Dp=some (.lst ys')/\P (ds.drop (j+1)) acc' δ2,fun ys' H' hN=>⟨ds.length - (j+1),by lia,rfl,hlt,hN⟩,fun x H2 y τ hτ=>?_⟩;obtain⟨ey,y⟩:=y;subst ey;have ex:=y vs (SqL.of hva);rw[ex0]at ex;cases ex;have I2p:=Ih.pad τ;rw[hτ]at I2p;refine sg _ _ F0 F1 _ (τ++σ) _ _ _ _ _ I2p rx0 st1 fun δ3 σ3 I3 e1 e2 q3=>?_;have eσ:σ3=σ3.take n++σ:=by
   have h1:σ3.drop n=σ:=by rw[e1,<-hτ];simp
   conv=>lhs;rw[<-take_append_drop n σ3,h1]
  have lτ:(σ3.take n).length=n:=by
   rw[length_take,e2,length_append,hτ];lia
  refine⟨⟨σ3.take n,lτ,eσ⟩,?_⟩;refine sc _ _ F0 F1 δ3 σ3 _ _ _ I3 q3 fun b δ4 F4 H4 s4 I4 q4=>?_;have back:∀{δ5:List Slot}{F5 H5:Hp},EI (replicate n none++io) (upd H0 Dp (.lst ys)) F0 F5 δ5 σ3 H5->EI io (upd H0 Dp (.lst ys)) F0 F5 (δ5.drop n) σ H5:=fun {δ5 F5 H5} I5=>by
   rw[eσ]at I5;have I5':EI (replicate (σ3.take n).length none++io) (upd H0 Dp (.lst ys)) F0 F5 δ5 (σ3.take n++σ) H5:=by rw[lτ];exact I5
   have:=EI.unpad I5';rwa [lτ]at this
  cases b with
  |false =>
   rw[if_neg Bool.false_ne_true]at q4 ⊢;have I5:=(back I4);have hy4:H4 Dp=some (.lst ys):=I4.base _ _ z0g;have I6:=I5.unhide (ys':=ys) hH0 hF0 (DB.mono s4 _ _ rv);have eH:upd H4 Dp (.lst ys)=H4:=by
    funext b;by_cases hb:b=Dp;rw[hb,z0g,hy4];rw[ya hb]
   rw[eH]at I6;exact⟨F4,_,n0,s1.trans s4,I6,hy4,q4⟩
  |true =>
   rw[if_pos rfl]at q4 ⊢;refine se.fz I4 q4 fun d v δ5 F5 H5 s5 I5 r5 q5=>?_;refine⟨I5.base _ _ z0g,by rw[<-rv.len];exact q5.1,F5,_,n0++[d],(s1.trans s4).trans s5,?_,z0g,q5.2⟩;exact(back I5).unhide hH0 hF0 ((DB.mono (s4.trans s5) _ _ rv).app (.one r5))
 have e:j=ds.length:=by lia
 subst e;rw[drop_length]at p1;obtain⟨pk1,q1⟩:=fin n0 δ1 p1;obtain⟨vs,hva,rva⟩:=at' Ih pk1;exact .inl ⟨⟨vs,SqL.of hva,by rw[rva.len];exact le_refl _⟩,k true _ _ δ1 F1 H1 s1 I1 q1⟩
variable {X:Cx}
def Xy(xs:List Str)(M:List Str)(hc:X.calm=true)(S:SB X.env.scope X.N xs sc M)(hi:PE X (.Name x p) (tVar i))(hg:∀Q0 ex H₀ s₀ C,DGn (Rb X sc (xs++M) Q0 ex H₀ s₀ C) xs.length tg gd)
  (ht:∀Q0 ex H₀ s₀ C,DF (Rb X sc (xs++M) Q0 ex H₀ s₀ C) P0 cd)(he:∀Q0 ex H₀ s₀ C,DE (Rb X sc (xs++M) Q0 ex H₀ s₀ C) L0 ed)
  (hs:∀v,foldedSetIterable (.Name x p) X.env v=pure v:=by intro _;rfl):DE X (.ListComp L0 [⟨tg,.Name x p,P0,0⟩] sc pos) (jj i xs.length gd cd ed) :=
 ⟨_,Il xs M hc (fun Q0 ex H₀ s₀ C=>(hg Q0 ex H₀ s₀ C).pg) S (ze hi) (fun Q0 ex H₀ s₀ C=>(ht Q0 ex H₀ s₀ C).pf) (fun Q0 ex H₀ s₀ C=>(he Q0 ex H₀ s₀ C).pe) hs,Wy (Ml _ _) (Ll _) (Kl _)⟩
def compV2(f:D->D)(hl:ds.length<=sizeLine)(hp:kC δ i=some (.lst ds))(hd:∀d∈ds,∃a b,d=.tup [a,b])
  (h:∀a b,D.tup [a,b]∈ds->∀P:D->List Slot->Prop,P (f (.tup [a,b])) (.fz a::.fz b::δ)->te (.fz a::.fz b::δ) fun _ y δ'=>P y δ')(q:Q true (.lst (ds.map f)) δ):Xl i ds 2 (Ef 2 (je (dgN 0) (je (dgN 1) Df))) eG te Q δ:=by
 refine⟨fun r n0 δ1=>δ1=δ/\∃pre,ds=pre++r/\n0=pre.map f,⟨rfl,[],rfl,rfl⟩,?_,?_⟩
 ·rintro d r n0 δ1 ⟨rfl,pre,e,rfl⟩;refine⟨hp,?_⟩;have hm:d∈ds:=by rw[e];simp
  obtain⟨a,b,rfl⟩:=hd d hm;have hlen:pre.length<sizeLine:=by rw[e]at hl;simp at hl;lia
  unfold eG;dsimp only;simp only[↓reduceIte];exact h a b hm _ ⟨by simpa using hlen,rfl,pre++[.tup [a,b]],by rw[e];simp,by simp⟩
 rintro n0 δ1 ⟨rfl,pre,e,rfl⟩;simp at e;subst e;exact⟨hp,q⟩
def Ze (xs:List D)(k:Nat):oB xs none (some (k:Int))=xs.take k:=by unfold oB;rw[HT.sIx_none,HT.sIx_nat,List.drop_zero,Nat.sub_zero];by_cases h:k<=xs.length;rw[min_eq_left h];rw[Nat.min_eq_right (by lia),take_of_length_le (le_refl _),take_of_length_le (by lia)]
def Fg (xs:List D)(k:Nat):oB xs (some (k:Int)) none=xs.drop k:=by unfold oB;rw[HT.sIx_none,HT.sIx_nat];by_cases h:k<=xs.length;rw[min_eq_left h,take_of_length_le (by rw[length_drop];exact le_refl _)];rw[Nat.min_eq_right (by lia),drop_of_length_le (le_refl _),drop_of_length_le (by lia)];simp
variable {δ:List Slot}{E:QC}{Q:Bool->D->List Slot->Prop}{QT:Bool->List Slot->Prop}{QL:List D->List Slot->Prop}{QS:List Slot->Prop}{Q2:Bool->D->Prop}{QM:D->D->Prop}{QA:List (Option D)->List Slot->Prop}{QO:Option Int->List Slot->Prop}{t u:TSd}{ta tb td te tv ti:TEd}{tt tu tc:TTd}{ul:TLd}{ua:TAd}{l h:TOd}{g gd:TGd}{gs:BC}{i j n:Nat}{d:D}
theorem j9v:kG t u E δ=t { E with nx:=u E } δ:=rfl
theorem q9v:Zi E δ=E.nx δ:=rfl
theorem j8a:dRet td E δ=td δ E.rt:=rfl
theorem j8t:dBrk E δ=E.bk δ:=rfl
theorem x8w:Al E δ=False:=rfl
theorem j1m:Bg td E δ=td δ fun _ _ δ'=>E.nx δ':=rfl
theorem v_if:wH tt t u E δ=tt δ fun b δ'=>if b=true then t E δ' else u E δ':=rfl
theorem j9k:lG i td E δ=td δ fun b d δ'=>zF i (rsl b d) δ' E.nx:=rfl
theorem v_c:dC d δ Q=Q false d δ:=rfl
theorem k0q:jD i δ Q=cB i δ fun s=>kH s (fun d=>Q false d δ) fun c=>fE i (.fz c) δ fun δ'=>Q false c δ':=rfl
theorem v_mv:dMv i δ Q=cB i δ fun s=>kH s (fun d=>Q false d δ) fun c=>fE i .no δ fun δ'=>Q true c δ':=rfl
variable {f:D->D->(Bool->D->Prop)->Prop}
theorem v_op:dOp f ta tb δ Q=ta δ fun _ x δ1=>tb δ1 fun _ y δ2=>f x y fun b d=>Q b d δ2:=rfl
theorem j9x:dG f i tb δ Q=cB i δ fun s=>pkS s fun _=>tb δ fun _ y δ2=>cB i δ2 fun s=>pkS s fun x=>f x y fun b d=>Q b d δ2:=rfl
theorem j9:dOpW f ta j δ Q=ta δ fun _ x δ1=>cB j δ1 fun s=>pkS s fun y=>f x y fun b d=>Q b d δ1:=rfl
theorem q9q:Kc td δ QT=td δ fun _ d δ'=>blK d fun c=>QT c δ':=rfl
theorem v_not:dNot tt δ QT=tt δ fun c δ'=>QT (!c) δ':=rfl
theorem j9j:dAnd tt tu δ QT=tt δ fun c δ'=>if c=true then tu δ' QT else QT false δ':=rfl
theorem v_or:dOr tt tu δ QT=tt δ fun c δ'=>if c=true then QT true δ' else tu δ' QT:=rfl
def truK (d:D)(k:Bool->Prop):Prop:=∃c,truD d=some c/\k c
def x5o:truK (.lst xs) k=k (!xs.isEmpty):=propext ⟨fun⟨c,e,h⟩=>by cases e;exact h,fun h=>⟨_,rfl,h⟩⟩
def j1t:Uk i δ QT=cB i δ fun s=>pkS s fun d=>truK d fun c=>QT c δ:=by unfold Uk;rw[<-rh];simp only[truK,exists_and_left,and_assoc]
def j1c:Xk ta tb δ Q=ta δ fun _ x δ'=>blK x fun c=>if c=true then tb δ' Q else Q false (.bl false) δ':=by unfold Xk;simp only[Lk]
def j2b:Yk ta δ Q=ta δ fun _ x δ'=>blK x fun c=>Q false (.bl (!c)) δ':=by unfold Yk;simp only[Lk]
theorem v_ifE:dIf tt ta tb δ Q=tt δ fun c δ'=>if c=true then ta δ' Q else tb δ' Q:=rfl
def v_neg:dNeg ta δ Q=ta δ fun _ x δ'=>kE x fun i=>Q false (.int (-i)) δ':=by unfold dNeg;simp only[Ki]
theorem j7r:mE δ QL=QL [] δ:=rfl
theorem j2f:kc td ul δ QL=td δ fun _ d δ'=>ul δ' fun ds δ''=>QL (d::ds) δ'':=rfl
theorem k0g:dTup ul δ Q=ul δ fun ds δ'=>ds.length<=sizeLine/\Q false (.tup ds) δ':=rfl
theorem j9g:dLst ul δ Q=ul δ fun ds δ'=>ds.length<=sizeLine/\Q true (.lst ds) δ':=rfl
variable {fc:List D->(Bool->D->Prop)->Prop}{fm:D->List D->(D->D->Prop)->Prop}
theorem v_CB:dCB fc ul δ Q=ul δ fun ds δ'=>fc ds fun b d=>Q b d δ':=rfl
theorem v_CBV:dCBV fc i δ Q=cB i δ fun s=>pkS s fun d=>fc [d] fun b d=>Q b d δ:=rfl
def v_rev:dRev td δ Q=td δ fun _ d δ'=>uD d fun xs=>Q true (.lst xs.reverse) δ':=by unfold dRev;simp only[yf]
theorem v_mt:dMt fm i ul δ Q=cB i δ fun s=>pkS s fun d=>isLK d (ul δ fun ds δ'=>cB i δ' fun s=>obK s fun fl c=>fm c ds fun c' d=>fE i (.ob fl c') δ' fun δ''=>Q false d δ''):=rfl
theorem v_gN:dgN i d δ QS=zF i (.fz d) δ QS:=rfl
theorem x9l:Ef 2 gs (.tup [a,b]) δ QS=gs [a,b] δ QS:=rfl
theorem q5e:je g gs (d::r) δ QS=g d δ fun δ'=>gs r δ' QS:=rfl
theorem j0z:Df [] δ QS=QS δ:=rfl
def j0s:Dl i ti tv E δ=tv δ fun _ v δ1=>cB i δ1 fun s=>pkS s fun _=>ti δ1 fun _ y δ2=>cB i δ2 fun s=>obK s fun fl c=>uD c fun xs=>kE y fun k=>∃j,ixN xs.length k=some j/\fE i (.ob fl (.lst (xs.set j v))) δ2 E.nx:=by
 unfold Dl;simp only[sh];have key:∀(δ2:List Slot)(y v:D),(∃fl xs k j,δ2[i]? = some (.ob fl (.lst xs))/\y=.int k/\ixN xs.length k=some j/\E.nx (δ2.set i (.ob fl (.lst (xs.set j v)))))=(cB i δ2 fun s=>obK s fun fl c=>uD c fun xs=>kE y fun k=>∃j,ixN xs.length k=some j/\fE i (.ob fl (.lst (xs.set j v))) δ2 E.nx):=by
  intro δ2 y v;simp only[<-Li,<-yf,<-Ki,fE];apply propext;constructor;rintro⟨fl,xs,k,j,e,rfl,h1,h2⟩;exact⟨fl,_,e,xs,rfl,k,rfl,j,h1,h2⟩;rintro⟨fl,_,e,xs,rfl,k,rfl,j,h1,h2⟩;exact⟨fl,xs,k,j,e,rfl,h1,h2⟩
 simp only[key]
theorem q0o:jr td δ QL=td δ fun _ d δ'=>uD d fun ds=>QL ds δ':=rfl
theorem q2h:kr ul δ QL=ul δ fun ds δ'=>uh ds fun j=>-(2 ^ 62)<=j/\j<2 ^ 62/\QL (sB 0 j.toNat) δ':=rfl
variable {R:RD}
theorem j0v:Ff R ul δ Q=ul δ fun ds δ'=>vF R (fun b d _=>Q b d δ') .mk (ds.map .fz):=rfl
def q1p:jj i n gd tc te δ Q=cB i δ fun s=>pkS s fun d=>uD d fun ds=>Xl i ds n gd tc te Q δ:=by simp only[<-rh,<-yf];apply propext;constructor;rintro⟨ds,e,h⟩;exact⟨_,e,ds,rfl,h⟩;rintro⟨_,e,ds,rfl,h⟩;exact⟨ds,e,h⟩
theorem q9p:Fh δ QA=QA [] δ:=rfl
theorem v_aV:daV td ua δ QA=td δ fun _ d δ'=>ua δ' fun os δ''=>QA (some d::os) δ'':=rfl
theorem v_aO:daO ua δ QA=ua δ fun os δ''=>QA (none::os) δ'':=rfl
theorem x6g:De R i ua δ Q=cB i δ fun s=>pkS s fun _=>ua δ fun os δ'=>cB i δ' fun s=>obK s fun fl c=>(os.filter isNone).length=1/\vF R (fun b d δ2=>ioK δ2 fun c'=>fE i (.ob fl c') δ' fun δ''=>Q b d δ'') .mk (os.map (z9l c)):=rfl
theorem v_oN:doN δ QO=QO none δ:=rfl
theorem v_oS:doS td δ QO=td δ fun _ d δ'=>kE d fun i=>QO (some i) δ':=rfl
def k0i:dSlL td l h δ Q=td δ fun _ d δ1=>l δ1 fun lo δ2=>h δ2 fun hi δ3=>uD d fun xs=>Q true (.lst (oB xs lo hi)) δ3:=by unfold dSlL;simp only[yf]
theorem j2v:Pl i l h δ Q=cB i δ fun s=>pkS s fun _=>l δ fun lo δ2=>h δ2 fun hi δ3=>cB i δ3 fun s=>pkS s fun d=>uD d fun xs=>Q true (.lst (oB xs lo hi)) δ3:=rfl
def k0o:dSlS td l h δ Q=td δ fun _ d δ1=>l δ1 fun lo δ2=>h δ2 fun hi δ3=>dF d fun z=>z.length<=sizeLine/\Q false (.str (Txt.slice z lo hi)) δ3:=by unfold dSlS;simp only[xf]
def v_slC:dSlC K i l h δ Q=cB i δ fun s=>scK K s fun ns=>l δ fun lo δ2=>h δ2 fun hi δ3=>Q true (.lst (oB (ns.map .int) lo hi)) δ3:=by unfold dSlC cB scK;cases δ[i]?<;>simp
def j2a:Ql ta tb δ Q=ta δ fun _ x δ1=>dF x fun sep=>tb δ1 fun _ y δ2=>∃ts:List Str,y=.lst (ts.map .str)/\JoinOk sep ts=true/\Q false (.str (join sep ts)) δ2:=by unfold Ql;simp only[xf]
theorem q2o:Cr δ Q=Q true (.dct []) δ:=rfl
def j3c:Sl i ti δ Q=cB i δ fun s=>pkS s fun _=>ti δ fun _ y δ'=>cB i δ' fun s=>pkS s fun c=>uF c fun N0=>dF y fun k=>∃d,eB N0 k=some d/\Q false d δ':=by
 unfold Sl;rw[sh];have key:∀(δ':List Slot)(y:D),(∃N0 k d,kC δ' i=some (.dct N0)/\y=.str k/\eB N0 k=some d/\Q false d δ')=(cB i δ' fun s=>pkS s fun c=>uF c fun N0=>dF y fun k=>∃d,eB N0 k=some d/\Q false d δ'):=by
  intro δ' y;simp only[<-rh,<-qh,<-xf];apply propext;constructor;rintro⟨N0,k,d,e,rfl,h1,h2⟩;exact⟨_,e,N0,rfl,k,rfl,d,h1,h2⟩;rintro⟨_,e,N0,rfl,k,rfl,d,h1,h2⟩;exact⟨N0,k,d,e,rfl,h1,h2⟩
 simp only[key]
def v_din:Gf neg ti i δ Q=ti δ fun _ y δ'=>cB i δ' fun s=>pkS s fun c=>uF c fun N0=>dF y fun k=>Q false (.bl (if neg then !(eB N0 k).isSome else(eB N0 k).isSome)) δ':=by
 unfold Gf;have key:∀(δ':List Slot)(y:D),(∃N0 k,kC δ' i=some (.dct N0)/\y=.str k/\Q false (.bl (if neg then !(eB N0 k).isSome else(eB N0 k).isSome)) δ')=(cB i δ' fun s=>pkS s fun c=>uF c fun N0=>dF y fun k=>Q false (.bl (if neg then !(eB N0 k).isSome else(eB N0 k).isSome)) δ'):=by
  intro δ' y;simp only[<-rh,<-qh,<-xf];apply propext;constructor;rintro⟨N0,k,e,rfl,h⟩;exact⟨_,e,N0,rfl,k,rfl,h⟩;rintro⟨_,e,N0,rfl,k,rfl,h⟩;exact⟨N0,k,e,rfl,h⟩
 simp only[key]
def j0u:Vl i ti tv E δ=tv δ fun _ v δ1=>cB i δ1 fun s=>pkS s fun _=>ti δ1 fun _ y δ2=>cB i δ2 fun s=>obK s fun fl c=>uF c fun N0=>dF y fun k=>N0.length<sizeLine/\fE i (.ob fl (.dct (uB N0 k v))) δ2 E.nx:=by
 unfold Vl;simp only[sh];have key:∀(δ2:List Slot)(y v:D),(∃fl N0 k,δ2[i]? = some (.ob fl (.dct N0))/\y=.str k/\N0.length<sizeLine/\E.nx (δ2.set i (.ob fl (.dct (uB N0 k v)))))=(cB i δ2 fun s=>obK s fun fl c=>uF c fun N0=>dF y fun k=>N0.length<sizeLine/\fE i (.ob fl (.dct (uB N0 k v))) δ2 E.nx):=by
  intro δ2 y v;simp only[<-Li,<-qh,<-xf,fE];apply propext;constructor;rintro⟨fl,N0,k,e,rfl,h⟩;exact⟨fl,_,e,N0,rfl,k,rfl,h⟩;rintro⟨fl,_,e,N0,rfl,k,rfl,h⟩;exact⟨fl,N0,k,e,rfl,h⟩
 simp only[key]
variable {x y:Int}{z z':Str}{xs ys:List D}{b b':Bool}
theorem v_I {g:Int->Int->D}:fI g (.int x) (.int y) Q2=Q2 false (g x y):=rfl
theorem v_Ic{g:Int->Int->D}:fIc C g (.int x) (.int y) Q2=(C x y/\Q2 false (g x y)):=rfl
theorem x9y:fEq (.int x) (.int y) Q2=Q2 false (.bl (decide (x=y))):=rfl
theorem q1d:fEq (.str z) (.str z') Q2=Q2 false (.bl (decide (z=z'))):=rfl
theorem x9n:fNe (.int x) (.int y) Q2=Q2 false (.bl (!decide (x=y))):=rfl
theorem x8v:fNe (.str z) (.str z') Q2=Q2 false (.bl (!decide (z=z'))):=rfl
theorem q0p:fNe (.bl b) (.bl b') Q2=Q2 false (.bl (!decide (b=b'))):=rfl
def j0b:Sk (.str z) (.str z') Q2=(z.length+z'.length<=sizeLine/\Q2 false (.str (z++z'))):=by simp[Sk]
theorem v_cat:cH (.lst xs) (.lst ys) Q2=(xs.length+ys.length<=sizeLine/\Q2 true (.lst (xs++ys))):=rfl
theorem j7u:uH (.lst xs) (.int x) Q2 = ∃d,atI xs x=some d/\Q2 false d:=rfl
theorem j1h:pG (.tup (a::r)) (.int 0) Q2=Q2 false a:=rfl
theorem q9n {a b:D}:pG (.tup (a::b::r)) (.int 1) Q2=Q2 false b:=rfl
theorem j2n {a b c:D}:pG (.tup (a::b::c::r)) (.int 2) Q2=Q2 false c:=rfl
def k0p:fIxS (.str z) (.int x) Q2=(z.length<=sizeLine/\∃c,atI z.cps.toList x=some c/\Q2 false (.str ⟨#[c]⟩)):=by simp[fIxS]
def q9o:fEqL (.lst xs) (.lst []) Q2=Q2 false (.bl xs.isEmpty):=by
 cases xs with
 |nil=>simp[fEqL,cC,nB]
 |cons a r=>simp[fEqL]
def j2o:fNeL (.lst xs) (.lst []) Q2=Q2 false (.bl (!xs.isEmpty)):=by
 cases xs with
 |nil=>simp[fNeL,cC,nB]
 |cons a r=>simp[fNeL]
def Yl {ks ks':List Str}(h:ks.map D.str=ks'.map D.str):ks=ks':=by
 induction ks generalizing ks' with
 |nil=>cases ks' with
  |nil=>rfl
  |cons a r=>simp at h
 |cons a r ih=>cases ks' with
  |nil=>simp at h
  |cons a' r'=>simp at h;rw[h.1,ih h.2]
def x4y {ks:List Str}:Nq (.str z) (.lst (ks.map .str)) Q2=Q2 false (.bl (!decide (z∈ks))):=by apply propext;constructor;rintro⟨k,ks',e1,e2,h⟩;cases e1;have e2:=Yl (D.lst.inj e2);subst e2;exact h;intro h;exact⟨z,ks,rfl,rfl,h⟩
def j0n {a b:Str}:fInT (.str z) (.tup [.str a,.str b]) Q2=Q2 false (.bl (decide (z=a\/z=b))):=by apply propext;constructor;rintro⟨k,ks',e1,e2,h⟩;cases e1;have e2:=Yl (ks:=[a,b]) (D.tup.inj e2);subst e2;simpa using h;intro h;exact⟨z,[a,b],rfl,rfl,by simpa using h⟩
def j2z {a b c:Str}:fInT (.str z) (.tup [.str a,.str b,.str c]) Q2=Q2 false (.bl (decide (z=a\/z=b\/z=c))):=by apply propext;constructor;rintro⟨k,ks',e1,e2,h⟩;cases e1;have e2:=Yl (ks:=[a,b,c]) (D.tup.inj e2);subst e2;simpa using h;intro h;exact⟨z,[a,b,c],rfl,rfl,by simpa using h⟩
theorem j3a:il [.lst xs] Q2=Q2 false (.int xs.length):=rfl
def j2c:jl [.str z] Q2=(z.length<=sizeLine/\Q2 false (.int z.length)):=by simp[jl]
def x5k:ql [.lst xs] Q2=Q2 true (.lst xs):=by simp[ql]
def q0j:j6 [.bl b] Q2=Q2 false (.int (if b then 1 else 0)):=by simp[j6]
theorem x4d:Ag (.lst xs) [d] QM=(xs.length<sizeLine/\QM (.lst (xs++[d])) .non):=rfl
def x6j:xl (.lst xs) [.lst ys] QM=(xs.length+ys.length<=sizeLine/\QM (.lst (xs++ys)) .non):=by simp[xl]
def k0c:fPop (.lst xs) [] QM = ∃d,xs[xs.length - 1]? = some d/\QM (.lst xs.dropLast) d:=by simp[fPop]
theorem rsl_t:rsl true d=.ob false d:=rfl
theorem rsl_f:rsl false d=.fz d:=rfl
def y0e:vH [(.bl b),.ty "bool"] Q2=Q2 false (.bl true):=by apply propext;constructor;rintro⟨_,_,e,_,_,h⟩;cases e;exact h;exact fun h=>⟨_,_,rfl,(show("bool":String) ≠ "type" by decide),by decide,h⟩
def z9w:vH [(.str z),.ty "str"] Q2=Q2 false (.bl true):=by apply propext;constructor;rintro⟨_,_,e,_,_,h⟩;cases e;exact h;exact fun h=>⟨_,_,rfl,(show("str":String) ≠ "type" by decide),by decide,h⟩
def z9x:vH [(.tup xs),.ty "str"] Q2=Q2 false (.bl false):=by apply propext;constructor;rintro⟨_,_,e,_,_,h⟩;cases e;exact h;exact fun h=>⟨_,_,rfl,(show("tuple":String) ≠ "type" by decide),by decide,h⟩
end
end VL
namespace L2
open PySem PySem.Spec PyProof.Rows
end L2
namespace VL
open PySem L2
def fAll:List D->(Bool->D->Prop)->Prop:=fun ds Q=>∃bs:List Bool,ds=[.lst (bs.map .bl)]/\Q false (.bl (bs.all id))
def fAny:List D->(Bool->D->Prop)->Prop:=fun ds Q=>∃bs:List Bool,ds=[.lst (bs.map .bl)]/\Q false (.bl (bs.any id))
def cs_all:Uc (fun xs H Q=>∃p,xs=[.ref p]/\∃bs:List Bool,H p=some (.lst (bs.map V.bl))/\Q (.bl (bs.all id)) H) fAll:=by intro io H0 F0 F δ σ H xs vs Q Qd I px q k;obtain⟨bs,rfl,q⟩:=q;obtain⟨v,rfl,pk⟩:=dH px;obtain⟨a,us,rfl,h1,r⟩:=pk.lst I;rw[r.bls]at h1;exact⟨a,rfl,bs,h1,k false _ _ F H (BB.refl _) I.pB q⟩
def Yy:Uc (fun xs H Q=>∃p,xs=[.ref p]/\∃bs:List Bool,H p=some (.lst (bs.map V.bl))/\Q (.bl (bs.any id)) H) fAny:=by intro io H0 F0 F δ σ H xs vs Q Qd I px q k;obtain⟨bs,rfl,q⟩:=q;obtain⟨v,rfl,pk⟩:=dH px;obtain⟨a,us,rfl,h1,r⟩:=pk.lst I;rw[r.bls]at h1;exact⟨a,rfl,bs,h1,k false _ _ F H (BB.refl _) I.pB q⟩
section
variable {X:Cx}
def Zl (td:TEd):TLd:=fun δ Q=>td δ fun _ d δ'=>∃ds,d=.lst ds/\Q ds.reverse δ'
def Zy(h:F a=some (.lst vs))(r:DB F ds vs):AD (Itv a vs.length) F ds.reverse:=by
 intro io H0 F0 F' δ σ H' sf I i;have hH:H' a=some (.lst vs):=I.sub _ _ (sf _ _ h);have hl:=r.len;refine⟨fun d e=>?_,fun e=>?_⟩
 ·obtain⟨v,ev,rv⟩:=r.rev.get e;have hi:i<vs.length:=by
   have:=(List.getElem?_eq_some_iff.mp ev).1;simpa using this
  rw[List.getElem?_reverse hi]at ev;refine⟨⟨vs,v,hH,hi,ev⟩,fun x H'' y=>?_⟩;obtain⟨e1,y⟩:=y;subst e1;have:=y vs hH;rw[ev]at this;cases this;exact⟨F',BB.refl _,I,Rep.mono sf _ _ rv⟩
 rw[e,length_reverse,hl];exact rfl
def az(hgR:Gl X "reversed")(hmR:X.mg "reversed" = none)(hl:DE X l dl)(hs2:starEach [l] X.env=[(false,eval l X.env)]:=by rfl):DI X tg (.Call (.Name "reversed" p2) [l] [] p3) (Zl dl):=by obtain⟨t,p,s⟩:=hl;refine⟨_,Fq hgR hmR p hs2,fun io H0 F0 F δ σ H R Qd I q k=>s.fz I q fun d v δ' F' H' sf I' r q'=>?_⟩;obtain⟨ds,rfl,q'⟩:=q';obtain⟨a,vs,rfl,h1,r1⟩:=r;exact⟨a,rfl,vs,I'.sub _ _ h1,k _ ds.reverse δ' F' H' sf I' (Zy h1 r1) q'⟩
noncomputable def qG (xs ys:List D):List D:=List.zipWith (fun x y=>.tup [x,y]) xs ys
def am (u:TLd):TLd:=fun δ Q=>u δ fun ds δ'=>∃xs ys,ds=[.lst xs,.lst ys]/\Q (qG xs ys) δ'
def bz(ha:F a=some (.lst vs))(ra:DB F xs vs)(hb:F b=some (.lst us))(rb:DB F ys us):AD (Itz a b) F (qG xs ys):=by
 intro io H0 F0 F' δ σ H' sf I i;have hA:H' a=some (.lst vs):=I.sub _ _ (sf _ _ ha);have hB:H' b=some (.lst us):=I.sub _ _ (sf _ _ hb);refine⟨fun d e=>?_,fun e=>?_⟩
 ·unfold qG at e;rw[List.getElem?_zipWith]at e;split at e;rename_i x y ex ey;cases e;obtain⟨v,ev,rv⟩:=ra.get ex;obtain⟨u,eu,ru⟩:=rb.get ey;refine⟨⟨vs,us,v,u,hA,hB,ev,eu⟩,fun z H'' yl=>?_⟩;obtain⟨t,rfl,ht,yl⟩:=yl;obtain⟨v',u',ev',eu',rfl⟩:=yl vs us hA hB;rw[ev]at ev';cases ev';rw[eu]at eu';cases eu';obtain⟨F2,s2,I2,r2⟩:=I.newT (ds:=[x,y]) (vs:=[v,u]) ht ⟨_,_,rfl,Rep.mono sf _ _ rv,_,_,rfl,Rep.mono sf _ _ ru,rfl⟩;exact⟨F2,s2,I2,r2⟩;cases e
 refine⟨vs,us,hA,hB,?_⟩;have l1:=ra.len;have l2:=rb.len;simp only[qG,List.length_zipWith]at e;rw[List.getElem?_eq_none_iff,List.getElem?_eq_none_iff]
 lia
def DB.two_inv(h:DB F [d,e] vs):∃v u,vs=[v,u]/\Rep F d v/\Rep F e u:=by obtain⟨v,r,rfl,h1,u,r',rfl,h2,h3⟩:=h;cases(show r' = [] from h3);exact⟨v,u,rfl,h1,h2⟩
def cz(hg:Gl X "zip")(hm:X.mg "zip" = none)(ha:DL X [e1,e2] u)(hs:starEach [e1,e2] X.env=(false,eval e1 X.env)::starEach [e2] X.env:=by rfl)(K0:(backTo pos (starEach [e2] X.env)).any (·.1)=false:=by rfl) :
  DI X (.Tuple elts x1 pt) (.Call (.Name "zip" p) [e1,e2] [] pos) (am u):=by
 obtain⟨t,p,s⟩:=ha;refine⟨_,mx hg hm p hs K0,fun io H0 F0 F δ σ H R Qd I q k=>s io H0 F0 F δ σ H _ _ I q fun ds vs δ' F' H' sf I' r q'=>?_⟩;obtain⟨xs,ys,rfl,q'⟩:=q';obtain⟨v,w,rfl,⟨a,us,rfl,h1,r1⟩,b,ws,rfl,h2,r2⟩:=r.two_inv;exact⟨a,b,rfl,us,I'.sub _ _ h1,ws,I'.sub _ _ h2,k _ _ δ' F' H' sf I' (bz h1 r1 h2 r2) q'⟩
def gm (td ti:TEd):TEd:=fun δ Q=>td δ fun _ x δ1=>ti δ1 fun _ y δ2=>∃N0 k d,x=.dct N0/\y=.str k/\eB N0 k=some d/\Q false d δ2
def dz(hu:X.A.units+100<cLine)(ha:DE X a td)(hi:DE X ie ti)(hs:NoSl ie:=by intro _ _;rfl):DE X (.Subscript a ie pos) (gm td ti):=by obtain⟨t,pi,si⟩:=hi;obtain⟨t',pa,sa⟩:=ha;refine⟨_,Di (by lia) pa pi hs,fun io H0 F0 F δ σ H Q Qd I q k=>sa.fz I q fun x v δ1 F1 H1 f1 I1 r1 q1=>si.fz I1 q1 fun y u δ2 F2 H2 f2 I2 r2 q2=>?_⟩;obtain⟨N0,key,dd,rfl,rfl,eg,q2⟩:=q2;obtain⟨a,Y0,rfl,h1,rk⟩:=Rep.mono f2 _ _ r1;cases(show u=V.str key from r2);obtain⟨w,ew,rw'⟩:=(rk.val key).1 dd eg;exact⟨a,w,rfl,NB.s (I2.sub _ _ h1) ew,k false _ _ δ2 F2 H2 (f1.trans f2) (I2.pushF rw') q2⟩
def dDIn (neg:Bool)(ti td:TEd):TEd:=fun δ Q=>ti δ fun _ y δ1=>td δ1 fun _ x δ2=>∃N0 k,x=.dct N0/\y=.str k/\Q false (.bl (if neg then !(eB N0 k).isSome else(eB N0 k).isSome)) δ2
def gz(si:Sim ti td)(sx:Sim tx dx):Sim (tDIn ti tx) (dDIn false td dx)/\Sim (z7c ti tx) (dDIn true td dx):=by
 refine⟨fun io H0 F0 F δ σ H Q Qd I q k=>si.fz I q fun d v δ1 F1 H1 f1 I1 r1 q1=>sx.fz I1 q1 fun x u δ2 F2 H2 f2 I2 r2 q2=>?_,fun io H0 F0 F δ σ H Q Qd I q k=>si.fz I q fun d v δ1 F1 H1 f1 I1 r1 q1=>sx.fz I1 q1 fun x u δ2 F2 H2 f2 I2 r2 q2=>?_⟩ <;>
 ·obtain⟨N0,key,rfl,rfl,q2⟩:=q2;obtain⟨a,Y0,rfl,h1,rk⟩:=r2;cases(show v=V.str key from r1);have e:(iB Y0 (Sum.inr key)).isSome=(eB N0 key).isSome:=by
   cases eg:eB N0 key with
   |none=>rw[(rk.val key).2 eg];rfl
   |some d=>obtain⟨w,ew,_⟩:=(rk.val key).1 d eg;rw[ew];rfl
  refine⟨a,_,rfl,NB.o (I2.sub _ _ h1),k false _ _ δ2 F2 H2 (f1.trans f2) (I2.pushF ?_) q2⟩;rw[e];rfl
def dt_din(hu:X.A.units+100<cLine)(hi:DE X e ti)(ha:DE X a td)(hm:behindInMarks .In a=false:=by rfl):DT X (.Compare e [.In] [a] pos) (Kc (dDIn false ti td)):=by obtain⟨t,pi,si⟩:=hi;obtain⟨t',pa,sa⟩:=ha;exact⟨_,jg (kh (by lia) pi pa) hm,Ch (gz si sa).1⟩
def dIxC (K:W.Frag)(i:Nat)(ti:TEd):TEd:=fun δ Q=>∃ns,δ[i]? = some (.sc K ns)/\ti δ fun _ y δ1=>∃j n,y=.int j/\atI ns j=some n/\Q false (.int n) δ1
def iz(f:α->β){i:Int}(h:atI xs i=some x):atI (xs.map f) i=some (f x):=by unfold atI at h ⊢;rw[length_map];obtain⟨j,e,h⟩:=Option.bind_eq_some_iff.mp h;rw[e];simp[h]
def jz(hK:X.K=K)(ho:PE X (.Name x p) (tVar i))(hi:DE X ie ti)(hs:NoSl ie:=by intro _ _;rfl):DE X (.Subscript (.Name x p) ie pos) (dIxC K i ti):=by subst hK;obtain⟨t,pi,si⟩:=hi;refine⟨_,Bb Rp ho pi hs,fun io H0 F0 F δ σ H Q Qd I q k=>?_⟩;obtain⟨ns,e,q⟩:=q;obtain⟨a,ea,sq⟩:=I.get i _ e;refine⟨.ref a,Ec ea,si.fz I q fun y u δ1 F1 H1 f1 I1 r1 q1=>?_⟩;obtain⟨j,n,rfl,hj,q1⟩:=q1;cases(show u=V.int j from r1);exact⟨a,_,j,_,rfl,rfl,I1.sub.seq (f1.seq sq),iz V.int hj,k false _ _ δ1 F1 H1 f1 I1.pI q1⟩
def im (K:W.Frag)(i:Nat):TEd:=fun δ Q=>∃ns,δ[i]? = some (.sc K ns)/\Q false (.int ns.length) δ
def lz(hK:X.K=K)(hg:Gl X "len")(hm:X.mg "len" = none)(ha:PE X (.Name y p') (tVar i))
  (he:starEach [.Name y p'] X.env=[(false,eval (.Name y p') X.env)]:=by rfl)(K0:(backTo pos (starEach [] X.env)).any (·.1)=false:=by rfl):DE X (.Call (.Name "len" p) [.Name y p'] [] pos) (im K i):=by
 subst hK;refine⟨_,Tc Zp hg hm boot_len (Aa ha Da he) (by decide) (by decide) he K0,fun io H0 F0 F δ σ H Q Qd I q k=>?_⟩;obtain⟨ns,e,q⟩:=q;obtain⟨a,ea,sq⟩:=I.get i _ e;refine⟨.ref a,Ec ea,a,_,rfl,.inl (I.sub.seq sq),?_⟩;rw[length_map];exact k false _ _ δ F H (BB.refl _) I.pI q
def Hr (td ti:TEd):TEd:=fun δ Q=>td δ fun _ x δ1=>∃ks:List Str,x=.lst (ks.map .str)/\ti δ1 fun _ y δ2=>∃(k:Str)(j:Nat),y=.str k/\ks[j]? = some k/\(∀m,m<j->ks[m]? ≠ some k)/\Q false (.int j) δ2
def mz(hl:DE X l td)(hi:DE X e ti)
  (B0:attributeBase l "index" X.env (eval l X.env)=eval l X.env:=by rfl)
  (D0:((backTo cpos (starEach [e] X.env)).all (fun x=>!x.1)&&(backToKw cpos (keywordEach [] X.env)).all (fun x=>x.1.isSome)
  &&decide (([e]:List Expr).length+([]:List Keyword).length+(if ([]:List Keyword).isEmpty then 0 else 1)<30))=true:=by rfl)
  (A0:(apos.endLine == cpos.line)=true:=by rfl)(I0:starEach [e] X.env=(false,eval e X.env)::starEach [] X.env:=by rfl)(C0:(backTo cpos (starEach [] X.env)).any (·.1)=false:=by rfl) :
  DE X (.Call (.Attribute l "index" apos) [e] [] cpos) (Hr td ti):=by
 obtain⟨t,pi,si⟩:=hi;obtain⟨t',pa,sa⟩:=hl;refine⟨_,Be PySem.F.slot_list_index PySem.F.type_list_index cx pa (Aa pi Da I0) B0 D0 A0 I0 C0,fun io H0 F0 F δ σ H Q Qd I q k=>sa.fz I q fun x v δ1 F1 H1 f1 I1 r1 q1=>?_⟩;obtain⟨ks,rfl,q1⟩:=q1;obtain⟨a,vs,rfl,h1,r1'⟩:=r1;rw[r1'.strs]at h1;refine⟨a,rfl,⟨_,I1.sub _ _ h1⟩,si.fz I1 q1 fun y u δ2 F2 H2 f2 I2 r2 q2=>?_⟩;obtain⟨key,j,rfl,e1,e2,q2⟩:=q2;cases(show u=V.str key from r2);exact⟨a,rfl,key,rfl,ks,I2.sub _ _ (f2 _ _ h1),j,e1,e2,k false _ _ δ2 F2 H2 (f1.trans f2) I2.pI q2⟩
def fEqT:D->D->(Bool->D->Prop)->Prop:=fun x y Q=>∃xs,x=.tup xs/\y=.tup xs/\cC xs=true/\nB xs<=90/\Q false (.bl true)
def oz (hu:X.A.units+100<cLine):OpS (fun x y H Q=>∃n a b,x=.ref a/\y=.ref b/\∃xs,H a=some (.tup xs)/\∃ys,H b=some (.tup ys)/\xs.length=ys.length/\(∀(i:Nat) x y,xs[i]? = some x->ys[i]? = some y->EqT H n x y)/\X.A.units+n+1<cLine/\Q (.bl true) H) fEqT:=by intro io H0 F0 F δ σ H x y v u Q Qd I px py q k;obtain⟨xs,rfl,rfl,he,hd,q⟩:=q;obtain⟨a,vs,rfl,h1,r1⟩:=px.tup I;obtain⟨b,us,rfl,h2,r2⟩:=py.tup I;exact⟨90,a,b,rfl,rfl,vs,h1,us,h2,by rw[<-r1.len,<-r2.len],xg I.sub xs 90 vs us he hd r1 r2,by lia,k false _ _ F H (BB.refl _) I.pB q⟩
def kj (R:RD)(i:Nat)(u:TLd):TEd:=fun δ Q=>∃K ns,δ[i]? = some (.sc K ns)/\u δ fun ds δ'=>δ'[i]? = some (.sc K ns)/\R (.sc K ns::ds.map .fz) fun b d _=>Q b d δ'
variable {CX:CXT}{k:Nat}{f:Addr}{fd:FuncData}{ps:List Str}{R:RD}{E:XK}{x y:Str}{p p' pos:Pos}{es:List Expr}{u:TLd}{i:Nat}
def pz (G:MB X.prog X.w X.K X.mg X.base CX k f fd ps (spD R))(hr:KB k X.A)(hg:Gl X x)(hm:X.mg x=some (.ref f))(hk:keepIn X.K (.ref f)=true)(hb:OB X.K fd ps [])(hx:Zd CX X E)
  (hv:PE X (.Name y p') (tVar i))(ha:DL X es u)(J0:(x == ("__debug__":Str))=false:=by decide)(hs:starEach (.Name y p' :: es) X.env=(false,eval (.Name y p') X.env)::starEach es X.env:=by rfl)(K0:(backTo pos (starEach es X.env)).any (·.1)=false:=by rfl) :
  DE X (.Call (.Name x p) (.Name y p' :: es) [] pos) (kj R i u):=by
 obtain⟨t,pt,s⟩:=ha;refine⟨_,ae G hr hg hm hk hb .nil hx (Aa hv pt hs) J0 hs K0,fun io H0 F0 F δ σ H Q Qd I q kk=>?_⟩;obtain⟨K,ns,e0,q⟩:=q;obtain⟨a,ea,sq⟩:=I.get i _ e0;refine⟨.ref a,Ec ea,s io H0 F0 F δ σ H _ _ I q fun ds vs δ' F' H' sf I' r q'=>?_⟩;obtain⟨e1,q'⟩:=q';show spD R ((.ref a::vs)++[]) H' Q E;rw[append_nil];refine⟨H',[none],F',.sc K ns::ds.map .fz,_,fun p a e=>by cases p<;>simp at e,(Cg I'.sub r).push (s:=.sc K ns) (v:=.ref a) ⟨a,rfl,sf.seq sq⟩ (fun b c a e=>by cases e),q',fun b d v δ2 F2 H2 C q2=>?_⟩;exact kk b d v δ' F2 H2 (sf.trans C.ext) (I'.back C) q2
variable {δ:List Slot}{Q:Bool->D->List Slot->Prop}{QL:List D->List Slot->Prop}{Q2:Bool->D->Prop}{td ti:TEd}{ul:TLd}
noncomputable def jm (ds:List D) (k:List D->List D->Prop):Prop:=match ds with | [.lst x,.lst y]=>k x y|_=>False
theorem q1x {x y:List D}{k:List D->List D->Prop}:jm [.lst x,.lst y] k=k x y:=rfl
def j2l:Zl td δ QL=td δ fun _ d δ'=>uD d fun ds=>QL ds.reverse δ':=by unfold Zl;simp only[yf]
def j0f:am ul δ QL=ul δ fun ds δ'=>jm ds fun xs ys=>QL (qG xs ys) δ':=by unfold am;congr 1;funext ds δ';apply propext;constructor;rintro⟨xs,ys,rfl,h⟩;exact h;intro h;unfold jm at h;split at h;exact⟨_,_,rfl,h⟩;exact h.elim
def x9q:gm td ti δ Q=td δ fun _ x δ1=>ti δ1 fun _ y δ2=>uF x fun N0=>dF y fun k=>∃d,eB N0 k=some d/\Q false d δ2:=by
 unfold gm;have key:∀(x y:D)(δ2:List Slot),(∃N0 k d,x=.dct N0/\y=.str k/\eB N0 k=some d/\Q false d δ2)=(uF x fun N0=>dF y fun k=>∃d,eB N0 k=some d/\Q false d δ2):=by
  intro x y δ2;simp only[<-qh,<-xf];apply propext;constructor;rintro⟨N0,k,d,rfl,rfl,h1,h2⟩;exact⟨N0,rfl,k,rfl,d,h1,h2⟩;rintro⟨N0,rfl,k,rfl,d,h1,h2⟩;exact⟨N0,k,d,rfl,rfl,h1,h2⟩
 simp only[key]
def j0k:dDIn neg ti td δ Q=ti δ fun _ y δ1=>td δ1 fun _ x δ2=>uF x fun N0=>dF y fun k=>Q false (.bl (if neg then !(eB N0 k).isSome else(eB N0 k).isSome)) δ2:=by
 unfold dDIn;have key:∀(x y:D)(δ2:List Slot),(∃N0 k,x=.dct N0/\y=.str k/\Q false (.bl (if neg then !(eB N0 k).isSome else(eB N0 k).isSome)) δ2)=(uF x fun N0=>dF y fun k=>Q false (.bl (if neg then !(eB N0 k).isSome else(eB N0 k).isSome)) δ2):=by
  intro x y δ2;simp only[<-qh,<-xf];apply propext;constructor;rintro⟨N0,k,rfl,rfl,h⟩;exact⟨N0,rfl,k,rfl,h⟩;rintro⟨N0,rfl,k,rfl,h⟩;exact⟨N0,k,rfl,rfl,h⟩
 simp only[key]
def v_ixC:dIxC K i ti δ Q=cB i δ fun s=>scK K s fun ns=>ti δ fun _ y δ1=>kE y fun j=>∃n,atI ns j=some n/\Q false (.int n) δ1:=by
 unfold dIxC cB scK;have key:∀(ns:List Int)(y:D)(δ1:List Slot),(∃j n,y=.int j/\atI ns j=some n/\Q false (.int n) δ1)=(kE y fun j=>∃n,atI ns j=some n/\Q false (.int n) δ1):=by
  intro ns y δ1;simp only[<-Ki];apply propext;constructor;rintro⟨j,n,rfl,h⟩;exact⟨j,rfl,n,h⟩;rintro⟨j,rfl,n,h⟩;exact⟨j,n,rfl,h⟩
 simp only[key];cases δ[i]?<;>simp
def j2g:im K i δ Q=cB i δ fun s=>scK K s fun ns=>Q false (.int ns.length) δ:=by unfold im cB scK;cases δ[i]?<;>simp
theorem j2j:pG (.tup (a::b::c::e::r)) (.int 3) Q2=Q2 false e:=rfl
theorem x9r:Hr td ti δ Q=td δ fun _ x δ1=>∃ks:List Str,x=.lst (ks.map .str)/\ti δ1 fun _ y δ2=>∃(k:Str)(j:Nat),y=.str k/\ks[j]? = some k/\(∀m,m<j->ks[m]? ≠ some k)/\Q false (.int j) δ2:=rfl
noncomputable def scA (s:Slot) (k:W.Frag->List Int->Prop):Prop:=match s with | .sc K ns=>k K ns|_=>False
theorem v_scA{k:W.Frag->List Int->Prop}:scA (.sc K ns) k=k K ns:=rfl
def x8h:kj R i ul δ Q=cB i δ fun s=>scA s fun K ns=>ul δ fun ds δ'=>cB i δ' fun s'=>s' = .sc K ns/\vF R (fun b d _=>Q b d δ') .mk (.sc K ns::ds.map .fz):=by
 unfold kj cB vF;have key:∀(K:W.Frag)(ns:List Int)(δ':List Slot)(A:Prop),(δ'[i]? = some (.sc K ns)/\A)=(match δ'[i]? with|some s'=>s' = .sc K ns/\A|none=>False):=by
  intro K ns δ' A;cases δ'[i]?<;>simp
 simp only[key];cases δ[i]? with
 |none=>simp
 |some s =>
  cases s with
  |sc K ns =>
   apply propext;constructor;rintro⟨K',ns',e,h⟩;cases e;exact h;intro h;exact⟨K,ns,rfl,h⟩
  |_=>simp[scA]
end
end VL
namespace L2
open PySem PySem.Spec PyProof.Rows PySem.SeqAt
def Ir {ks:List Str}(r:EB (ks.map V.str) us)(h:j<us.toArray.size)(hj:j<ks.length):GB (.str ks[j]) us.toArray[j]:=by
 have h':j<us.length:=by simpa using h
 obtain⟨u,e,ru⟩:=r.get (i:=j) (x:=.str ks[j]) (by rw[getElem?_map,getElem?_eq_getElem hj];rfl);rw[getElem?_eq_getElem h']at e;cases e;simpa using ru
def Jr:OpR X (compareOp .Eq) (fun x y H Q=>∃a b,x=.ref a/\y=.ref b/\∃ks:List Str,H a=some (.lst (ks.map V.str))/\∃js:List Str,H b=some (.lst (js.map V.str))/\X.A.units<cLine/\Q (.bl (decide (ks=js))) H):=by
 intro Q0 s σ H x y v u Q I rx ry h;obtain⟨a,b,rfl,rfl,ks,ha,js,hb,hu,q⟩:=h;cases rx;cases ry;obtain⟨us,ru,pu,_⟩:=I.list (SqL.of ha);obtain⟨ws,rw',pw,_⟩:=I.list (SqL.of hb);have l1:=ru.length;have l2:=rw'.length;simp only[length_map]at l1 l2;by_cases hl:ks.length=js.length
 ·refine SeqAt.eq_listAt (e:=fun j=>decide (ks.getD j "" = js.getD j "")) pu.isList pw.isList (by simp;lia) hu (fun j h1 h2=>?_) ?_
  ·have hj1:j<ks.length:=by simp at h1;lia
   have hj2:j<js.length:=by lia
   have e:=Wp (A:=X.A.in1) (s:=s) (Ir ru h1 hj1) (Ir rw' h2 hj2) rfl rfl;have ee:eqV (.str ks[j]) (.str js[j])=decide (ks.getD j "" = js.getD j ""):=by
    rw[getD_eq_getElem?_getD,getD_eq_getElem?_getD,getElem?_eq_getElem hj1,getElem?_eq_getElem hj2];show(ks[j] == js[j])=decide (ks[j]=js[j]);rw[Bool.eq_iff_iff];simp
   rw[<-ee];exact e
  have e:((range us.toArray.size).all fun j=>decide (ks.getD j "" = js.getD j ""))=decide (ks=js):=by
   have hs:us.toArray.size=ks.length:=by simp;lia
   rw[hs,Bool.eq_iff_iff];simp only[all_eq_true,mem_range,decide_eq_true_eq];constructor;intro h;refine List.ext_getElem hl fun j h1 h2=>?_;have:=h j h1;rwa [getD_eq_getElem?_getD,getD_eq_getElem?_getD,getElem?_eq_getElem h1,getElem?_eq_getElem h2]at this;rintro rfl j _;rfl
  rw[e];exact fun _=>⟨.bl _,H,I,rfl,q⟩
 refine SeqAt.eq_list_lengthsAt pu.isList pw.isList (by simp;lia) hu ?_;have:decide (ks=js)=false:=by
  rw[decide_eq_false_iff_not];intro z;exact hl (by rw[z])
 rw[this]at q;exact(fun _=>⟨.bl false,H,I,rfl,q⟩)
end L2
namespace VL
open PySem L2
def fEqS:D->D->(Bool->D->Prop)->Prop:=fun x y Q=>∃ks js:List Str,x=.lst (ks.map .str)/\y=.lst (js.map .str)/\Q false (.bl (decide (ks=js)))
def Kr {X:Cx}(hu:X.A.units+100<cLine):OpS (fun x y H Q=>∃a b,x=.ref a/\y=.ref b/\∃ks:List Str,H a=some (.lst (ks.map V.str))/\∃js:List Str,H b=some (.lst (js.map V.str))/\X.A.units<cLine/\Q (.bl (decide (ks=js))) H) fEqS:=by intro io H0 F0 F δ σ H x y v u Q Qd I px py q k;obtain⟨ks,js,rfl,rfl,q⟩:=q;obtain⟨a,vs,rfl,h1,r1⟩:=px.lst I;obtain⟨b,us,rfl,h2,r2⟩:=py.lst I;rw[r1.strs]at h1;rw[r2.strs]at h2;exact⟨a,b,rfl,rfl,ks,h1,js,h2,by lia,k false _ _ F H (BB.refl _) I.pB q⟩
def fInI:D->D->(Bool->D->Prop)->Prop:=fun x y Q=>∃(k:Int)(ks:List Int),x=.int k/\y=.lst (ks.map .int)/\Q false (.bl (decide (k∈ks)))
def km:D->D->(Bool->D->Prop)->Prop:=fun x y Q=>∃(k:Int)(ks:List Int),x=.int k/\y=.lst (ks.map .int)/\Q false (.bl (!decide (k∈ks)))
def os_inI:OpS (fun x y H Q=>∃p,y=.ref p/\∃xs,H p=some (.lst xs)/\Lb x=true/\xs.all Lb=true/\Q (.bl (inV x xs)) H) fInI:=by intro io H0 F0 F δ σ H x y v u Q Qd I px py q k;obtain⟨s,ks,rfl,rfl,q⟩:=q;obtain⟨b,us,rfl,h2,r2⟩:=py.lst I;cases px.int;cases r2.ints;refine⟨b,rfl,_,h2,rfl,Cq ks,k false _ _ F H (BB.refl _) (I.pushF ?_) q⟩;rw[Bq];rfl
def lm:OpS (fun x y H Q=>∃p,y=.ref p/\∃xs,H p=some (.lst xs)/\Lb x=true/\xs.all Lb=true/\Q (.bl (!inV x xs)) H) km:=by intro io H0 F0 F δ σ H x y v u Q Qd I px py q k;obtain⟨s,ks,rfl,rfl,q⟩:=q;obtain⟨b,us,rfl,h2,r2⟩:=py.lst I;cases px.int;cases r2.ints;refine⟨b,rfl,_,h2,rfl,Cq ks,k false _ _ F H (BB.refl _) (I.pushF ?_) q⟩;rw[Bq];rfl
end VL
namespace L2
open PySem
open PyProof.Rows
end L2
namespace VL
open PySem L2
end VL
namespace L2
open PySem PySem.Spec PyProof.Rows PySem.W
end L2
namespace L2
open PySem PySem.Spec PyProof.Rows PySem.SeqAt
section
variable {X:Cx}
noncomputable def Itn (a:Addr):It :=
 ⟨fun i H=>∃xs x,H a=some (.lst xs)/\xs[i]? = some x,
 fun i H v H'=>∃t,v=.ref t/\H t=none/\∀xs,H a=some (.lst xs)->∃x,xs[i]? = some x/\H' = upd H t (.tup [.int (i:Int),x]),
 fun i H=>∃xs,H a=some (.lst xs)/\xs[i]? = none⟩
def qz {P:Program}{w:World}{K:W.Frag}{elts:List Expr}{x1:Nat}{pos:Pos}{l e it:Addr}(nd:e≠it) :
  TC P w K (.Tuple elts x1 pos) (Itn l) [e,it] e (fun i h=>(∃old,IsEnum h e it ((i:Nat):Int) old)/\h.IsListIter it l i) where
 mem:=by simp
 obj:=fun i h st b hb=>by
  obtain⟨⟨old,h1⟩,⟨o4,e4,c4,d4⟩⟩:=st;simp only[mem_cons,not_mem_nil,or_false]at hb;rcases hb with rfl|rfl;exact⟨_,h1,fun v z=>by cases z⟩;exact⟨_,e4,fun v z=>by rw[d4]at z;cases z⟩
 keep:=fun i h h' ⟨⟨old,h1⟩,h4⟩ k=>⟨⟨old,k e (by simp) _ h1⟩,h4.at fun o q=>k it (by simp) o q⟩
 item:=by
  intro X hP hw hK hc i Q0 s σ H E I hf st hg;subst hP hw hK;obtain⟨⟨old,h1⟩,h4⟩:=st;obtain⟨xs,x,ha,hx⟩:=hg;obtain⟨us,ru,pu,_⟩:=I.list (SqL.of ha);obtain⟨ux,ex,rx⟩:=ru.get hx;refine wpAny_pyNext_enum_item h1 h4 pu.isList (x:=ux) (by simpa using ex) nd fun h' a1 a3 a5 a6 a7=>?_;have I1:Inv X Q0 σ (upd H s.heap.objs.size (.tup [.int (i:Int),x])) { s with heap:=h',toks:=s.toks+1 }:=I.turnsLaid (t':=s.toks+1) (ch:=[e,it]) (fun b u hb q=>a7 b u (fun z=>hb (by simp[z])) (fun z=>hb (by simp[z])) q)
   hf (le_refl _) (show HB X.prog X.w _ h' _ (.tup [.int (i:Int),x]) from⟨by show 2<=sizeLine;decide,[_,ux],.cons ⟨_,rfl⟩ (.cons rx .nil),⟨_,a5,rfl,_,rfl⟩⟩)
  have hfr:=I.fresh;have old':∀b∈[e,it],upd H s.heap.objs.size (.tup [.int (i:Int),x]) b=none:=fun b hb=>by
   rw[upd_none];refine⟨fun q=>?_,(hf b hb).1⟩;have ob:∃o,s.heap.get? b=some o:=by
    obtain⟨o4,e4,_⟩:=h4;simp only[mem_cons,not_mem_nil,or_false]at hb;rcases hb with rfl|rfl;exact⟨_,h1⟩;exact⟨_,e4⟩
   obtain⟨o,eo⟩:=ob;exact absurd (lt_size eo) (by rw[q];exact lt_irrefl _)
  refine(fun _=>⟨_,rfl,wpAny_letOwnedTupleGo_enum (s:={ s with heap:=h',toks:=s.toks+1 }) a1 fun h2' b1 b2=>?_⟩);obtain⟨_,f1,f2,f3,f4⟩:=hf e (by simp);have I2:Inv X Q0 σ (upd H s.heap.objs.size (.tup [.int (i:Int),x])) { s with heap:=h2',toks:=s.toks+1 }:=I1.turned (t':=s.toks+1) (fun b o hb q=>(b2.2 b hb).trans q) (old' e (by simp)) f1 f3 f4.1 f4.2;refine(fun _=>⟨.ref s.heap.objs.size,_,I2,rfl,⟨_,rfl,hfr,fun xs' q1=>?_⟩,⟨⟨ux,?_⟩,a3.at fun o q=>(b2.2 it (Ne.symm nd)).trans q⟩,old'⟩);rw[ha]at q1;cases q1;exact⟨x,hx,rfl⟩;have:((i+1:Nat):Int)=(i:Int)+1:=by push_cast;rfl
  rw[this];exact b1
 done:=by
  intro X hP hw hK hc i Q0 s σ H E I hf st hg;subst hP hw hK;obtain⟨⟨old,h1⟩,h4⟩:=st;obtain⟨xs,ha,hend⟩:=hg;obtain⟨us,ru,pu,_⟩:=I.list (SqL.of ha);refine wpAny_pyNext_enum_end (I.ok.hd hc) h1 h4 pu.isList (by simpa using EB.none_of ru hend) fun h' hk=>(fun _=>⟨rfl,I.turneds (t':=s.toks) (ch:=[e,it]) (fun b u hb q=>hk b u (fun z=>hb (by simp[z])) q) hf⟩)
 self:=fun _ _ _ _ _ st h=>by
  obtain⟨⟨old,h1⟩,_⟩:=st;exact wpAny_pyIter_enum h1 h
def iEnum (ta:TA):TI:=fun σ H R=>ta σ H fun vs H1=>∃a,vs=[.ref a]/\∃xs,H1 a=some (.lst xs)/\R (Itn a) H1
def tz(hg:Gl X "enumerate")(hm:X.mg "enumerate" = none)(ha:PA X [e1] ta)(hs:starEach [e1] X.env=(false,eval e1 X.env)::starEach [] X.env:=by rfl)(K0:(backTo pos (starEach [] X.env)).any (·.1)=false:=by rfl) :
  PI X (.Tuple elts x1 pt) (.Call (.Name "enumerate" p) [e1] [] pos) (iEnum ta):=by
 intro Q0 s σ H R I h;refine wpAny_Call_Name_kw (Od I hg hm PyProof.Rows.boot_enumerate ?_);refine PyProof.Rows.callWith_type1 (thn (ha pos Q0 s σ H _ I h) fun us s1 zq=>?_) hs K0;obtain⟨vs,H1,I1,r1,q1⟩:=zq;obtain⟨a,rfl,xs,hA,q⟩:=q1;obtain⟨u,rfl,ru⟩:=Jc r1;cases ru;obtain⟨us,ru,pu,_⟩:=I1.list (SqL.of hA);refine call_enumerate_list pu.isList fun h' z1 z2 z3 z7=>wpAny_pyIter_enum z1 ?_;refine⟨s1.heap.objs.size+1,_,_,_,H1,rfl,I1.kept (t':=s1.toks) z7,qz (by show(_:Nat)≠_;lia),⟨⟨_,z1⟩,z2⟩,fun c hc=>?_,q⟩;have hge:s1.heap.objs.size<=c:=by
  simp only[mem_cons,not_mem_nil,or_false]at hc;rcases hc with rfl|rfl;exact le_add_right _ _;exact le_refl _
 exact I1.fpOk hge (I1.hok.fresh hge)
end
end L2
namespace L2
open PySem PySem.Spec PyProof.Rows
noncomputable def Fe (n0:List Str) (x:Str):List Str:=if x∈n0 then n0 else n0++[x]
noncomputable def bD (val:Nat->Str) (i:Nat):List Str:=((range i).map val).foldl Fe []
def mm (val:Nat->Str)(i:Nat):bD val (i+1)=Fe (bD val i) (val i):=by unfold bD;rw[List.range_succ,map_append,List.foldl_append];rfl
def Lr (n0:List Str)(x:Str):(Fe n0 x).length=if decide (x∈n0)=true then n0.length else n0.length+1:=by unfold Fe;by_cases h:x∈n0<;>simp[h]
def uz (n0:List Str)(x y:Str):decide (y∈Fe n0 x)=(decide (y∈n0)||decide (y=x)):=by
 unfold Fe;by_cases h:x∈n0
 ·rw[if_pos h];by_cases e:y=x;subst e;simp[h];simp[e]
 rw[if_neg h];simp
theorem om (val:Nat->Str):∀i,(bD val i).length<=i
 |0=>le_refl _
 |i+1=>by
  have h0:=om val i;rw[mm,Lr];split<;>lia
section
variable {pg:Program}{w:World}{A:Around}{R:Result->Shared->Prop}{J:Addr}{fp wr:List Addr}{G:Array GenState->Array GenState->Prop}{n:Nat}{P:Nat->Value->Prop}{St:Nat->Shared->Prop}
def Mr{h1 h2:Heap}(k:∀o,h1.get? a=some o->h2.get? a=some o)(z:h1.SetOf (strKind pg w) a M c):h2.SetOf (strKind pg w) a M c:=by obtain⟨o,es,ep,tb,ho,more⟩:=z;exact⟨o,es,ep,tb,k _ ho,more⟩
def vz (W:WalksS pg w A.in1 J fp wr G n P St)(a:Addr)(out:a∉fp)(val:Nat->Str)(txt:∀i v,P i v->∃t,v=.str (val i) t)(room:n+1<scanBound) :
  ∀(k i:Nat)(s:Shared),n - i=k->i<=n->St i s->s.heap.SetOf (strKind pg w) a (fun c=>decide (c∈bD val i)) (bD val i).length ->
   (∀s2,Moved (a::wr) G s s2->s2.heap.SetOf (strKind pg w) a (fun c=>decide (c∈bD val n)) (bD val n).length->R (.ok (.ret .none)) s2) ->
   codeAny (model pg w) A (.builtin "set.update.loop" ⟨[.ref a,.ref J],[]⟩) R s:=by
 have outw:a∉wr:=fun z=>out (W.sub _ z);have wider:∀b∈wr,b∈a::wr:=fun b q=>mem_cons_of_mem _ q;intro k;induction k with
 |zero =>
  intro i s ek le st z kR;have e:i=n:=by lia
  subst e;refine codeAny_builtin PyProof.Rows.F.entry_set_update_loop ?_;rw[Around.under_plainId PyProof.Rows.F.plain_set_update_loop _];show wpAny _ A.in1 (pyNext (.ref J) >>= _) _ _ s;refine wpAny_bind (W.done s _ _ st fun s2 mv=>?_);show wpAny _ A.in1 (ret Value.none) _ _ s2;exact wpAny_pure (kR s2 (mv.mono wider) (Mr (fun o q=>mv.heap a o outw q) z))
 |succ k ih =>
  intro i s ek le st z kR;have lt:i<n:=by lia
  refine codeAny_builtin PyProof.Rows.F.entry_set_update_loop ?_;rw[Around.under_plainId PyProof.Rows.F.plain_set_update_loop _];show wpAny _ A.in1 (pyNext (.ref J) >>= _) _ _ s;refine wpAny_bind (W.item i s _ _ lt st fun v s2 hP st2 mv=>?_);obtain⟨t,rfl⟩:=txt i v hP;have z2:=Mr (pg:=pg) (w:=w) (fun o q=>mv.heap a o outw q) z;show wpAny _ A.in1 (holding [Value.str (val i) t] (setAdd a (.str (val i) t)) >>= _) _ _ s2;refine wpAny_bind (wpAny_holding ?_);unfold setAdd;refine wpAny_holding ?_;refine wpAny_bind ((strKind pg w).pyHash (k:=val i) (strKind_is _ _ _ _) ?_);have few:=om val i;refine wpAny_setAddHashed_of (knd:=strKind pg w) (s:={ s2 with toks:=s2.toks+1 }) (strKind_is _ _ _ _) rfl z2 (by lia) fun h2 sb z3=>?_;have z4:h2.SetOf (strKind pg w) a (fun c=>decide (c∈bD val (i+1))) (bD val (i+1)).length :=
   PyProof.Rows.SetOf_congr z3 (fun c=>by rw[mm,uz]) (by rw[mm,Lr])
  refine wpAny_pure ⟨plainId_quiet PyProof.Rows.F.plain_set_update_loop _,ih (i+1) _ (by lia) lt (W.frame _ s2 _ _ st2 (le_succ _) fun b hb o q=>?_) z4 fun s3 mv3 z5=>?_⟩;rw[sb.2 b (fun y:b=a=>out (by rw[<-y];exact hb))];exact q;refine kR s3 (Moved.trans W.gtrans ((mv.mono wider).then_heap (le_succ _) fun b o hb q=>?_) mv3) z5;rw[sb.2 b (fun y:b=a=>hb (by rw[y];exact mem_cons_self))];exact q
variable {E:Value->Shared->Prop}{s:Shared}
set_option maxHeartbeats 3200000 in
def wz{ks:List Str}(calm:A.handled=none)(lst:s.heap.IsList l Z0)
  (txt:∀(i:Nat)(v:Value),Z0[i]? = some v->∃t,v=.str (ks.getD i "") t)(room:Z0.size+1<scanBound)
  (kQ:∀(h2:Heap)(tk:Nat),h2.SetOf (strKind pg w) s.heap.objs.size (fun c=>decide (c∈bD (fun i=>ks.getD i "") Z0.size)) (bD (fun i=>ks.getD i "") Z0.size).length ->
   (∀b o,b<s.heap.objs.size->s.heap.get? b=some o->h2.get? b=some o)->Q (.ref s.heap.objs.size) { s with heap:=h2,toks:=tk }) :
  wpAny (model pg w) A (call (.type "set") [.ref l]) Q E s:=by
 obtain⟨c0,c1,mro⟩:=called_set.mro;have made0:=called_set.made;have sub0:=called_set.sub;refine wpAny_call (codeAny_of_tree (?_:wpAny _ _ (callAny (.type "set") _) _ _ _));refine wpAny_pure ⟨Code.quiet_builtin _ (by decide +kernel),codeAny_builtin PySem.F.entry_type_call ?_⟩;rw[Around.under_plain (weight_type_call_type "set" [.ref l] []) rfl];have f1:=called_set.notType;have f2:=called_set.canCreate;have f3:=PySem.F.typeCall_set_1 (.ref l)
 repeat (any_goals (first|assumption|wp_step))
 refine codeAny_mono (code_set_new_1 (.ref l) (E:=E) (Q₁:=fun ob s2=>∃led:Bool,ob=.ref s.heap.objs.size/\s2 = { s with heap:=s.heap.push (⟨.type "set",none,.set #[] 0 (.fresh 0 0 led),#[]⟩:Obj) }) fun led=>⟨led,rfl,rfl⟩) fun r s2 hr=>?_;cases r with
 |error e=>exact hr
 |ok fl =>
  cases fl with
  |ret ob =>
   obtain⟨led,rfl,rfl⟩:=hr;have at0:(s.heap.push (⟨.type "set",none,.set #[] 0 (.fresh 0 0 led),#[]⟩:Obj)).get? s.heap.objs.size=some ⟨.type "set",none,.set #[] 0 (.fresh 0 0 led),#[]⟩:=get?_push_size _ rfl;have ty0:Shared.TypeIs { s with heap:=s.heap.push (⟨.type "set",none,.set #[] 0 (.fresh 0 0 led),#[]⟩:Obj) } (.ref s.heap.objs.size) "set":=⟨_,at0,rfl⟩;have f4:=called_set.init.lookup;have f5:=called_set.init.bind (.ref s.heap.objs.size)
   repeat (any_goals (first|assumption|wp_step))
   refine codeAny_mono (codeAny_call_builtin (R:=wants (fun r s3=>r=.none/\∃h2 tk,s3 = { s with heap:=h2,toks:=tk } /\
     h2.SetOf (strKind pg w) s.heap.objs.size (fun c=>decide (c∈bD (fun i=>ks.getD i "") Z0.size)) (bD (fun i=>ks.getD i "") Z0.size).length /\
     (∀b o,b<s.heap.objs.size->s.heap.get? b=some o->h2.get? b=some o)) E) called_set.init.plain PySem.F.entry_set_init (check_set_init_1 ty0 ?_)) fun r3 s3 hr3=>?_
   ·obtain⟨⟨ocls,odict,odata,oslots⟩,ol1,ol2,nl,ol3⟩:=lst;replace ol2:ocls=.type "list":=ol2;replace ol3:odata=.seq Z0 nl:=ol3;subst ol2 ol3;have ol4:(s.heap.push (⟨.type "set",none,.set #[] 0 (.fresh 0 0 led),#[]⟩:Obj)).get? l=some ⟨.type "list",odict,.seq Z0 nl,oslots⟩:=get?_push_of_some _ ol1;have f6:=PySem.F.sub_list_set;have f7:=PySem.F.sub_list_frozenset;have f8:(Value.type "list" == Value.type "dict")=false:=by decide
    have lst1:(s.heap.push (⟨.type "set",none,.set #[] 0 (.fresh 0 0 led),#[]⟩:Obj)).IsList l Z0:=⟨_,ol4,rfl,nl,rfl⟩;unfold Builtin.«set.__init__» noKeywords Builtin.Frozenset.updateFrom;generalize ePI:pyIter=PI
    wp_walk
    subst ePI;refine wpAny_pyIter_list lst1 (wpAny_bind (wpAny_runValue ?_));have lt0:l<s.heap.objs.size:=lt_size ol1;have calm3:A.in1.in1.in1.handled=none:=by simp[calm]
    have far:l≠(s.heap.push (⟨.type "set",none,.set #[] 0 (.fresh 0 0 led),#[]⟩:Obj)).objs.size:=by
     rw[size_push];exact ne_of_lt (Nat.lt_succ_of_lt lt0)
    have out:s.heap.objs.size∉[(s.heap.push (⟨.type "set",none,.set #[] 0 (.fresh 0 0 led),#[]⟩:Obj)).objs.size,l]:=by
     rw[size_push];simp only[mem_cons,mem_singleton,not_mem_nil,or_false,not_or];exact⟨ne_of_lt (Nat.lt_succ_self _),ne_of_gt lt0⟩
    refine vz ((Walks.list calm3 _ l far Z0).toS) s.heap.objs.size out (fun i=>ks.getD i "") txt room (Z0.size - 0) 0 _ (by lia) (zero_le _) ⟨⟨_,get?_push_size _ rfl,rfl,rfl⟩,lst1.push _⟩ ?z0 ?kR
    case z0 =>
     have at1:=get?_push_of_some (⟨.type "list_iterator",none,.fields #[.ref l,.int 0 0],#[]⟩:Obj) at0;exact PyProof.Rows.SetOf_congr ((PyProof.Rows.setObjOf_fresh (knd:=strKind pg w) led).setOf at1 (by unfold scanBound;lia)) (fun _=>rfl) rfl
    case kR =>
     rintro⟨h2,g2,d2,tk2,os2⟩ mv z;have eg:g2=s.gens:=mv.gens;have ed:d2=s.drawn:=mv.drawn;have eo:os2=s.os:=mv.os;subst eg ed eo;refine(?_:wpAny _ _ _ _ _ _);refine wpAny_pure (?_:wpAny _ _ (ret Value.none) _ _ _);refine wpAny_pure ⟨rfl,h2,tk2,rfl,z,fun b o hb q=>mv.heap b o ?_ (get?_push_of_some _ (get?_push_of_some _ q))⟩;simp only[mem_cons,mem_singleton,not_mem_nil,or_false,not_or];exact⟨ne_of_lt hb,by rw[size_push];exact ne_of_lt (Nat.lt_succ_of_lt hb)⟩
   cases r3 with
   |error e=>exact hr3
   |ok fl3 =>
    cases fl3 with
    |ret r =>
     obtain⟨rfl,h2,tk,rfl,z,kk⟩:=hr3
     repeat (any_goals (first|assumption|wp_step))
     exact kQ _ _ z kk
    |_=>exact hr3.elim
  |_=>exact hr.elim
variable {X:Cx}
def xz (te:TE):TE:=fun σ H Q=>te σ H fun x H1=>∃(a:Addr)(ks:List Str),x=.ref a/\H1 a=some (.lst (ks.map V.str))/\ks.length<=4000/\Q (.int (bD (fun i=>ks.getD i "") ks.length).length) H1
def yz(hc:X.calm=true)(gl:Gl X "len")(ml:X.mg "len" = none)(gs:Gl X "set")(ms:X.mg "set" = none)(he:PE X e te)
  (s2:starEach [e] X.env=(false,eval e X.env)::starEach [] X.env:=by rfl)(n2:(backTo p3 (starEach [] X.env)).any (·.1)=false:=by rfl)
  (s1:starEach [.Call (.Name "set" p2) [e] [] p3] X.env=(false,eval (.Call (.Name "set" p2) [e] [] p3) X.env)::starEach [] X.env:=by rfl)(n1:(backTo p4 (starEach [] X.env)).any (·.1)=false:=by rfl) :
  PE X (.Call (.Name "len" p) [.Call (.Name "set" p2) [e] [] p3] [] p4) (xz te):=by
 intro Q0 s σ H Q I h;refine wpAny_Call_Name_kw (Od I gl ml PySem.boot_len ?_);refine PyProof.Rows.callWith_builtin1 ?_ s1 n1;rw[s1];show wpAny _ _ (spliced ((false,eval (.Call (.Name "set" p2) [e] [] p3) X.env)::backTo p4 (starEach [] X.env))) _ _ s;refine Calls.spliced_cons ?_;refine wpAny_Call_Name_kw (Od I gs ms boot_set ?_);refine PyProof.Rows.callWith_type1 (thn (Aa he Da s2 p3 Q0 s σ H (fun vs H1=>∃(a:Addr)(ks:List Str),vs=[.ref a]/\H1 a=some (.lst (ks.map V.str))/\ks.length<=4000/\Q (.int (bD (fun i=>ks.getD i "") ks.length).length) H1) I ?_) fun us sa ⟨vs,H1,I1,r1,q1⟩=>?_) s2 n2
 ·show te σ H fun x H1=>_;refine(?_:te σ H _);have e:(fun(x:V)(H1:Hp)=>∃(a:Addr)(ks:List Str),x=V.ref a/\H1 a=some (.lst (ks.map V.str))/\ks.length<=4000/\Q (.int (bD (fun i=>ks.getD i "") ks.length).length) H1)=fun x H1=>tNil σ H1 fun vs H2=>∃(a:Addr)(ks:List Str),x::vs=[V.ref a]/\H2 a=some (.lst (ks.map V.str))/\ks.length<=4000/\Q (.int (bD (fun i=>ks.getD i "") ks.length).length) H2:=by
   funext x H1;simp only[tNil,List.cons.injEq,and_true]
  rw[<-e];exact h
 obtain⟨a,ks,rfl,ha,hl,q⟩:=q1;obtain⟨u,rfl,ru⟩:=Jc r1;cases ru;obtain⟨Z0,rv,pl,_⟩:=I1.list (SqL.of ha);have len:Z0.length=ks.length:=by have:=rv.length;simp at this;exact this.symm
 refine wpAny_with_toks (n:=tk0) I1.pos ?_;refine wz (ks:=ks) (I1.ok.hd hc) pl.isList (fun i v ev=>?_) (by simp[len,scanBound];lia) fun h2 tk z kk=>fun hk=>?_
 ·have ev':Z0[i]? = some v:=by simpa using ev
  have hi:i<ks.length:=by rw[<-len];exact(List.getElem?_eq_some_iff.mp ev').1
  obtain⟨u,eu,ru⟩:=rv.get (i:=i) (x:=.str (ks.getD i "")) (by simp[hi]);rw[ev']at eu;cases eu;exact ru
 refine Calls.spliced_nil ?_;obtain⟨o,es,ep,tb,ho,ex,hd,_,_,_,hf,hz⟩:=z;have I2:Inv X Q0 σ H1 { sa with heap:=h2,toks:=tk }:=I1.kept (t':=tk) fun b o q=>kk b o (lt_size q) q;have few:=om (fun i=>ks.getD i "") Z0.toArray.size;refine call_len_set ho ex hd hf (by rw[hz];simp at few ⊢;lia) (fun _=>⟨.int (es.size:Int),H1,I2.tok _,⟨_,rfl⟩,?_⟩);rw[hz];simpa[len] using q
def tSlR (te:TE):TE:=fun σ H Q=>te σ H fun x H1=>∃a,x=.ref a/\∃xs,H1 a=some (.lst xs)/\∀p,H1 p=none->Q (.ref p) (upd H1 p (.lst xs.reverse))
def zz(he:PE X e te):PE X (.Subscript e (.Slice none none (some (.UnaryOp .USub (.Constant (.int 1) k1 p1) p0)) p2) pos) (tSlR te):=by intro Q0 s σ H Q I h;refine Subscript_ (thn (he Q0 s σ H _ I h) fun v s1 zq=>?_);obtain⟨x,H1,I1,r1,q1⟩:=zq;obtain⟨a,rfl,xs,ha,q⟩:=q1;cases r1;refine wpAny_Slice ?_;rw[evalPart_none];refine wpAny_pure (wpAny_pure ?_);refine thn (Op (pe_un qp Ab) Q0 s1 σ H1 (fun o H2=>o=some (-1)/\H2=H1) I1 ⟨1,rfl,-1,rfl,rfl,rfl⟩) fun vu s3 zq=>?_;obtain⟨o,H3,I3,pu,eo,eH⟩:=zq;subst eo eH;have I4:Inv X Q0 σ H3 { s3 with heap:=s3.heap.push { cls:=.type "slice",data:=.fields #[.none,.none,vu] } }:=I3.kept (t':=s3.toks) fun b ob q=>get?_push_of_some _ q;refine(?_:wpAny (model X.prog X.w) X.A (subscriptTail e _ (.ref a) (.ref s3.heap.objs.size)) (EP X Q0 σ Q) X.xe { s3 with heap:=s3.heap.push { cls:=.type "slice",data:=.fields #[.none,.none,vu] } });obtain⟨Z0,r,ht,hz⟩:=I4.list (SqL.of ha);have hlen:=r.length;refine tail_any (ops:=[.ref a,.ref s3.heap.objs.size]) ht.isList.typeIs slot_list_getitem.lookup ?_ (by with_unfolding_all rfl);refine wpAny_getItem_list_slice ht.isList (Heap.IsSliceOf.new ..) .none .none pu (by simp) ?_ (by rw[size_toArray]<;>lia);rw[W.krv_pick];refine(fun _=>⟨.ref _,_,I4.laid (t':=s3.toks) (o:=.lst xs.reverse) (fun b ob q=>get?_push_of_some _ q) (le_refl _) ?_,rfl,q _ (I4.hok.fresh (le_refl _))⟩);exact⟨by simpa using hz,Z0.reverse,0,r.reverse,get?_push_size _ rfl⟩
end
end L2
namespace VL
open PySem L2
section
variable {X:Cx}
noncomputable def wd:Nat->List D->List D
 |_,[]=>[]
 |n,x::xs=>.tup [.int (n:Int),x]::wd (n+1) xs
theorem Nr:∀(xs:List D)(n:Nat),(wd n xs).length=xs.length
 | [],_=>rfl
 |_::xs,n=>by rw[wd,length_cons,length_cons,Nr xs]
theorem Pr:∀(xs:List D)(n i:Nat)(d:D),(wd n xs)[i]? = some d->∃x,xs[i]? = some x/\d=.tup [.int ((n+i:Nat):Int),x]
 | [],n,i,d,h=>by simp[wd]at h
 |x::xs,n,0,d,h=>by simp[wd]at h;exact⟨x,rfl,h.symm⟩
 |x::xs,n,i+1,d,h=>by
  obtain⟨y,e1,e2⟩:=Pr xs (n+1) i d (by simpa[wd] using h);exact⟨y,by simpa using e1,by rw[e2];congr 3;congr 1;lia⟩
def qm (u:TLd):TLd:=fun δ Q=>u δ fun ds δ'=>∃xs,ds=[.lst xs]/\Q (wd 0 xs) δ'
def Az(ha:F a=some (.lst vs))(ra:DB F xs vs):AD (Itn a) F (wd 0 xs):=by
 intro io H0 F0 F' δ σ H' sf I i;have hA:H' a=some (.lst vs):=I.sub _ _ (sf _ _ ha);refine⟨fun d e=>?_,fun e=>?_⟩;obtain⟨x,ex,rfl⟩:=Pr _ _ _ _ e;obtain⟨v,ev,rv⟩:=ra.get ex;refine⟨⟨vs,v,hA,ev⟩,fun z H'' yl=>?_⟩;obtain⟨t,rfl,ht,yl⟩:=yl;obtain⟨v',ev',rfl⟩:=yl vs hA;rw[ev]at ev';cases ev';obtain⟨F2,s2,I2,r2⟩:=I.newT (ds:=[.int ((0+i:Nat):Int),x]) (vs:=[.int (i:Int),v]) ht ⟨_,_,rfl,(by rw[zero_add];rfl),_,_,rfl,Rep.mono sf _ _ rv,rfl⟩;exact⟨F2,s2,I2,r2⟩;refine⟨vs,hA,?_⟩;have l1:=ra.len;rw[Nr]at e;rw[List.getElem?_eq_none_iff]
 lia
def Qr(hg:Gl X "enumerate")(hm:X.mg "enumerate" = none)(ha:DL X [e1] u)(hs:starEach [e1] X.env=(false,eval e1 X.env)::starEach [] X.env:=by rfl)(K0:(backTo pos (starEach [] X.env)).any (·.1)=false:=by rfl) :
  DI X (.Tuple elts x1 pt) (.Call (.Name "enumerate" p) [e1] [] pos) (qm u):=by
 obtain⟨t,p,s⟩:=ha;refine⟨_,tz hg hm p hs K0,fun io H0 F0 F δ σ H R Qd I q k=>s io H0 F0 F δ σ H _ _ I q fun ds vs δ' F' H' sf I' r q'=>?_⟩;obtain⟨xs,rfl,q'⟩:=q';obtain⟨v,rfl,a,us,rfl,h1,r1⟩:=r.one_inv;exact⟨a,rfl,us,I'.sub _ _ h1,k _ _ δ' F' H' sf I' (Az h1 r1) q'⟩
def Rr (t:TEd):TEd:=fun δ Q=>t δ fun _ d δ'=>∃ks:List Str,d=.lst (ks.map .str)/\ks.length<=4000/\Q false (.int (bD (fun i=>ks.getD i "") ks.length).length) δ'
def Bz(hc:X.calm=true)(gl:Gl X "len")(ml:X.mg "len" = none)(gs:Gl X "set")(ms:X.mg "set" = none)(he:DE X e t)
  (s2:starEach [e] X.env=(false,eval e X.env)::starEach [] X.env:=by rfl)(n2:(backTo p3 (starEach [] X.env)).any (·.1)=false:=by rfl)
  (s1:starEach [.Call (.Name "set" p2) [e] [] p3] X.env=(false,eval (.Call (.Name "set" p2) [e] [] p3) X.env)::starEach [] X.env:=by rfl)(n1:(backTo p4 (starEach [] X.env)).any (·.1)=false:=by rfl) :
  DE X (.Call (.Name "len" p) [.Call (.Name "set" p2) [e] [] p3] [] p4) (Rr t):=by
 obtain⟨t1,q1,s⟩:=he;refine⟨_,yz hc gl ml gs ms q1 s2 n2 s1 n1,fun io H0 F0 F δ σ H Q Qd I q k=>s.fz I q fun d v δ1 F1 H1 f1 I1 r1 q1=>?_⟩;obtain⟨ks,rfl,hl,q2⟩:=q1;obtain⟨a,vs,rfl,h1,r⟩:=r1;have ev:vs=ks.map V.str:=by
  clear hl q2 h1 q;induction ks generalizing vs with
  |nil=>exact r
  |cons z ks ih =>
   obtain⟨v,r',rfl,e1,e2⟩:=r;cases(show v=.str z from e1);rw[ih _ e2];rfl
 subst ev;exact⟨a,ks,rfl,I1.sub _ _ h1,hl,k false _ _ δ1 F1 H1 f1 I1.pI q2⟩
def dSlR (t:TEd):TEd:=fun δ Q=>t δ fun _ d δ'=>∃xs,d=.lst xs/\Q true (.lst xs.reverse) δ'
def Cz(he:DE X e t):DE X (.Subscript e (.Slice none none (some (.UnaryOp .USub (.Constant (.int 1) k1 p1) p0)) p2) pos) (dSlR t):=by obtain⟨t1,q1,s⟩:=he;refine⟨_,zz q1,fun io H0 F0 F δ σ H Q Qd I q k=>s.fz I q fun d v δ1 F1 H1 f1 I1 r1 q1=>?_⟩;obtain⟨xs,rfl,q2⟩:=q1;obtain⟨a,vs,rfl,h1,r⟩:=r1;exact⟨a,rfl,vs,I1.sub _ _ h1,fun p hp=>k true _ _ δ1 F1 _ f1 (I1.newL hp r.rev) q2⟩
inductive A2 where
 |v (d:D)|o1|o2
noncomputable def A2.one:A2->Bool
 |.o1=>true
 |_=>false
noncomputable def A2.two:A2->Bool
 |.o2=>true
 |_=>false
abbrev TA2:=List Slot->(List A2->List Slot->Prop)->Prop
def A2Ok (F:Hp)(w1 w2:V):A2->V->Prop
 |.v d,x=>Rep F d x
 |.o1,x=>x=w1
 |.o2,x=>x=w2
def Sr (i j:Nat)(te:TA)(td:TA2):Prop:=∀(io:List (Option Addr))(H0 F0 F:Hp)(δ:List Slot)(σ:L2.St)(H:Hp)(w1 w2:V)(Q:List V->Hp->Prop)(Qd:List A2->List Slot->Prop),EI io H0 F0 F δ σ H->σ[i]? = some (some w1)->σ[j]? = some (some w2)->td δ Qd ->
 (∀os vs δ' F' H',BB F F'->EI io H0 F0 F' δ' σ H'->Paired (A2Ok F' w1 w2) os vs->Qd os δ'->Q vs H')->te σ H Q
def DA2 (X:Cx)(i j:Nat)(es:List Expr)(td:TA2):Prop:=∃te,PA X es te/\Sr i j te td
def tm:TA2:=fun δ Q=>Q [] δ
def d2V (t:TEd)(u:TA2):TA2:=fun δ Q=>t δ fun _ d δ'=>u δ' fun os δ''=>Q (.v d::os) δ''
def d2O1 (u:TA2):TA2:=fun δ Q=>u δ fun os δ''=>Q (.o1::os) δ''
def d2O2 (u:TA2):TA2:=fun δ Q=>u δ fun os δ''=>Q (.o2::os) δ''
variable {i j:Nat}{a:Expr}{es:List Expr}{da:TEd}{u:TA2}
def d2_nil:DA2 X i j [] tm:=⟨_,Da,fun io H0 F0 F δ σ H w1 w2 Q Qd I h1 h2 q k=>k [] [] δ F H (BB.refl _) I .nil q⟩
def d2_v (ha:DE X a da)(hr:DA2 X i j es u)(hs:starEach (a::es) X.env=(false,eval a X.env)::starEach es X.env:=by rfl):DA2 X i j (a::es) (d2V da u):=by obtain⟨ta,pa,sa⟩:=ha;obtain⟨tr,pr,sr⟩:=hr;refine⟨_,Aa pa pr hs,fun io H0 F0 F δ σ H w1 w2 Q Qd I h1 h2 q k=>sa.fz I q fun d v δ' F' H' sf I' r q'=>sr io H0 F0 F' δ' σ H' w1 w2 _ _ I' h1 h2 q' fun ds vs δ2 F2 H2 s2 I2 r2 q2=>?_⟩;exact k (.v d::ds) (v::vs) δ2 F2 H2 (sf.trans s2) I2 (.cons (show Rep F2 d v from Rep.mono s2 _ _ r) r2) q2
def d2_o1(ha:PE X (.Name x p) (tVar i))(hr:DA2 X i j es u)(hs:starEach (.Name x p::es) X.env=(false,eval (.Name x p) X.env)::starEach es X.env:=by rfl):DA2 X i j (.Name x p::es) (d2O1 u):=by obtain⟨tr,pr,sr⟩:=hr;refine⟨_,Aa ha pr hs,fun io H0 F0 F δ σ H w1 w2 Q Qd I h1 h2 q k=>⟨w1,h1,sr io H0 F0 F δ σ H w1 w2 _ _ I h1 h2 q fun ds vs δ2 F2 H2 s2 I2 r2 q2=>?_⟩⟩;exact k (.o1::ds) (w1::vs) δ2 F2 H2 s2 I2 (.cons rfl r2) q2
def d2_o2(ha:PE X (.Name x p) (tVar j))(hr:DA2 X i j es u)(hs:starEach (.Name x p::es) X.env=(false,eval (.Name x p) X.env)::starEach es X.env:=by rfl):DA2 X i j (.Name x p::es) (d2O2 u):=by obtain⟨tr,pr,sr⟩:=hr;refine⟨_,Aa ha pr hs,fun io H0 F0 F δ σ H w1 w2 Q Qd I h1 h2 q k=>⟨w2,h2,sr io H0 F0 F δ σ H w1 w2 _ _ I h1 h2 q fun ds vs δ2 F2 H2 s2 I2 r2 q2=>?_⟩⟩;exact k (.o2::ds) (w2::vs) δ2 F2 H2 s2 I2 (.cons rfl r2) q2
noncomputable def Gg (c1 c2:D):A2->Slot
 |.v d=>.fz d
 |.o1=>.ob true c1
 |.o2=>.ob true c2
noncomputable def um (a1 a2:Addr):A2->Option Addr
 |.v _=>none
 |.o1=>some a1
 |.o2=>some a2
noncomputable def Wc (f:A2->Bool):List A2->List Slot->Option D
 |o::os,s::δ=>if f o then(match s with | .ob true c=>some c|_=>none) else Wc f os δ
 |_,_=>none
theorem vm:∀{os:List A2}{δ:List Slot}{c:D},Wc f os δ=some c->∃(p:Nat)(o:A2),os[p]? = some o/\f o=true/\δ[p]? = some (Slot.ob true c)
 | [],δ,c,h=>by cases δ<;>cases h
 |o::os,[],c,h=>by cases h
 |o::os,s::δ,c,h=>by
  unfold Wc at h;by_cases hf:f o=true
  ·rw[if_pos hf]at h;cases s with
   |ob b c' =>
    cases b with
    |true=>cases h;exact⟨0,o,rfl,hf,rfl⟩
    |false=>cases h
   |_=>cases h
  rw[if_neg hf]at h;obtain⟨p,o',e1,e2,e3⟩:=vm h;exact⟨p+1,o',by simpa using e1,e2,by simpa using e3⟩
theorem wm:∀{os:List α}{p q:Nat}{x y:α},(os.filter f).length=1->os[p]? = some x->f x=true->os[q]? = some y->f y=true->p=q
 | [],p,q,x,y,h,e1,_,_,_=>by simp at e1
 |o::os,p,q,x,y,h,e1,f1,e2,f2=>by
  by_cases hf:f o=true
  ·rw[List.filter_cons_of_pos hf,length_cons]at h;have nil:os.filter f=[]:=length_eq_zero_iff.mp (by lia);have no:∀(k:Nat)(z:α),os[k]? = some z->f z≠true:=fun k z e fz=>by
    have:z∈os.filter f:=mem_filter.mpr ⟨mem_of_getElem? e,fz⟩;rw[nil]at this;cases this
   cases p with
   |zero =>
    cases q with
    |zero=>rfl
    |succ q=>exact absurd f2 (no q y (by simpa using e2))
   |succ p=>exact absurd f1 (no p x (by simpa using e1))
  rw[List.filter_cons_of_neg hf]at h;cases p with
  |zero=>simp at e1;subst e1;exact absurd f1 hf
  |succ p =>
   cases q with
   |zero=>simp at e2;subst e2;exact absurd f2 hf
   |succ q=>exact congrArg (· + 1) (wm h (by simpa using e1) f1 (by simpa using e2) f2)
def A2.one_eq {o:A2}(h:o.one=true):o=.o1:=by cases o<;>first|rfl|cases h
def A2.two_eq {o:A2}(h:o.two=true):o=.o2:=by cases o<;>first|rfl|cases h
def xm (R:RD)(i j:Nat)(u:TA2):TEd:=fun δ Q=>(kC δ i).isSome=true/\(kC δ j).isSome=true/\u δ fun os δ'=>∃f1 c1 f2 c2,δ'[i]? = some (.ob f1 c1)/\δ'[j]? = some (.ob f2 c2)/\i≠j/\(os.filter A2.one).length=1/\(os.filter A2.two).length=1 /\
 vF R (fun b d δ2=>∃c1' c2',Wc A2.one os δ2=some c1'/\Wc A2.two os δ2=some c2'/\Q b d ((δ'.set i (.ob f1 c1')).set j (.ob f2 c2'))) .mk (os.map (Gg c1 c2))
def Tr{os:List A2}{Qd:Bool->D->List Slot->Prop}(sf:BB F F')(I':EI io H0 F0 F' δ' σ H')(ew1:σ[i]? = some (some w1))(ew2:σ[j]? = some (some w2))(r:Paired (A2Ok F' w1 w2) os vs)
  (q':∃f1 c1 f2 c2,δ'[i]? = some (.ob f1 c1)/\δ'[j]? = some (.ob f2 c2)/\i≠j/\(os.filter A2.one).length=1/\(os.filter A2.two).length=1 /\
   R (os.map (Gg c1 c2)) fun b d δ2=>∃c1' c2',Wc A2.one os δ2=some c1'/\Wc A2.two os δ2=some c2'/\Qd b d ((δ'.set i (.ob f1 c1')).set j (.ob f2 c2')))
  (k:∀b d v δ2 F2 H2,BB F F2->EI (none::io) H0 F0 F2 (rsl b d::δ2) (some v::σ) H2->Qd b d δ2->Q v H2):spD R (vs++[]) H' Q E:=by
 obtain⟨f1,c1,f2,c2,ec1,ec2,ne,o1,o2,q'⟩:=q';obtain⟨a1,ea1,n11,n12,hc1,hio1⟩:=I'.get i _ ec1;obtain⟨a2,ea2,n21,n22,hc2,hio2⟩:=I'.get j _ ec2;have z1:=Ec ea1;rw[ew1]at z1;cases z1;have z2:=Ec ea2;rw[ew2]at z2;cases z2;have hne:a1≠a2:=fun z=>I'.apart i j _ _ _ _ a1 ne ec1 ec2 ea1 (by rw[z];exact ea2);rw[append_nil];have lenE:os.length=vs.length:=Paired.length r;have xNe:∀b,b≠a1->b≠a2->(fun b=>if b=a1\/b=a2 then none else H' b:Hp) b=H' b:=fun b h1 h2=>if_neg (by rintro(h|h);exact h1 h;exact h2 h);have xA1:(fun b=>if b=a1\/b=a2 then none else H' b:Hp) a1=none:=if_pos (.inl rfl);have xA2:(fun b=>if b=a1\/b=a2 then none else H' b:Hp) a2=none:=if_pos (.inr rfl);generalize (fun b=>if b=a1\/b=a2 then none else H' b:Hp)=Hx at xNe xA1 xA2;have xSub:BB Hx H':=fun b o eb=>by
  by_cases h1:b=a1;rw[h1,xA1]at eb;cases eb;by_cases h2:b=a2;rw[h2,xA2]at eb;cases eb;rw[xNe b h1 h2]at eb;exact eb
 refine⟨Hx,os.map (um a1 a2),F',os.map (Gg c1 c2),_,fun p b ep=>?_,⟨xSub,I'.sub,BB.refl _,fun b o eb hb=>?_,by simp[lenE],fun p t ej=>?_,fun p l b1 x1 b2 x2 a' np g1 g2 g3 g4=>?_⟩,q',fun b d v δ2 F2 H2 C q2=>?_⟩
 ·rw[getD_eq_getElem?_getD,getElem?_map]at ep;cases eo:os[p]? with
  |none=>rw[eo]at ep;cases ep
  |some o =>
   rw[eo]at ep;obtain⟨v,ev,rv⟩:=Paired.getE r eo;cases o with
   |v d=>cases ep
   |o1=>cases ep;cases(show v=.ref _ from rv);exact ev
   |o2=>cases ep;cases(show v=.ref _ from rv);exact ev
 rw[hb]at eb;cases eb
 ·rw[getElem?_map]at ej;cases eo:os[p]? with
  |none=>rw[eo]at ej;cases ej
  |some o =>
   rw[eo]at ej;cases ej;obtain⟨v,ev,rv⟩:=Paired.getE r eo;cases o with
   |v d=>exact⟨v,by simp[getD_eq_getElem?_getD,ev],rv⟩
   |o1=>cases(show v=.ref a1 from rv);exact⟨a1,by simp[getD_eq_getElem?_getD,ev],xA1,n12,hc1,fun _=>by simp[getD_eq_getElem?_getD,eo,um]⟩
   |o2=>cases(show v=.ref a2 from rv);exact⟨a2,by simp[getD_eq_getElem?_getD,ev],xA2,n22,hc2,fun _=>by simp[getD_eq_getElem?_getD,eo,um]⟩
 ·have key:∀{p:Nat}{b:Bool}{x:D}{a:Addr},(os.map (Gg c1 c2))[p]? = some (.ob b x)->(vs.map some).getD p none=some (.ref a)->(os[p]? = some .o1/\a=a1)\/(os[p]? = some .o2/\a=a2):=fun {p b x a} g g'=>by
   rw[getElem?_map]at g;cases eo:os[p]? with
   |none=>rw[eo]at g;cases g
   |some o =>
    rw[eo]at g;obtain⟨v,ev,rv⟩:=Paired.getE r eo;have g'':v=.ref a:=by simpa[getD_eq_getElem?_getD,ev] using g'
    cases o with
    |v d=>cases g
    |o1=>cases(show v=.ref a1 from rv);cases g'';exact .inl ⟨rfl,rfl⟩
    |o2=>cases(show v=.ref a2 from rv);cases g'';exact .inr ⟨rfl,rfl⟩
  rcases key g1 g3 with ⟨y1,y2⟩|⟨y1,y2⟩<;>rcases key g2 g4 with ⟨y3,y4⟩|⟨y3,y4⟩;exact np (wm o1 y1 rfl y3 rfl);exact hne (y2.symm.trans y4);exact hne (y4.symm.trans y2);exact np (wm o2 y1 rfl y3 rfl)
 obtain⟨c1',c2',eo1,eo2,q2⟩:=q2;obtain⟨p1,x1,ep1,fx1,es1⟩:=vm eo1;cases A2.one_eq fx1;obtain⟨p2,x2,ep2,fx2,es2⟩:=vm eo2;cases A2.two_eq fx2;obtain⟨b1,eb1,m11,m12,k1,kio1⟩:=C.get (p1+1) _ (by simpa using es1);obtain⟨b2,eb2,m21,m22,k2,kio2⟩:=C.get (p2+1) _ (by simpa using es2);have eqb1:b1=a1:=by
  have h1:=kio1 rfl;simp only[getD_cons_succ]at h1;rw[getD_eq_getElem?_getD,getElem?_map,ep1]at h1;cases h1;rfl
 have eqb2:b2=a2:=by
  have h1:=kio2 rfl;simp only[getD_cons_succ]at h1;rw[getD_eq_getElem?_getD,getElem?_map,ep2]at h1;cases h1;rfl
 subst eqb1 eqb2;have hnew:∀b o,F2 b=some o->F' b=none->H' b=none\/b=b1\/b=b2:=fun b o g1 g2=>by
  by_cases h1:b=b1;exact .inr (.inl h1);by_cases h2:b=b2;exact .inr (.inr h2);have:=C.new b o g1 g2;rw[xNe b h1 h2]at this;exact .inl this
 have oth1:∀l y z a3,l≠i->δ'[l]? = some (.ob y z)->σ.getD l none=some (.ref a3)->a3≠b1:=fun l y z a3 hl g1 g2 e=>I'.apart l i _ _ _ _ b1 hl g1 ec1 (by rw[g2,e]) ea1;have oth2:∀l y z a3,l≠j->δ'[l]? = some (.ob y z)->σ.getD l none=some (.ref a3)->a3≠b2:=fun l y z a3 hl g1 g2 e=>I'.apart l j _ _ _ _ b2 hl g1 ec2 (by rw[g2,e]) ea2;have keepH:∀b o,b≠b1->b≠b2->H' b=some o->H2 b=some o:=fun b o h1 h2 e=>C.base b o (by rw[xNe b h1 h2];exact e);have isOb:∀{l:Nat}{y:Bool}{z:D},((δ'.set i (.ob f1 c1')).set j (.ob f2 c2'))[l]? = some (Slot.ob y z)->∃y2 z2,δ'[l]? = some (Slot.ob y2 z2):=fun {l y z} h=>by
  rw[getElem?_set]at h;split at h;rename_i e;subst e;exact⟨_,_,ec2⟩;rw[getElem?_set]at h;split at h;rename_i e;subst e;exact⟨_,_,ec1⟩;exact⟨_,_,h⟩
 have J:EI io H0 F0 F2 ((δ'.set i (.ob f1 c1')).set j (.ob f2 c2')) σ H2:=by
  refine⟨fun b o eb=>?_,C.sub,I'.ext.trans C.ext,fun b o e h=>?_,by simpa using I'.len,fun l t el=>?_,fun l m y1 z1 y2 z2 a' nl g1 g2 g3 g4=>?_⟩;exact keepH b o (fun z=>by rw[z,n11]at eb;cases eb) (fun z=>by rw[z,n21]at eb;cases eb) (I'.base b o eb)
  ·cases q:F' b with
   |some u=>exact I'.new b u q h
   |none =>
    rcases hnew b o e q with z|z|z;exact I'.base.free z;rw[z];exact n11;rw[z];exact n21
  ·rw[getElem?_set]at el;split at el
   ·rename_i e;subst e;split at el;cases el;exact⟨b2,ea2,n21,m22,k2,hio2⟩;cases el
   rename_i hj;rw[getElem?_set]at el;split at el
   ·rename_i e;subst e;split at el;cases el;exact⟨b1,ea1,n11,m12,k1,hio1⟩;cases el
   rename_i hi;refine(I'.get l t el).mono C.ext fun a3 b3 c3 es eo=>?_;subst es;obtain⟨a4,g1,h1,h2,h3,h4⟩:=I'.get l _ el;rw[eo]at g1;cases g1;have x1:=oth1 l _ _ _ (fun z=>hi z.symm) el eo;have x2:=oth2 l _ _ _ (fun z=>hj z.symm) el eo;refine⟨?_,fun u hu=>keepH _ _ x1 x2 hu⟩;cases q:F2 a3 with
   |none=>rfl
   |some o =>
    rcases hnew a3 o q h2 with z|z|z;obtain⟨u,hu⟩:=h3.some;rw[z]at hu;cases hu;exact absurd z x1;exact absurd z x2
  obtain⟨_,_,q1⟩:=isOb g1;obtain⟨_,_,q2⟩:=isOb g2;exact I'.apart l m _ _ _ _ a' nl q1 q2 g3 g4
 refine k b d v _ F2 H2 (sf.trans C.ext) (J.push ?_ fun b' c3 a3 es ev l y z el eo=>?_) q2
 ·have h0:=C.get 0 _ rfl;cases b with
  |false=>obtain⟨v',e,r⟩:=h0;simp at e;subst e;exact⟨v,rfl,r⟩
  |true =>
   obtain⟨a3,e,h1,h2,h3,h4⟩:=h0;simp at e;subst e;refine⟨a3,rfl,?_,h2,h3,fun z=>by cases z⟩;by_cases g1:a3=b1;rw[g1];exact n11;by_cases g2:a3=b2;rw[g2];exact n21;rw[xNe a3 g1 g2]at h1;exact I'.base.free h1
 subst ev;have h0:=C.get 0 _ rfl;cases b with
 |false=>cases es
 |true =>
  obtain⟨a5,e5,h5,_⟩:=h0;simp at e5;subst e5;rw[getElem?_set]at el;split at el;rename_i e;subst e;rw[ea2]at eo;cases eo;exact C.apart 0 (p2+1) false d true c2' _ (by lia) rfl (by simpa using es2) rfl eb2;rename_i hj;rw[getElem?_set]at el;split at el;rename_i e;subst e;rw[ea1]at eo;cases eo;exact C.apart 0 (p1+1) false d true c1' _ (by lia) rfl (by simpa using es1) rfl eb1;rename_i hi;have x1:=oth1 l _ _ _ (fun z=>hi z.symm) el eo;have x2:=oth2 l _ _ _ (fun z=>hj z.symm) el eo;rw[xNe _ x1 x2]at h5;obtain⟨a4,g1,h1,h2,h3,h4⟩:=I'.get l _ el;rw[eo]at g1;cases g1;obtain⟨u,hu⟩:=h3.some;rw[h5]at hu;cases hu
def Dz(s:Sr i j t u):Sim (z8n (spD R) [] E t) (xm R i j u):=fun io H0 F0 F δ σ H Q Qd I q k=>by
 obtain⟨p1,p2,q⟩:=q;obtain⟨d1,e1⟩:=isSome_iff_exists.mp p1;obtain⟨d2,e2⟩:=isSome_iff_exists.mp p2;obtain⟨w1,ew1,_⟩:=I.pk e1;obtain⟨w2,ew2,_⟩:=I.pk e2;exact s io H0 F0 F δ σ H w1 w2 _ _ I ew1 ew2 q fun os vs δ' F' H' sf I' r q'=>Tr sf I' ew1 ew2 r q' k
abbrev TAT:=List Slot->(List A2->D->List Slot->Prop)->Prop
def Ur (i:Nat)(te:TA)(td:TAT):Prop:=∀(io:List (Option Addr))(H0 F0 F:Hp)(δ:List Slot)(σ:L2.St)(H:Hp)(w1:V)(Q:List V->Hp->Prop)(Qd:List A2->D->List Slot->Prop),EI io H0 F0 F δ σ H->σ[i]? = some (some w1)->td δ Qd ->
 (∀os vs δ' F' H' a2 c2,BB F F'->EI (none::io) H0 F0 F' (.ob false c2::δ') (some (.ref a2)::σ) H'->Paired (A2Ok F' w1 (.ref a2)) os vs->Qd os c2 δ'->Q vs H')->te σ H Q
def DAT (X:Cx)(i:Nat)(es:List Expr)(td:TAT):Prop:=∃te,PA X es te/\Ur i te td
def dTEnd (t:TEd)(n:Int):TAT:=fun δ Q=>t δ fun b d δ'=>b=true/\Q [.o2,.v (.int n)] d δ'
def dTV (t:TEd)(u:TAT):TAT:=fun δ Q=>t δ fun _ d δ'=>u δ' fun os c δ''=>Q (.v d::os) c δ''
def dTO1 (u:TAT):TAT:=fun δ Q=>u δ fun os c δ''=>Q (.o1::os) c δ''
end
section
variable {X:Cx}{i:Nat}{a:Expr}{es:List Expr}{da:TEd}{u:TAT}
def Ez {n:Int}(ha:DE X a da)(hs:starEach [a,.Constant (.int n) k1 p1] X.env=(false,eval a X.env)::starEach [.Constant (.int n) k1 p1] X.env:=by rfl)(hs2:starEach [.Constant (.int n) k1 p1] X.env=(false,eval (.Constant (.int n) k1 p1) X.env)::starEach [] X.env:=by rfl):DAT X i [a,.Constant (.int n) k1 p1] (dTEnd da n):=by obtain⟨ta,pa,sa⟩:=ha;refine⟨_,Aa pa (Aa Ab Da hs2) hs,fun io H0 F0 F δ σ H w1 Q Qd I h1 q k=>sa io H0 F0 F δ σ H _ _ I q fun b d v δ' F' H' sf I' q'=>?_⟩;obtain⟨rfl,q'⟩:=q';obtain⟨a2,e,_⟩:=I'.get 0 _ rfl;simp at e;subst e;exact k [.o2,.v (.int n)] _ δ' F' H' a2 d sf I' (.cons rfl (.cons rfl .nil)) q'
def dT_v (ha:DE X a da)(hr:DAT X i es u)(hs:starEach (a::es) X.env=(false,eval a X.env)::starEach es X.env:=by rfl):DAT X i (a::es) (dTV da u):=by obtain⟨ta,pa,sa⟩:=ha;obtain⟨tr,pr,sr⟩:=hr;refine⟨_,Aa pa pr hs,fun io H0 F0 F δ σ H w1 Q Qd I h1 q k=>sa.fz I q fun d v δ' F' H' sf I' r q'=>sr io H0 F0 F' δ' σ H' w1 _ _ I' h1 q' fun ds vs δ2 F2 H2 a2 c2 s2 I2 r2 q2=>?_⟩;exact k (.v d::ds) (v::vs) δ2 F2 H2 a2 c2 (sf.trans s2) I2 (.cons (show Rep F2 d v from Rep.mono s2 _ _ r) r2) q2
def dT_o1(ha:PE X (.Name x p) (tVar i))(hr:DAT X i es u)(hs:starEach (.Name x p::es) X.env=(false,eval (.Name x p) X.env)::starEach es X.env:=by rfl):DAT X i (.Name x p::es) (dTO1 u):=by obtain⟨tr,pr,sr⟩:=hr;refine⟨_,Aa ha pr hs,fun io H0 F0 F δ σ H w1 Q Qd I h1 q k=>⟨w1,h1,sr io H0 F0 F δ σ H w1 _ _ I h1 q fun ds vs δ2 F2 H2 a2 c2 s2 I2 r2 q2=>?_⟩⟩;exact k (.o1::ds) (w1::vs) δ2 F2 H2 a2 c2 s2 I2 (.cons rfl r2) q2
def EI.drop1(I:EI (x::y::io) H0 F0 F (s::t::δ) (o::p::σ) H):EI (x::io) H0 F0 F (s::δ) (o::σ) H:=by
 have ix:∀l:Nat,∃m:Nat,(s::δ)[l]? = (s::t::δ)[m]?/\(o::σ).getD l none=(o::p::σ).getD m none/\(x::io).getD l none=(x::y::io).getD m none/\m=if l=0 then 0 else l+1:=fun l=>by
  cases l with
  |zero=>exact⟨0,rfl,rfl,rfl,rfl⟩
  |succ l=>exact⟨l+2,rfl,rfl,rfl,rfl⟩
 refine⟨I.base,I.sub,I.ext,I.new,by simpa using I.len,fun l u e=>?_,fun l m b c b' c' a ne e1 e2 e3 e4=>?_⟩;obtain⟨m,g1,g2,g3,_⟩:=ix l;rw[g1]at e;rw[g2,g3];exact I.get m u e;obtain⟨l',g1,g2,_,g4⟩:=ix l;obtain⟨m',k1,k2,_,k4⟩:=ix m;rw[g1]at e1;rw[k1]at e2;rw[g2]at e3;rw[k2]at e4;refine I.apart l' m' b c b' c' a (fun z=>ne ?_) e1 e2 e3 e4;rw[g4,k4]at z;split at z<;>split at z<;>lia
def Vr (R:RD)(i:Nat)(u:TAT):TEd:=fun δ Q=>(kC δ i).isSome=true/\u δ fun os c2 δ'=>∃f1 c1,δ'[i]? = some (.ob f1 c1)/\(os.filter A2.one).length=1/\(os.filter A2.two).length=1 /\
 vF R (fun b d δ2=>∃c1' c2',Wc A2.one os δ2=some c1'/\Wc A2.two os δ2=some c2'/\Q b d (δ'.set i (.ob f1 c1'))) .mk (os.map (Gg c1 c2))
def Fz(s:Ur i t u):Sim (z8n (spD R) [] E t) (Vr R i u):=fun io H0 F0 F δ σ H Q Qd I q k=>by
 obtain⟨p1,q⟩:=q;obtain⟨d1,e1⟩:=isSome_iff_exists.mp p1;obtain⟨w1,ew1,_⟩:=I.pk e1;refine s io H0 F0 F δ σ H w1 _ _ I ew1 q fun os vs δ' F' H' a2 c2 sf I' r q'=>?_;obtain⟨f1,c1,ec1,o1,o2,q'⟩:=q';refine Tr (i:=i+1) (j:=0) (Qd:=fun b d δ2=>∃s2 δ3,δ2=s2::δ3/\Qd b d δ3) sf I' (by simpa using ew1) rfl r ⟨f1,c1,false,c2,by simpa using ec1,rfl,by lia,o1,o2,?_⟩ fun b d v δ2 F2 H2 s2 I2 q2=>?_
 ·have e:(fun(b:Bool)(d:D)(δ2:List Slot)=>∃c1' c2',Wc A2.one os δ2=some c1'/\Wc A2.two os δ2=some c2'/\Qd b d (δ'.set i (.ob f1 c1')))=fun b d δ2=>∃c1' c2',Wc A2.one os δ2=some c1'/\Wc A2.two os δ2=some c2'/\∃s2 δ3,(((Slot.ob false c2::δ').set (i+1) (.ob f1 c1')).set 0 (.ob false c2'))=s2::δ3/\Qd b d δ3:=by
   funext b d δ2;apply propext;constructor;rintro⟨c1',c2',g1,g2,g3⟩;exact⟨c1',c2',g1,g2,_,_,rfl,g3⟩;rintro⟨c1',c2',g1,g2,s2,δ3,g3,g4⟩;cases g3;exact⟨c1',c2',g1,g2,g4⟩
  rw[<-e];exact q'
 obtain⟨s3,δ3,rfl,q2⟩:=q2;exact k b d v δ3 F2 H2 s2 I2.drop1 q2
end
section
variable {X:Cx}{CX:CXT}{k:Nat}{f:Addr}{fd:FuncData}{ps:List Str}{R:RD}{E:XK}{x:Str}{p pos:Pos}{e:Expr}{es:List Expr}{i j:Nat}{u:TA2}
def Gz (G:MB X.prog X.w X.K X.mg X.base CX k f fd ps (spD R))(hr:KB k X.A)(hg:Gl X x)(hm:X.mg x=some (.ref f))(hk:keepIn X.K (.ref f)=true)(hb:OB X.K fd ps [])(hx:Zd CX X E)
  (ha:DA2 X i j (e::es) u)(J0:(x == ("__debug__":Str))=false:=by decide)(he:starEach (e::es) X.env=(false,eval e X.env)::starEach es X.env:=by rfl)(K0:(backTo pos (starEach es X.env)).any (·.1)=false:=by rfl) :
  DE X (.Call (.Name x p) (e::es) [] pos) (xm R i j u):=by
 obtain⟨t,pt,s⟩:=ha;exact⟨_,ae G hr hg hm hk hb .nil hx pt J0 he K0,Dz s⟩
def Hz(G:MB X.prog X.w X.K X.mg X.base CX k f fd ps (spD R))(hr:KB k X.A)(hg:Gl X x)(hm:X.mg x=some (.ref f))(hk:keepIn X.K (.ref f)=true)(hb:OB X.K fd ps [])(hx:Zd CX X E)
  (ha:DAT X i (e::es) uT)(J0:(x == ("__debug__":Str))=false:=by decide)(he:starEach (e::es) X.env=(false,eval e X.env)::starEach es X.env:=by rfl)(K0:(backTo pos (starEach es X.env)).any (·.1)=false:=by rfl) :
  DE X (.Call (.Name x p) (e::es) [] pos) (Vr R i uT):=by
 obtain⟨t,pt,s⟩:=ha;exact⟨_,ae G hr hg hm hk hb .nil hx pt J0 he K0,Fz s⟩
end
section
variable {δ:List Slot}{Q:Bool->D->List Slot->Prop}{QL:List D->List Slot->Prop}{Q2:Bool->D->Prop}{QA:List A2->List Slot->Prop}{td:TEd}{ul:TLd}{ua:TA2}{x y:Int}
theorem x8r {x:List D}:vg [.lst x] k=k x:=rfl
def x9w:qm ul δ QL=ul δ fun ds δ'=>vg ds fun xs=>QL (wd 0 xs) δ':=by unfold qm;congr 1;funext ds δ';apply propext;constructor;rintro⟨xs,rfl,h⟩;exact h;intro h;unfold vg at h;split at h;exact⟨_,rfl,h⟩;exact h.elim
theorem x5q:Rr td δ Q=td δ fun _ d δ'=>∃ks:List Str,d=.lst (ks.map .str)/\ks.length<=4000/\Q false (.int (bD (fun i=>ks.getD i "") ks.length).length) δ':=rfl
def j8z:dSlR td δ Q=td δ fun _ d δ'=>uD d fun xs=>Q true (.lst xs.reverse) δ':=by unfold dSlR;simp only[yf]
theorem j1i {n:Int}:dTEnd td n δ QT=td δ fun b d δ'=>b=true/\QT [.o2,.v (.int n)] d δ':=rfl
theorem v_TV:dTV td uT δ QT=td δ fun _ d δ'=>uT δ' fun os c δ''=>QT (.v d::os) c δ'':=rfl
theorem j9b:dTO1 uT δ QT=uT δ fun os c δ''=>QT (.o1::os) c δ'':=rfl
theorem j0y:tm δ QA=QA [] δ:=rfl
theorem v_2V:d2V td ua δ QA=td δ fun _ d δ'=>ua δ' fun os δ''=>QA (.v d::os) δ'':=rfl
theorem j9t:d2O1 ua δ QA=ua δ fun os δ''=>QA (.o1::os) δ'':=rfl
theorem v_2O2:d2O2 ua δ QA=ua δ fun os δ''=>QA (.o2::os) δ'':=rfl
end
end VL
namespace L2
open PySem PySem.Spec PyProof.Rows PySem.SeqAt
section
variable {X:Cx}
def Iz:OpR X (compareOp .NotEq) (fun x y H Q=>∃a b c d us vs,x=.ref a/\y=.ref b/\H a=some (.lst [.ref c])/\H b=some (.lst [.ref d])/\H c=some (.lst us)/\H d=some (.lst vs)/\us.length≠vs.length/\X.A.units+2<cLine/\Q (.bl true) H):=by
 intro Q0 s σ H x y v u Q I rx ry h;obtain⟨a,b,c,d,us,vs,rfl,rfl,ha,hb,hc,hd,hl,hu,q⟩:=h;cases rx;cases ry;obtain⟨ia,ra,pa,_⟩:=I.list (SqL.of ha);obtain⟨ib,rb,pb,_⟩:=I.list (SqL.of hb);obtain⟨ic,rc,pc,_⟩:=I.list (SqL.of hc);obtain⟨id',rd,pd,_⟩:=I.list (SqL.of hd);obtain⟨va,rfl,ea⟩:=Jc ra;obtain⟨vb,rfl,eb⟩:=Jc rb;cases ea;cases eb;have lc:=rc.length;have ld:=rd.length;have ne:c≠d:=fun z=>hl (by rw[z,hd]at hc;cases hc;rfl);refine PySem.EqBoolInt.of_rcne (k:=true) ?_ (fun _=>⟨.bl true,H,I,rfl,q⟩);have:=RcNeAt.lists (A:=X.A) (e:=fun _=>false) pa.isList pb.isList rfl (by lia) fun j h1 h2=>by
  have hj:j=0:=by simp at h1;exact h1
  subst hj;exact EqAt.of_refs ne (RcAt.lists_lengths pc.isList pd.isList (by simp;lia) (by show X.A.units+1<cLine;lia))
 exact this
end
end L2
namespace VL
open PySem L2
def fNeF:D->D->(Bool->D->Prop)->Prop:=fun x y Q=>∃xs,x=.lst xs/\y=.lst [.lst []]/\((xs.length≠1/\Q false (.bl true))\/(xs=[.lst []]/\Q false (.bl false)) \/ ∃u us,xs=[.lst (u::us)]/\Q false (.bl true))
def op_neF:OpR X (compareOp .NotEq) (fun x y H Q=>(∃a b,x=.ref a/\y=.ref b/\∃xs,H a=some (.lst xs)/\∃ys,H b=some (.lst ys)/\X.A.units<cLine /\
  ((xs.length≠ys.length/\Q (.bl true) H)\/(xs.length=ys.length/\(∃n,(∀(i:Nat) x y,xs[i]? = some x->ys[i]? = some y->EqT H n x y)/\X.A.units+n+1<cLine)/\Q (.bl false) H))) \/
  ∃a b c d us vs,x=.ref a/\y=.ref b/\H a=some (.lst [.ref c])/\H b=some (.lst [.ref d])/\H c=some (.lst us)/\H d=some (.lst vs)/\us.length≠vs.length/\X.A.units+2<cLine/\Q (.bl true) H):=by
 intro Q0 s σ H x y v u Q I rx ry h;rcases h with h|h;exact Ji Q0 s σ H x y v u Q I rx ry h;exact Iz Q0 s σ H x y v u Q I rx ry h
def Jz {X:Cx}(hu:X.A.units+100<cLine):OpS (fun x y H Q=>(∃a b,x=.ref a/\y=.ref b/\∃xs,H a=some (.lst xs)/\∃ys,H b=some (.lst ys)/\X.A.units<cLine /\
  ((xs.length≠ys.length/\Q (.bl true) H)\/(xs.length=ys.length/\(∃n,(∀(i:Nat) x y,xs[i]? = some x->ys[i]? = some y->EqT H n x y)/\X.A.units+n+1<cLine)/\Q (.bl false) H))) \/
  ∃a b c d us vs,x=.ref a/\y=.ref b/\H a=some (.lst [.ref c])/\H b=some (.lst [.ref d])/\H c=some (.lst us)/\H d=some (.lst vs)/\us.length≠vs.length/\X.A.units+2<cLine/\Q (.bl true) H) fNeF:=by
 intro io H0 F0 F δ σ H x y v u Q Qd I px py q k;obtain⟨xs,rfl,rfl,q⟩:=q;rcases q with ⟨hl,q⟩|⟨rfl,q⟩|⟨z,us,rfl,q⟩;exact .inl (Bh hu io H0 F0 F δ σ H _ _ v u Q Qd I px py ⟨xs,_,rfl,rfl,.inl ⟨by simpa using hl,q⟩⟩ k);exact .inl (Bh hu io H0 F0 F δ σ H _ _ v u Q Qd I px py ⟨_,_,rfl,rfl,.inr ⟨rfl,by simp[cC,eqb],by simp[nB,dep],q⟩⟩ k);obtain⟨a,vs,rfl,ha,ra⟩:=px.lst I;obtain⟨b,ws,rfl,hb,rb⟩:=py.lst I;obtain⟨x1,rfl,c,cs,rfl,hc,rc⟩:=ra.one_inv;obtain⟨x2,rfl,d,ds,rfl,hd,rd⟩:=rb.one_inv;cases(show ds=[] from rd);have lc:=rc.len;exact .inr ⟨a,b,c,d,cs,[],rfl,rfl,ha,hb,I.sub _ _ hc,I.sub _ _ hd,by rw[<-lc];simp,by lia,k false _ _ F H (BB.refl _) (I.pushF (d:=.bl true) rfl) q⟩
def ym (R:RD)(i:Nat)(t:TEd)(u:TLd):TEd:=fun δ Q=>t δ fun _ d0 δ0=>∃K ns,δ0[i]? = some (.sc K ns)/\u δ0 fun ds δ'=>δ'[i]? = some (.sc K ns)/\vF R (fun b d _=>Q b d δ') .mk (.fz d0::.sc K ns::ds.map .fz)
section
variable {X:Cx}{CX:CXT}{k:Nat}{f:Addr}{fd:FuncData}{ps:List Str}{R:RD}{E:XK}{x y:Str}{p p' pos:Pos}{e:Expr}{es:List Expr}{t0:TEd}{u:TLd}{i:Nat}
def Kz (G:MB X.prog X.w X.K X.mg X.base CX k f fd ps (spD R))(hr:KB k X.A)(hg:Gl X x)(hm:X.mg x=some (.ref f))(hk:keepIn X.K (.ref f)=true)(hb:OB X.K fd ps [])(hx:Zd CX X E)
  (he:DE X e t0)(hv:PE X (.Name y p') (tVar i))(ha:DL X es u)(J0:(x == ("__debug__":Str))=false:=by decide)
  (hs0:starEach (e::.Name y p' :: es) X.env=(false,eval e X.env)::starEach (.Name y p' :: es) X.env:=by rfl)(hs:starEach (.Name y p' :: es) X.env=(false,eval (.Name y p') X.env)::starEach es X.env:=by rfl)(K0:(backTo pos (starEach (.Name y p' :: es) X.env)).any (·.1)=false:=by rfl) :
  DE X (.Call (.Name x p) (e::.Name y p' :: es) [] pos) (ym R i t0 u):=by
 obtain⟨t,pt,s⟩:=ha;obtain⟨te,pe,se⟩:=he;refine⟨_,ae G hr hg hm hk hb .nil hx (Aa pe (Aa hv pt hs) hs0) J0 hs0 K0,fun io H0 F0 F δ σ H Q Qd I q kk=>se.fz I q fun d0 v0 δ1 F1 H1 f1 I1 r1 q1=>?_⟩;obtain⟨K,ns,e0,q⟩:=q1;obtain⟨a,ea,sq⟩:=I1.get i _ e0;refine⟨.ref a,Ec ea,s io H0 F0 F1 δ1 σ H1 _ _ I1 q fun ds vs δ' F' H' sf I' r q'=>?_⟩;obtain⟨e1,q'⟩:=q';show spD R ((v0::.ref a::vs)++[]) H' Q E;rw[append_nil];refine⟨H',[none,none],F',.fz d0::.sc K ns::ds.map .fz,_,fun p a e=>by rcases p with _|_|p<;>simp at e,((Cg I'.sub r).push (s:=.sc K ns) (v:=.ref a) ⟨a,rfl,sf.seq sq⟩ (fun b c a e=>by cases e)).pushF (Rep.mono sf _ _ r1),q',fun b d v δ2 F2 H2 C q2=>?_⟩;exact kk b d v δ' F2 H2 ((f1.trans sf).trans C.ext) (I'.back C) q2
variable {δ:List Slot}{Q:Bool->D->List Slot->Prop}{td:TEd}{ul:TLd}
def x5r:ym R i td ul δ Q=td δ fun _ d0 δ0=>cB i δ0 fun s=>scA s fun K ns=>ul δ0 fun ds δ'=>cB i δ' fun s'=>s' = .sc K ns/\vF R (fun b d _=>Q b d δ') .mk (.fz d0::.sc K ns::ds.map .fz):=by
 unfold ym;congr 1;funext _ d0 δ0;unfold cB;have key:∀(K:W.Frag)(ns:List Int)(δ':List Slot)(A:Prop),(δ'[i]? = some (.sc K ns)/\A)=(match δ'[i]? with|some s'=>s' = .sc K ns/\A|none=>False):=by
  intro K ns δ' A;cases δ'[i]?<;>simp
 simp only[key];cases δ0[i]? with
 |none=>simp
 |some s =>
  cases s with
  |sc K ns =>
   apply propext;constructor;rintro⟨K',ns',e,h⟩;cases e;exact h;exact fun h=>⟨K,ns,rfl,h⟩
  |_=>simp[scA]
end
end VL
namespace L2
open PySem PyProof.Rows Builtin Builtin.ObjectAttr
noncomputable abbrev lC:List Str:=["__init__","__getattribute__","__getattr__","__setattr__","__class__","name","row"]
noncomputable abbrev bF:List Value:=[.type "ValueError",.type "Exception",.type "BaseException",.type "object"]
inductive Abv (h:Heap):List Value->Prop
 |base:Abv h bF
 |own {a:Addr}{cl:Value}{di:Option Addr}{k:ClassData}{sl:Array (Option Value)}{f:Str->Option Value}{l:List Value}
   (ob:h.get? a=some { cls:=cl,dict:=di,data:=.cls k,slots:=sl }) (ns:h.Ns k.ns f) (no:∀x∈lC,f x=none) (up:Abv h l):Abv h (.ref a::l)
def Abv.tail(T:Abv h l):OwnTail h bF l:=by
 induction T with
 |base=>exact .base
 |own ob ns no _ ih=>exact .own ob ns (no _ (by simp)) ih
def Abv.keeps(T:Abv h l)(hk:∀b o,h.get? b=some o->h2.get? b=some o):Abv h2 l:=by
 induction T with
 |base=>exact .base
 |own ob ns no _ ih=>exact .own (hk _ _ ob) (ns.keeps hk) no ih
def Abv.refuse(T:Abv h l)(self:Value):refuseLoop self "__setattr__" l=pure ():=by
 induction T with
 |base=>exact F.store_ValueError.passes self
 |own _ _ _ _ ih=>rw[refuseLoop_ref];exact ih
section
variable {M:Model}{A:Around}{E:Value->Shared->Prop}{h:Heap}{g:Array GenState}{d:Drawn}{t:Nat}{os:OsState}
def Abv.along(T:Abv h l)(hx:x∈lC)(e:typeLookup (.type "ValueError") x=pure y)(q:Q y ⟨h,g,d,t,os⟩) :
  wpAny M A (lookupAlong l x) Q E ⟨h,g,d,t,os⟩:=by
 induction T with
 |base =>
  have z:lookupAlong bF x=pure y:=by rw[typeLookup_eq,F.store_ValueError.mro]at e;exact e
  rw[z];exact wpAny_pure q
 |own ob ns no _ ih =>
  rw[lookupAlong_cons];refine wpAny_bind (wpAny_classOwn_cls ob ns ?_);rw[no x hx];exact ih
structure XC (h:Heap)(C:Addr)(bm:List Value)(f:Str->Option Value)(nid:String):Prop where
 ex:∃nm q N bs sn sub ab col dd k0 k1 k2 k3 k5,h.get? C=some (excClassObj nm q C N bs bm true sn sub ab col dd k0 k1 k2 k3 k5 nid)/\h.Ns N f
 up:Abv h bm
def XC.keeps(T:XC h C bm f nid)(hk:∀b o,h.get? b=some o->h2.get? b=some o):XC h2 C bm f nid:=by obtain⟨⟨nm,q,N,bs,sn,sub,ab,col,dd,k0,k1,k2,k3,k5,e,n⟩,u⟩:=T;exact⟨⟨nm,q,N,bs,sn,sub,ab,col,dd,k0,k1,k2,k3,k5,hk _ _ e,n.keeps hk⟩,u.keeps hk⟩
def XC.look(c:XC h C bm f nid)(hx:x∈lC)(e:typeLookup (.type "ValueError") x=pure y)
  (q:Q (match f x with|some v=>some v|none=>y) ⟨h,g,d,t,os⟩):wpAny M A (typeLookup (.ref C) x) Q E ⟨h,g,d,t,os⟩:=by
 obtain⟨⟨nm,qn,N,bs,sn,sub,ab,col,dd,k0,k1,k2,k3,k5,eC,n⟩,u⟩:=c;rw[typeLookup_eq];refine wpAny_bind (wpAny_mroOf_exc eC ?_);rw[lookupAlong_cons];refine wpAny_bind (wpAny_classOwn_exc eC n ?_);cases z:f x with
 |some v=>rw[z]at q;exact wpAny_pure q
 |none=>rw[z]at q;exact u.along hx e q
end
end L2
set_option maxHeartbeats 1000000
namespace L2
open PySem PyProof.Rows Builtin Builtin.ObjectAttr
section
variable {prog:Program}{w:World}{A:Around}{E:Value->Shared->Prop}{h:Heap}{g:Array GenState}{d:Drawn}{t:Nat}{os:OsState}{C x:Addr}{bm:List Value}{nid:String}{f:Str->Option Value}{a:Str}{v:Value}{vs:Array Value}{sl:Array (Option Value)}
def hasV(T:Abv h l)(e:bF.contains (.type X)=true)(C:Addr):(Value.ref C::l).contains (.type X)=true:=by rw[contains_cons,T.tail.hasType e,Bool.or_true]
def j8 (h:Heap)(x C:Addr)(vs:Array Value)(sl:Array (Option Value))(a:Str)(v:Value)(h2:Heap):Prop :=
 ∃dx,h.objs.size<=dx/\dx≠x/\h2.get? x=some { cls:=.ref C,dict:=some dx,data:=.fields vs,slots:=sl }/\h2.Ns1 dx (fun y=>if y=a then some v else none)/\∀b o,b≠x->h.get? b=some o->h2.get? b=some o
def Lz(c:XC h C bm f nid)(ha:a∈lC)(hB:typeLookup (.type "ValueError") a=pure none)(hfa:f a=none)
  (hx:h.get? x=some { cls:=.ref C,data:=.fields vs,slots:=sl })(hq:∀h2 tk2,j8 h x C vs sl a v h2->Q (.done (.ret .none)) ⟨h2,g,d,tk2,os⟩) :
  wpAny (model prog w) A (Builtin.«object.__setattr__» ⟨[.ref x,.str a tk,v],[]⟩) Q E ⟨h,g,d,t,os⟩:=by
 have hpass:=c.up.refuse (.ref x);obtain⟨nm,qn,N,bs,sn,sub,ab,col,dd,k0,k1,k2,k3,k5,eC,n⟩:=id c.ex;unfold Builtin.«object.__setattr__»;have xs:x≠h.objs.size:=ne_of_lt (lt_size hx);have x1:(h.push { cls:=.type "dict",data:=.dict #[] }).get? x=some { cls:=.ref C,data:=.fields vs,slots:=sl }:=get?_push_of_some _ hx;have gd:((h.push { cls:=.type "dict",data:=.dict #[] }).update x fun o=>{ cls:=o.cls,dict:=some h.objs.size,data:=o.data,slots:=o.slots }).get? h.objs.size=some { cls:=.type "dict",data:=.dict #[] } :=
  (Heap.get?_update_ne _ _ _ _ xs.symm).trans (get?_push_at rfl rfl)
 have nd:((h.push { cls:=.type "dict",data:=.dict #[] }).update x fun o=>{ cls:=o.cls,dict:=some h.objs.size,data:=o.data,slots:=o.slots }).Ns h.objs.size (fun _=>none) :=
  ⟨_,#[],_,gd,rfl,fun e he=>absurd he (by simp),fun _=>rfl⟩
 repeat (first|rw[refuse_eq]|(rw[refuseLoop_ref,hpass])|with_reducible refine wpAny_loadPart_at hx ?_|with_reducible refine wpAny_mroOf_exc eC ?_|(with_reducible refine c.look ha hB ?_;rw[hfa])|with_reducible refine wpAny_nsSet1 (Heap.Ns1.of_empty nd) ?_|wp_step)
 intro h2 n2 s2;obtain⟨oD,eD,pD,gD,dD,cD⟩:=n2.count (Within.cons a v Within.nil);refine wpAny_bind (wpAny_lookBehind gD (by rw[dD];exact pastItsLine_dict (le_trans cD (by rw[length_cons,length_nil,sizeLine_eq];lia))) ?_)
 wp_walk
 refine hq _ _ ⟨h.objs.size,le_refl _,xs.symm,?_,n2,fun b o hb hbo=>?_⟩;exact(s2.2 x xs).trans (get?_update_self _ x1 rfl);exact(s2.2 b (ne_of_lt (lt_size hbo))).trans ((Heap.get?_update_ne _ _ _ _ hb).trans (get?_push_of_some _ hbo))
def chk_sa(c:XC h C bm f nid)(hx:h.get? x=some { cls:=.ref C,data:=.fields vs,slots:=sl })(hq:Q () ⟨h,g,d,t,os⟩) :
  wpAny M A (checkBuiltinCall "object.__setattr__" ⟨[.ref x,z,v],[]⟩) Q E ⟨h,g,d,t,os⟩:=by
 obtain⟨nm,qn,N,bs,sn,sub,ab,col,dd,k0,k1,k2,k3,k5,eC,n⟩:=id c.ex;have SF:=F.store_ValueError;have hcB:=hasV c.up (X:="object") (by decide) C;have har:=SF.args (.ref x) z v;simp only[checkBuiltinCall,SF.kind,SF.split];refine wpAny_bind ?_;unfold isInstance
 repeat (first|with_reducible refine wpAny_loadPart_at hx ?_|(with_reducible refine wpAny_isSubtype_exc eC ?_;rw[hcB])|wp_step)
 exact hq
def Mz(c:XC h C bm f nid)(hfs:f "__setattr__" = none)(ha:a∈lC)(hB:typeLookup (.type "ValueError") a=pure none)(hfa:f a=none)
  (hx:h.get? x=some { cls:=.ref C,data:=.fields vs,slots:=sl })(hq:∀h2 tk2,j8 h x C vs sl a v h2->Q () ⟨h2,g,d,tk2,os⟩) :
  wpAny (model prog w) A (setAttr (.ref x) a v) Q E ⟨h,g,d,t,os⟩:=by
 obtain⟨nm,qn,N,bs,sn,sub,ab,col,dd,k0,k1,k2,k3,k5,eC,n⟩:=id c.ex;have SF:=F.store_ValueError;have f3:=SF.slot.bind (.ref x);have hcB:=hasV c.up (X:="object") (by decide) C;have har:=SF.args (.ref x);unfold setAttr callSpecial? specialOf
 repeat (any_goals (first|assumption|with_reducible refine wpAny_loadPart_at hx ?_|(with_reducible refine c.look (by simp) SF.slot.lookup ?_;rw[hfs])|wp_step))
 refine codeAny_call_builtin SF.slot.plain SF.entry (chk_sa c hx (Lz c ha hB hfa hx fun h2 tk2 hl=>?_))
 repeat (any_goals (first|assumption|wp_step))
 exact hq h2 tk2 hl
end
end L2
set_option maxHeartbeats 1000000
namespace L2
open PySem PyProof.Rows Builtin Builtin.ObjectAttr
section
variable {prog:Program}{w:World}{A:Around}{E:Value->Shared->Prop}{h:Heap}{g:Array GenState}{d:Drawn}{t:Nat}{os:OsState}{C x dx:Addr}{bm:List Value}{nid:String}{f mA:Str->Option Value}{a:Str}{u:Value}{o:Obj}
def Wr(c:XC h C bm f nid)(hx:h.get? x=some o)(hc:o.cls=.ref C)(hq:Q () ⟨h,g,d,t,os⟩) :
  wpAny M A (checkBuiltinCall "BaseException.__getattribute__" ⟨[.ref x,z],[]⟩) Q E ⟨h,g,d,t,os⟩:=by
 obtain⟨nm,qn,N,bs,sn,sub,ab,col,dd,k0,k1,k2,k3,k5,eC,n⟩:=id c.ex;have kd:builtinKind "BaseException.__getattribute__" = some .slot:=by decide +kernel
 have ks:splitId "BaseException.__getattribute__" = some ("BaseException","__getattribute__"):=by decide +kernel
 have hcB:=hasV c.up (X:="BaseException") (by decide) C;have har:=F.args_bexc_ga (.ref x) z;simp only[checkBuiltinCall,kd,ks];refine wpAny_bind ?_;unfold isInstance
 repeat (first|(with_reducible refine wpAny_loadPart_at hx ?_;rw[hc])|(with_reducible refine wpAny_isSubtype_exc eC ?_;rw[hcB])|wp_step)
 exact hq
def Nz(c:XC h C bm f nid)(ha:a∈lC)(hB:typeLookup (.type "ValueError") a=pure none)(hfa:f a=none)
  (hx:h.get? x=some { cls:=.ref C,dict:=some dx,data:=.fields vs,slots:=sl })(nx:h.Ns1 dx mA)(hv:mA a=some u)(hq:Q (.done (.ret u)) ⟨h,g,d,t,os⟩) :
  wpAny (model prog w) A (Builtin.«object.__getattribute__» ⟨[.ref x,.str a tk],[]⟩) Q E ⟨h,g,d,t,os⟩:=by
 have nx2:=nx.ns;obtain⟨nm,qn,N,bs,sn,sub,ab,col,dd,k0,k1,k2,k3,k5,eC,n⟩:=id c.ex
 repeat (any_goals (first|assumption|with_reducible refine wpAny_loadPart_at hx ?_|(with_reducible refine c.look ha hB ?_;rw[hfa])|with_reducible refine wpAny_loadPart_at eC ?_|(with_reducible refine wpAny_nsGet nx2 ?_;rw[hv])|wp_step))
def Oz(c:XC h C bm f nid)(hg:f "__getattribute__" = none)(hh:f "__getattr__" = none)(ha:a∈lC)(hB:typeLookup (.type "ValueError") a=pure none)(hfa:f a=none)
  (hx:h.get? x=some { cls:=.ref C,dict:=some dx,data:=.fields vs,slots:=sl })(nx:h.Ns1 dx mA)(hv:mA a=some u)(ho:handedOut u=pure u)(hq:Q u ⟨h,g,d,t+1,os⟩) :
  wpAny (model prog w) A (getAttr (.ref x) a expr) Q E ⟨h,g,d,t,os⟩:=by
 have FB:=F.attrBase_ValueError;have f3:=FB.ga.bind (.ref x);have z0:(expr&&onTheHeap (Value.builtin "BaseException.__getattribute__"))=false:=by cases expr<;>rfl
 have z2:(Value.builtin "BaseException.__getattribute__" == Value.builtin "object.__getattribute__")=false:=by decide +kernel
 have z1:(onTheHeap (Value.ref C)&&Value.builtin "BaseException.__getattribute__" == Value.builtin "object.__getattribute__")=false:=by rw[z2];rfl
 unfold getAttr
 repeat (any_goals (first|assumption|with_reducible refine wpAny_loadPart_at hx ?_|(with_reducible refine c.look (by simp) FB.ga.lookup ?_;rw[hg])|(with_reducible refine c.look (by simp) FB.noGetattr ?_;rw[hh])|wp_step))
 refine codeAny_call_builtin FB.ga.plain F.entry_bexc_ga (Wr c hx rfl (Nz c ha hB hfa hx nx hv ?_))
 repeat (any_goals (first|assumption|rw[ho]|wp_step))
end
end L2
set_option maxHeartbeats 1000000
namespace L2
open PySem PyProof.Rows
section
variable {prog:Program}{w:World}{A:Around}{E:Value->Shared->Prop}{h:Heap}{g:Array GenState}{d:Drawn}{t:Nat}{os:OsState}{C fI:Addr}{bm:List Value}{f:Str->Option Value}{us:List Value}{oI:Obj}
noncomputable abbrev fH:String:="ValueError.__new__"
noncomputable abbrev Kf (us:List Value):Obj:={ cls:=.type "tuple",data:=.seq us.toArray }
noncomputable abbrev oe (C T:Addr):Obj:={ cls:=.ref C,data:=.fields #[.ref T,.none,.none,.none,.bool false,.none] }
def Pz(c:XC h C bm f fH)(hi:f "__init__" = some (.ref fI))(hf:h.get? fI=some oI)(hfc:oI.cls=.type "function")(hl:us.length<=sizeLine)
  (hq:wpAny (model prog w) A (call (.ref fI) (.ref (h.objs.size+1)::us)) (fun r s2=>r=.none/\Q (.done (.ret (.ref (h.objs.size+1)))) s2) E ⟨(h.push (Kf us)).push (oe C h.objs.size),g,d,t,os⟩) :
  wpAny (model prog w) A (Builtin.«type.__call__» ⟨.ref C::us,[]⟩) Q E ⟨h,g,d,t,os⟩:=by
 obtain⟨nm,qn,N,bs,sn,sub,ab,col,dd,k0,k1,k2,k3,k5,eC,n⟩:=id c.ex;have Fx:=F.excBase_ValueError;have hB:bF.contains (.type "ValueError")=true:=by decide
 have kp:∀b o,h.get? b=some o->((h.push (Kf us)).push (oe C h.objs.size)).get? b=some o:=fun b o e=>get?_push_of_some _ (get?_push_of_some _ e);have c2:XC ((h.push (Kf us)).push (oe C h.objs.size)) C bm f fH:=c.keeps kp;have eC2:=kp _ _ eC;have hs:((h.push (Kf us)).push (oe C h.objs.size)).get? (h.objs.size+1)=some (oe C h.objs.size):=get?_push_at (by rw[size_push]) rfl;have hcC:(Value.ref C::bm).contains (.ref C)=true:=by simp
 repeat (first|with_reducible refine wpAny_loadPart_at eC ?_|with_reducible refine wpAny_madeBy_exc eC ?_|wp_step)
 refine codeAny_call_builtin_code (Code.quiet_builtin _ Fx.quiet) (wpAny_check_new_subU Fx hB c.up.tail eC ?_);refine codeAny_exc_new_subU Fx hB Fx c.up.tail eC ?_ hl;show wpAny _ _ _ _ _ _;unfold isInstance
 repeat (first|with_reducible refine wpAny_loadPart_at hs ?_|(with_reducible refine wpAny_isSubtype_exc eC2 ?_;rw[hcC])|wp_step)
 show wpAny _ _ (typeLookup (.ref C) _) _ _ _;refine c2.look (by simp) Fx.init.lookup ?_;rw[hi];refine wpAny_holding (wpAny_bind ?_);unfold bindSpecial;refine wpAny_bind (wpAny_typeOf (T:="function") ⟨_,kp _ _ hf,hfc⟩ ?_);rw[if_pos (by decide)];refine wpAny_pure (wpAny_bind (wpAny_mono hq (fun r s2 hr=>?_) fun _ _ z=>z));obtain⟨rfl,hr⟩:=hr
 wp_walk
 exact hr
def Qz(c:XC h C bm f fH)(hi:f "__init__" = some (.ref fI))(hf:h.get? fI=some oI)(hfc:oI.cls=.type "function")(hl:us.length<=sizeLine)
  (hq:wpAny (model prog w) (A.under (.builtin "type.__call__" ⟨.ref C::us,[]⟩)) (call (.ref fI) (.ref (h.objs.size+1)::us)) (fun r s2=>r=.none/\Q (.ref (h.objs.size+1)) s2) E ⟨(h.push (Kf us)).push (oe C h.objs.size),g,d,t,os⟩) :
  wpAny (model prog w) A (call (.ref C) us) Q E ⟨h,g,d,t,os⟩:=by
 obtain⟨nm,qn,N,bs,sn,sub,ab,col,dd,k0,k1,k2,k3,k5,eC,n⟩:=id c.ex;have f1:=tc_lookup;have f2:=tc_bind (.ref C);have hT:(⟨h,g,d,t,os⟩:Shared).TypeIs (.ref C) "type":=⟨_,eC,rfl⟩;refine wpAny_call (codeAny_of_tree ?_);show wpAny _ _ (callAny (.ref C) _) _ _ _
 repeat (any_goals (first|assumption|with_reducible refine wpAny_loadPart_at eC ?_|wp_step))
 refine⟨rfl,?_⟩;exact codeAny_call_builtin_at (Code.quiet_builtin _ (by decide +kernel)) entry_typeCall (wpAny_check_type_call_sub eC (Pz c hi hf hfc hl hq))
end
end L2
set_option maxHeartbeats 1000000
namespace L2
open PySem PyProof.Rows
def FC (h:Heap)(e C dx:Addr)(hd:Value):Prop:=∃vs sl,h.get? e=some { cls:=.ref C,dict:=some dx,data:=.fields vs,slots:=sl }/\vs[1]? = some hd
def TrOk (h:Heap)(T:Addr):Prop:=∃oT ts,h.get? T=some oT/\oT.data=.fields ts/\ts[3]? = some .none
section
variable {M:Model}{A:Around}{E:Value->Shared->Prop}{s:Shared}{base:Heap}{env:Env}{V0:List Env}{L e C dx T:Addr}
def Lf (l:List Env)(e C dx:Addr)(X:Addr->Prop)(h h2:Heap):Prop :=
 (∃T,h.objs.size<=T/\FC h2 e C dx (.ref T)/\TrOk h2 T)/\(∀b o,h.get? b=some o->b≠e->¬X b->b∉l.filterMap (·.frame)->h2.get? b=some o) /\
  ∀b o,h.get? b=some o->b≠e->¬X b->∃sl,h2.get? b=some { o with slots:=sl }
def Xr(hfr:A.frames=some (env::V0))(hl:s.heap.FunFrames base (env::V0))(hf:env.frame=some L)
  (he:s.heap.get? e=some { cls:=.ref C,dict:=some dx,data:=.fields vs,slots:=sl })(sz:1<vs.size)(hq:∀h2,Lf (env::V0) e C dx (fun _=>False) s.heap h2->Q () { s with heap:=h2 }) :
  wpAny M A (do let a <-frameOf env;let p <-entryPlaceOf L k;let b <-EntryCells.newEntry head a .none (rawInt L) .none p;setField (.ref e) 1 b) (fun _ s2=>wpAny M A (setFlight (.ref e) none) Q E s2) E s:=by
 have ne:e∉(env::V0).filterMap (·.frame):=fun m=>by
  obtain⟨_,o,ho,nf⟩:=hl.mem m;rw[he]at ho;cases ho;exact nf vs rfl
 refine wpAny_bind (wpAny_frameOf_fun hfr hl hf fun g1 r1=>?_);refine wpAny_bind (wpAny_entryPlaceOf fun p hp=>?_);unfold EntryCells.newEntry newFields;refine wpAny_bind (wpAny_newObj_type ?_ (hp.sizeOk5 _ _ _ _ _));generalize hob:(({ cls:=.type "traceback",dict:=none,data:=.fields ([head,.ref L,.none,rawInt L,.none]++(if p.isEmpty then replicate 6 Value.none else p)).toArray }:Obj))=ob;have obd:ob.data=.fields ([head,.ref L,.none,rawInt L,.none]++(if p.isEmpty then replicate 6 Value.none else p)).toArray:=by rw[<-hob]
 have obf:ob.isFreed=false:=by rw[<-hob];rfl
 have e1:g1.get? e=some { cls:=.ref C,dict:=some dx,data:=.fields vs,slots:=sl }:=(r1.2.1 e ne).trans he;have e2:=get?_push_of_some (h:=g1) ob e1;refine wpAny_setField e2 rfl sz ?_;have nTe:g1.objs.size≠e:=ne_of_gt (lt_size e1);have e3:((g1.push ob).update e (Obj.mapFields (·.setIfInBounds 1 (Value.ref g1.objs.size)))).get? e=some { cls:=.ref C,dict:=some dx,data:=.fields (vs.setIfInBounds 1 (.ref g1.objs.size)),slots:=sl } :=
  get?_update_self _ e2 rfl
 have T3:((g1.push ob).update e (Obj.mapFields (·.setIfInBounds 1 (Value.ref g1.objs.size)))).get? g1.objs.size=some ob:=(get?_update_other _ _ (Ne.symm nTe)).trans (get?_push_size g1 obf);unfold setFlight;refine wpAny_bind (wpAny_field e3 rfl (x:=.ref g1.objs.size) (by simp[sz]) ?_);rw[if_pos (show(Value.ref g1.objs.size != Value.none)=true from by simp)];refine wpAny_setField T3 obd (by simp only[size_toArray,length_append,length_cons,length_nil];lia) (hq _ ⟨⟨g1.objs.size,?_,⟨_,_,(get?_update_other _ _ nTe).trans e3,by simp[sz]⟩,_,_,get?_update_self _ T3 (Obj.isFreed_of_fields (Obj.data_mapFields obd _)),Obj.data_mapFields obd _,?_⟩,fun b o hb nb _ nf=>?_,fun b o hb nb _=>?_⟩);rw[r1.1];exact le_refl _;rcases hp with rfl|⟨_,_,_,_,_,_,_,rfl⟩<;>simp;have b1:g1.get? b=some o:=(r1.2.1 b nf).trans hb;exact(get?_update_other _ _ (ne_of_gt (lt_size b1))).trans ((get?_update_other _ _ (Ne.symm nb)).trans (get?_push_of_some _ b1));obtain⟨l2,b1⟩:=r1.2.2 b o hb;exact⟨l2,(get?_update_other _ _ (ne_of_gt (lt_size b1))).trans ((get?_update_other _ _ (Ne.symm nb)).trans (get?_push_of_some _ b1))⟩
def noted0(hfr:A.frames=some (env::V0))(hl:s.heap.FunFrames base (env::V0))(hf:env.frame=some L)(he:FC s.heap e C dx .none)
  (hq:∀h2,Lf (env::V0) e C dx (fun _=>False) s.heap h2->Q () { s with heap:=h2 }) :
  wpAny M A (noteFrame (.ref e) env) (fun _ s2=>wpAny M A (setFlight (.ref e) none) Q E s2) E s:=by
 obtain⟨vs,sl,he,h1⟩:=he;unfold noteFrame;simp only[hf];refine wpAny_bind (wpAny_field he rfl h1 ?_);rw[if_neg (by decide)];exact Xr hfr hl hf he (Array.getElem?_eq_some_iff.mp h1).1 hq
def Yr(hfr:A.frames=some (env::V0))(hl:s.heap.FunFrames base (env::V0))(hf:env.frame=some L)(he:FC s.heap e C dx (.ref T))(hT:TrOk s.heap T)(nT:T≠e)
  (hq:∀h2,Lf (env::V0) e C dx (fun b=>b=T) s.heap h2->Q () { s with heap:=h2 }) :
  wpAny M A (noteFrame (.ref e) env) (fun _ s2=>wpAny M A (setFlight (.ref e) none) Q E s2) E s:=by
 obtain⟨vs,sl,he,h1⟩:=he;obtain⟨oT,ts,gT,dT,h3⟩:=hT;unfold noteFrame;simp only[hf];refine wpAny_bind (wpAny_field he rfl h1 ?_);rw[if_pos (show(Value.ref T != Value.none)=true from by simp)];refine wpAny_bind (wpAny_field gT dT h3 ?_);rw[if_neg (show ¬((Value.none == rawInt L)=true) from by simp[rawInt])];refine wpAny_bind (wpAny_setField gT dT (Array.getElem?_eq_some_iff.mp h3).1 ?_);have oth:∀b,b≠T->(s.heap.update T (Obj.mapFields (·.setIfInBounds 3 Value.none))).get? b=s.heap.get? b:=fun b nb=>get?_update_other _ _ (Ne.symm nb);have nf:∀b o,s.heap.get? b=some o->(∀q,o.data≠.fields q)->b≠T:=fun b o hb n z=>by
  subst z;rw[gT]at hb;cases hb;exact n ts dT
 refine Xr (hfr) (hl.of_keeps fun b o hb n=>⟨o,(oth b (nf b o hb n)).trans hb,rfl⟩) hf ((oth e (Ne.symm nT)).trans he) (Array.getElem?_eq_some_iff.mp h1).1 fun h2 N=>hq h2 ?_;obtain⟨⟨T2,n2,x2,t2⟩,k,k2⟩:=N;exact⟨⟨T2,le_trans (le_of_eq (Heap.size_after_update ..).symm) n2,x2,t2⟩,fun b o hb nb nx=>k b o ((oth b nx).trans hb) nb id,fun b o hb nb nx=>k2 b o ((oth b nx).trans hb) nb id⟩
end
end L2
set_option maxHeartbeats 1000000
namespace L2
open PySem PyProof.Rows
noncomputable def XO (C dx x:Addr):HO:=.ext fun h=>∃vs sl,h.get? x=some { cls:=.ref C,dict:=some dx,data:=.fields vs,slots:=sl }
section
variable {P:Program}{w:World}{X:Cx}{Q0:List (Addr×Obj)}{σ:St}{H:Hp}{s:Shared}{x C dx T:Addr}{hd:Value}{l:List Env}{h2:Heap}
def XO.ok(o:FC h x C dx hd):HB P w H h x (XO C dx x):=by obtain⟨vs,sl,e,_⟩:=o;exact⟨⟨vs,sl,e⟩,⟨_,e⟩,fun h1 h2 ⟨vs,sl,e⟩ k=>⟨vs,sl,k _ e⟩⟩
def Zr(ok:HOk P w H s.heap)(fr:∀b∈frs l,H b=none)(hY:∀b,Y b->H b=none)(hx:H x=some (XO C dx x))(N:Lf l x C dx Y s.heap h2):HOk P w H h2:=fun a o e=>by
 obtain⟨⟨T2,_,x2,_⟩,k,k2⟩:=N;by_cases z:a=x;subst z;rw[hx]at e;cases e;exact XO.ok x2;refine(ok a o e).stay (fun b u hb q=>?_) (fun _ q=>q) fun _ _ q=>q;have tr:∃ob,H b=some ob/\b≠x:=by
  rcases hb with rfl|hb;exact⟨_,e,z⟩;refine⟨_,hb,fun r=>?_⟩;subst r;rw[hx]at hb;cases hb
 obtain⟨ob,tr,nb⟩:=tr;exact k b u q nb (fun y=>by rw[hY b y]at tr;cases tr) fun y=>by rw[fr b y]at tr;cases tr
def Rz(ok:HOk P w H s.heap)(fr:∀b∈frs l,H b=none)(hY:∀b,Y b->H b=none)(hx:H x=some (XO C dx x))(N:Lf l x C dx Y s.heap h2)(hex:∀b,Y b->b∈ex) :
  Un (frs l) ex H H s.heap h2/\HOk P w H h2:=by
 obtain⟨⟨T2,_,x2,_⟩,k,k2⟩:=id N;have nx:∀b,H b=none->b≠x:=fun b n z=>by subst z;rw[hx]at n;cases n
 refine⟨⟨fun b o e n nf ne=>k b o e (nx b n) (fun y=>ne (hex b y)) nf,fun b o e n _ ne=>k2 b o e (nx b n) fun y=>ne (hex b y),fun _ _ _ n _=>n,fun b o e ne=>?_,fun _ _ q=>q,fun _ _ _ q=>q,fun _ q=>q⟩,Zr ok fr hY hx N⟩;by_cases z:b=x;subst z;obtain⟨vs,sl,q,_⟩:=x2;exact⟨_,q⟩;obtain⟨sl,q⟩:=k2 b o e z fun y=>ne (hex b y);exact⟨_,q⟩
def CX1 (P:Program)(w:World):CXT:=fun V0 H s E e s2=>∃x C dx T H2,e=.ref x/\s2.os=s.os/\AllBare s2.gens/\Un (frs V0) [] H H2 s.heap s2.heap/\HOk P w H2 s2.heap/\H2 x=some (XO C dx x) /\
 FC s2.heap x C dx (.ref T)/\TrOk s2.heap T/\H2 T=none/\s.heap.objs.size<=x/\s.heap.objs.size<=T/\E (.ref x) (some dx) H2/\tk0<=s2.toks
def Bs (o:FC s.heap x C dx hd)(hx:H x=some (XO C dx x))(n:H T=none):T≠x:=fun z=>by subst z;rw[hx]at n;cases n
def leave {K:W.Frag} 
  (I:Inv (rC (CX1 P w) P w K mg base N qual scope f cd A V0 s0 H0 E) Q0 σ H s)(hx:H x=some (XO C dx x))(o:FC s.heap x C dx hd)
  (ht:hd=.none \/ ∃T,hd=.ref T/\TrOk s.heap T/\H T=none/\s0.heap.objs.size<=T)(nx:s0.heap.objs.size<=x)(q:E (.ref x) (some dx) H) :
  (rC (CX1 P w) P w K mg base N qual scope f cd A V0 s0 H0 E).xe (.ref x) s:=by
 have hl:=I.stack;have fr:=I.stkFree;have fin:∀(Y:Addr->Prop),(∀b,Y b->H b=none/\s0.heap.objs.size<=b)->∀h2,Lf (envOfC qual scope s0.heap.objs.size f cd::V0) x C dx Y s.heap h2->CX1 P w V0 H0 s0 E (.ref x) { s with heap:=h2 }:=fun Y hY h2 nt=>by
  obtain⟨⟨T2,n2,x2,t2⟩,k,k2⟩:=id nt;have ok:HOk P w H h2:=Zr I.hok fr (fun b y=>(hY b y).1) hx nt;have old:∀b o,s0.heap.get? b=some o->b≠x/\¬Y b/\b≠s0.heap.objs.size:=fun b o e=>by
   have lt:b<s0.heap.objs.size:=lt_size e;exact⟨fun z=>absurd nx (by subst z;exact Nat.not_le_of_lt lt),fun z=>absurd (hY b z).2 (Nat.not_le_of_lt lt),ne_of_lt lt⟩
  have B:Un (frs V0) [] H0 H s0.heap s.heap:=I.base;refine⟨x,C,dx,T2,H,rfl,I.os,I.bare,⟨fun b o e n nf _=>?_,fun b o e n nf _=>?_,fun b o e n _=>B.free b o e n (by simp),fun b o e _=>?_,B.tups,B.frzs,B.tbls⟩,ok,hx,x2,t2,I.hok.fresh n2,nx,le_trans I.sz n2,q,I.pos⟩
  ·obtain⟨y1,y2,y3⟩:=old b o e;refine k b o (B.keep b o e n nf (by simp)) y1 y2 fun z=>?_;rcases mem_cons.mp (show b∈s0.heap.objs.size::frs V0 from z) with z|z;exact y3 z;exact nf z
  obtain⟨y1,y2,y3⟩:=old b o e;obtain⟨sl,e1⟩:=B.slot b o e n nf (by simp);obtain⟨sl2,e2⟩:=k2 b _ e1 y1 y2;exact⟨sl2,e2⟩;obtain⟨y1,y2,y3⟩:=old b o e;obtain⟨o1,e1⟩:=B.there b o e (by simp);obtain⟨sl,e2⟩:=k2 b _ e1 y1 y2;exact⟨_,e2⟩
 show wpAny _ _ (leaving _ _) _ _ _;unfold leaving;rcases ht with rfl|⟨T,rfl,hT,nT,zT⟩;exact wpAny_bind (noted0 I.ok.frames hl rfl o (fin _ fun b y=>y.elim));exact wpAny_bind (Yr I.ok.frames hl rfl o hT (Bs o hx nT) (fin _ fun b y=>by cases y;exact⟨nT,zT⟩))
def zm {K:W.Frag}:
  Zd (CX1 P w) (rC (CX1 P w) P w K mg base N qual scope f cd A V0 s0 H0 E) E:=by
 intro Q0 σ H s e s2 I z;obtain⟨x,C,dx,T,H2,he,os,bare,un,ok,hx,xo,tr,hT,nx,nT,q,hp⟩:=z;subst he;have I2:=I.call' os un ok bare (fun b z=>absurd z (by simp));exact leave I2 hx xo (.inr ⟨T,rfl,tr,hT,le_trans I.sz nT⟩) (le_trans I.sz nx) q
end
end L2
set_option maxHeartbeats 1000000
namespace L2
open PySem PyProof.Rows
noncomputable def lj (K:W.Frag) (N:Addr) (l:List Str):Bool:=nsOkIn K N&&l.all fun x=>nsIn K N x == some none
noncomputable def mj (K:W.Frag):List Value->Bool
 | []=>false
 |v::r=>(v::r) == bF||match v with
  |.ref a=>(match K.lookup a with
   |some ⟨_,_,.cls k,_⟩=>lj K k.ns lC&&mj K r
   |_=>false)
  |_=>false
def Cs {K:W.Frag}(X:K.In h)(q:lj K N l=true):h.Ns N (h.nsMap N)/\∀x∈l,h.nsMap N x=none:=by unfold lj at q;simp only[and_eq_true,all_eq_true,beq_iff_eq]at q;exact⟨.of_isNs (W.isNs_of_in X q.1),fun x hx=>W.nsMap_none_of_in X q.1 (q.2 x hx)⟩
theorem Ds {K:W.Frag}(X:K.In h):∀{l:List Value},mj K l=true->Abv h l
 | [],e=>by cases e
 |v::r,e=>by
  unfold mj at e;rcases Bool.or_eq_true_iff.mp e with q|q;rw[beq_iff_eq.mp q];exact .base;split at q
  ·split at q;rename_i ho;rw[and_eq_true]at q;obtain⟨n,f⟩:=Cs X q.1;exact .own (X _ _ ho) n f (Ds X q.2);cases q
  cases q
noncomputable def clIn (K:W.Frag) (C:Addr) (bm:List Value) (g:ClassData->String->Bool):Bool:=match K.lookup C with
 |some ⟨c,_,.cls k,sl⟩=>c == .type "type"&&k.mro == .ref C::bm&&!k.hasDel&&(match sl.toList with
  | [_,_,_,_,v,_]=>(match v with|some (.builtin n)=>g k n|_=>false)
  |_=>false)
 |_=>false
def Fs {K:W.Frag}(q:clIn K C bm g=true):∃dd k k0 k1 k2 k3 n k5,K.lookup C=some ⟨.type "type",dd,.cls k,#[k0,k1,k2,k3,some (.builtin n),k5]⟩/\k.mro=.ref C::bm/\k.hasDel=false/\g k n=true:=by
 unfold clIn at q;cases e:K.lookup C with
 |none=>rw[e]at q;exact(Bool.false_ne_true q).elim
 |some o =>
  rw[e]at q;obtain⟨c,dd,p,sl⟩:=o;cases p with
  |cls k =>
   dsimp only at q;rw[and_eq_true,and_eq_true,and_eq_true]at q;obtain⟨⟨⟨h1,h2⟩,h3⟩,q⟩:=q;cases beq_iff_eq.mp h1;rcases sl with ⟨_|⟨k0,_|⟨k1,_|⟨k2,_|⟨k3,_|⟨k4,_|⟨k5,_|⟨k6,r⟩⟩⟩⟩⟩⟩⟩⟩
   case some.cls.refl.cons.cons.cons.cons.cons.cons.nil =>
    cases k4 with
    |none=>exact(Bool.false_ne_true q).elim
    |some v =>
     cases v with
     |builtin n=>exact⟨dd,k,k0,k1,k2,k3,n,k5,rfl,beq_iff_eq.mp h2,by simpa using h3,q⟩
     |_=>exact(Bool.false_ne_true q).elim
   all_goals exact(Bool.false_ne_true q).elim
  |_=>exact(Bool.false_ne_true q).elim
noncomputable def iE (K:W.Frag) (C:Addr) (bm:List Value) (fI:Addr):Bool:=clIn K C bm fun k n=>n == fH&&k.hasDict&&mj K bm&&lj K k.ns lC.tail&&nsIn K k.ns "__init__" == some (some (.ref fI))
def Sz {K:W.Frag}(X:K.In h)(G:h.Ns N mg)(e:nsIn K N n=some (some v)):mg n=some v:=by
 obtain⟨o,es,ep,ho,hd,_,hf⟩:=G;unfold nsIn at e;split at e
 ·rename_i c d es2 n2 sl q;have z:=X _ _ q;rw[ho]at z;cases z;cases hd;split at e;rename_i he;rw[<-hf];unfold nsFind findBy;rw[<-Array.find?_toList,he];simpa using e;exact absurd e (by intro z;split at z<;>cases z)
 cases e
def bf {K:W.Frag}(X:K.In h)(q:iE K C bm fI=true):∃f,XC h C bm f fH/\f "__init__" = some (.ref fI)/\∀x∈lC.tail,f x=none:=by obtain⟨dd,k,k0,k1,k2,k3,n,k5,ho,hm,hdel,q⟩:=Fs q;simp only[and_eq_true,beq_iff_eq]at q;obtain⟨⟨⟨⟨rfl,hdi⟩,ht⟩,hq⟩,hi⟩:=q;obtain⟨nm,bs,mro,ns,qn,hd,sn,sub,ab,col,del⟩:=k;dsimp only at hm hdel hq hi hdi;subst hm hdel hdi;obtain⟨n,f⟩:=Cs X hq;exact⟨h.nsMap ns,⟨⟨nm,qn,ns,bs,sn,sub,ab,col,dd,k0,k1,k2,k3,k5,X _ _ ho,n⟩,Ds X ht⟩,Sz X n hi,f⟩
end L2
set_option maxHeartbeats 1000000
namespace L2
open PySem PyProof.Rows
noncomputable def XN (C T x:Addr):HO:=.ext fun h=>h.get? x=some (oe C T)
noncomputable def XF (C dx x:Addr):HO:=.ext fun h=>FC h x C dx .none
section
variable {P:Program}{w:World}{X:Cx}{Q0:List (Addr×Obj)}{σ:St}{H:Hp}{s:Shared}{x C dx T:Addr}{h h2:Heap}{fs ex:List Addr}{o1 o2:HO}
def Un.two (mu:Mut (H x))(nd:dx≠x)(k:∀b u,b≠x->h.get? b=some u->h2.get? b=some u)(hx:∃u,h2.get? x=some u)(hp:h.objs.size<=dx)(hn:H dx=none):Un fs ex H (upd (upd H dx o1) x o2) h h2:=by
 have nx:∀b,H b=none->b≠x:=fun b n z=>by subst z;rw[n]at mu;exact mu
 have nz:∀b u,h.get? b=some u->b≠dx:=fun b u e=>ne_of_lt (lt_of_lt_of_le (lt_size e) hp);have tr:∀b u,H b=some u->¬Mut (some u)->upd (upd H dx o1) x o2 b=some u:=fun b u e m=>by
  rw[ya (fun z=>by subst z;rw[e]at mu;exact m mu),ya (Sa e hn)];exact e
 refine⟨fun b o e n _ _=>k b o (nx b n) e,fun b o e n _ _=>⟨o.slots,k b o (nx b n) e⟩,fun b o e n _=>by rw[ya (nx b n),ya (nz b o e)];exact n,fun b o e _=>?_,fun b xs e=>tr b _ e id,fun b o u e=>tr b _ e id,fun b e=>tr b _ e id⟩;by_cases z:b=x;subst z;exact hx;exact⟨o,k b o z e⟩
def HOk.two (ok:HOk P w H h)(mu:Mut (H x))(nd:dx≠x)(k:∀b u,b≠x->h.get? b=some u->h2.get? b=some u)(hp:h.objs.size<=dx)
  (n1:HB P w (upd (upd H dx o1) x o2) h2 dx o1)(n2:HB P w (upd (upd H dx o1) x o2) h2 x o2):HOk P w (upd (upd H dx o1) x o2) h2:=fun b u e=>by
 have hn:=ok.fresh hp;by_cases zx:b=x;subst zx;rw[z0g]at e;cases e;exact n2;rw[ya zx]at e;by_cases zd:b=dx;subst zd;rw[z0g]at e;cases e;exact n1;rw[ya zd]at e;have st:∀c v,H c=some v->¬Mut (some v)->upd (upd H dx o1) x o2 c=some v:=fun c v q m=>by
  rw[ya (fun z=>by subst z;rw[q]at mu;exact m mu),ya (Sa q hn)];exact q
 refine(ok b u e).stay (fun c v hc q=>k c v (fun z=>?_) q) (fun c q=>st c _ q id) fun c xs q=>st c _ q id;subst z;rcases hc with hc|hc;exact zx hc.symm;rw[hc]at mu;exact mu
def tSetX (C:Addr)(a:Str)(to tv:TE):TS:=fun D σ H=>tv σ H fun v H1=>to σ H1 fun y H2=>∃x T,y=.ref x/\H2 x=some (XN C T x)/\∀dx,H2 dx=none->dx≠x->D.nx σ (upd (upd H2 dx (.xd [(a,v)])) x (XF C dx x))
def Tz(q:iE X.K C bm fI=true)(ha:a∈(["name","row"]:List Str))(hv:PE X ev tv)(ho:PE X eo to)
  (hs:swapsWith ev (some (.Attribute eo a p)) pos.line X.env=pure false:=by rfl):PS X (.Assign [.Attribute eo a p] ev pos) (tSetX C a to tv):=by
 intro Q0 s σ H D I h;refine plainObj_wpAny_Assign_Attribute (thn (hv Q0 s σ H _ I h) fun u s1 ⟨v,H1,I1,rv,h1⟩=>thn (ho Q0 s1 σ H1 _ I1 h1) fun y s2 zq=>?_) hs;obtain⟨yv,H2,I2,ry,x,T,e,hx,h2⟩:=zq;subst e;obtain rfl:y=Value.ref x:=ry;obtain⟨hp,g,d,tk,os⟩:=s2;obtain⟨f,c,_,qt⟩:=bf I2.kIn q;obtain⟨hx0,_,_⟩:=I2.hok x _ hx;have hB:typeLookup (.type "ValueError") a=pure none:=by
  rcases mem_cons.mp ha with rfl|ha;rw[typeLookup_type,builtinLookup_eq_fast];kernel_rfl;rcases mem_cons.mp ha with rfl|ha;rw[typeLookup_type,builtinLookup_eq_fast];kernel_rfl;cases ha
 have ha2:a∈lC.tail:=by
  simp only[mem_cons,not_mem_nil,or_false]at ha;rcases ha with rfl|rfl<;>simp
 refine Mz c (qt _ (by simp)) (List.mem_of_mem_tail ha2) hB (qt a ha2) hx0 fun g2 tk2 zq=>?_;obtain⟨dx,n1,n2,gx,nx,kp⟩:=zq;have fr:H2 dx=none:=I2.hok.fresh n1;refine(fun _=>⟨σ,_,I2.un (Un.two (o1:=.xd [(a,v)]) (o2:=XF C dx x) (by rw[hx];trivial) n2 kp ⟨_,gx⟩ n1 fr) (I2.hok.two (by rw[hx];trivial) n2 kp n1 ⟨_,nx,fun y=>?_⟩ ⟨⟨_,_,gx,rfl⟩,⟨_,gx⟩,fun h1 h2 ⟨vs,sl,e,z⟩ k=>⟨vs,sl,k _ e,z⟩⟩),h2 dx fr n2⟩);by_cases z:y=a
 ·subst z;have:([(y,v)]:List (Str×V)).lookup y=some v:=by simp[List.lookup]
  rw[this,if_pos rfl];exact rv
 have:([(a,v)]:List (Str×V)).lookup y=none:=by
  have hb:(y == a)=false:=by simpa using z
  simp[List.lookup,hb]
 rw[this,if_neg z];trivial
end
end L2
set_option maxHeartbeats 1000000
namespace L2
open PySem PyProof.Rows
def Gs (C:Addr)(a:Str):Sp:=fun vs H Q _=>∃x T v,vs=[.ref x,v]/\H x=some (XN C T x)/\∀dx,H dx=none->dx≠x->Q .non (upd (upd H dx (.xd [(a,v)])) x (XF C dx x))
section
variable {P:Program}{w:World}{K:W.Frag}{mg:Str->Option Value}{base:Heap}{C fI:Addr}{bm:List Value}{a qual:Str}{st:Stmt}{fd:FuncData}
def Am(F:Fun K "__init__" qual st fI fd)(S:CB ["self",a] ["self",a] (Ca st))(hb:jc st=[.Assign [.Attribute (.Name "self" p1) a p2] (.Name a p3) pos])(q:iE K C bm fI=true)
  (ha:a∈(["name","row"]:List Str)):MB P w K mg base CX0 1 fI fd ["self",a] (Gs C a):=by
 refine F.ok S (fun vs H Q E h=>?_) (fun cdv A V0 s H vs Q E hr h=>?_);obtain⟨_,_,_,rfl,_⟩:=h;rfl;obtain⟨x,T,v,rfl,hx,h⟩:=h;have vis:∀y∈(["self",a]:List Str),Vis (Ca st) y:=fun y hy=>by
  rcases S.par y hy with z|z;exact .inl z;exact .inr (.inl z)
 have db:(a == ("__debug__":Str))=false/\(a == ("__classdict__":Str))=false:=by
  simp only[mem_cons,not_mem_nil,or_false]at ha;rcases ha with rfl|rfl<;>decide
 rw[hb];refine⟨_,Ra (Tz q ha (dg (i:=1) rfl (vis a (by simp)) db.1 db.2) (dg (i:=0) rfl (vis "self" (by simp)))) dc,?_⟩;refine⟨v,rfl,.ref x,rfl,x,T,rfl,hx,fun dx n1 n2=>h dx n1 n2⟩
def Uz(hh:A.handled=none)
  (h:wpAny M A t (fun v s1=>∃e C dx bm f,v=.ref e/\XC s1.heap C bm f fH/\FC s1.heap e C dx .none/\E (.ref e) s1) E s):wpAny M A (raiseStmt env (some t) none) Q E s:=by
 unfold raiseStmt;refine wpAny_bind (wpAny_mono h (fun v s1 h1=>?_) fun _ _ z=>z);obtain⟨e,C,dx,bm,f,rfl,c,⟨vs,sl,he,hv⟩,hE⟩:=h1;obtain⟨hp,g,d,tk,os⟩:=s1;obtain⟨nm,qn,N,bs,sn,sub,ab,col,dd,k0,k1,k2,k3,k5,eC,n⟩:=id c.ex;have hcB:=hasV c.up (X:="BaseException") (by decide) C
 repeat (first|with_reducible refine wpAny_field he rfl hv ?_|with_reducible refine wpAny_loadPart_at he ?_|with_reducible refine wpAny_loadPart_at eC ?_|(with_reducible refine wpAny_isSubtype_exc eC ?_;rw[hcB])|wp_step)
 exact wpAny_raiseNew_none hh hE
end
end L2
set_option maxHeartbeats 1000000
namespace L2
open PySem PyProof.Rows
def q2j (C:Addr)(a:Str)(E:XK)(t:TA):TS:=fun _ σ H=>t σ H fun vs H1=>∃v,vs=[v]/\∀x dx,H1 x=none->H1 dx=none->dx≠x->E (.ref x) (some dx) (upd (upd H1 dx (.xd [(a,v)])) x (XO C dx x))
section
variable {P:Program}{w:World}{K:W.Frag}{mg:Str->Option Value}{base:Heap}{C fI:Addr}{bm:List Value}{a:Str}{fd:FuncData}
structure XK1 (P:Program)(w:World)(K:W.Frag)(mg:Str->Option Value)(base:Heap)(cn a:Str)(C:Addr):Prop where
 ex:∃bm fI fd,iE K C bm fI=true/\MB P w K mg base CX0 1 fI fd ["self",a] (Gs C a)/\OB K fd ["self",a] []/\∃o,K.lookup fI=some o/\o.cls=.type "function"
 g:mg cn=some (.ref C)
 kp:keepIn K (.ref C)=true
def Vz(c:XK1 X.prog X.w X.K X.mg X.base cn a C)(hr:KB 2 X.A)(I:Inv X Q0 σ H s)(r:GB v u)
  (h:∀x dx s2,H x=none->H dx=none->dx≠x->s.heap.objs.size<=x->Inv X Q0 σ (upd (upd H dx (.xd [(a,v)])) x (XF C dx x)) s2->(∃bm f,XC s2.heap C bm f fH)->Q (.ref x) s2) :
  wpAny (model X.prog X.w) X.A (call (.ref C) [u]) Q X.xe s:=by
 obtain⟨⟨bm,fI,fd,q,F,hb,oI,lk,fc⟩,g,kp⟩:=c;obtain⟨f,c,hi,_⟩:=bf I.kIn q;obtain⟨hp,gs,d,tk,os⟩:=s;refine Qz c hi (I.kIn _ _ lk) fc (by simp[sizeLine_eq]) ?_;have gx:((hp.push (Kf [u])).push (oe C hp.objs.size)).get? (hp.objs.size+1)=some (oe C hp.objs.size):=get?_push_at (by rw[size_push]) rfl;have I2:Inv X Q0 σ (upd H (hp.objs.size+1) (XN C hp.objs.size (hp.objs.size+1))) ⟨(hp.push (Kf [u])).push (oe C hp.objs.size),gs,d,tk,os⟩ :=
  I.laid (fun b o e=>get?_push_of_some _ (get?_push_of_some _ e)) (le_succ _) ⟨gx,⟨_,gx⟩,fun h1 h2 e k=>k _ e⟩
 have nx:H (hp.objs.size+1)=none:=I.hok.fresh (le_succ _);have rv:EB [V.ref (hp.objs.size+1),v] [Value.ref (hp.objs.size+1),u]:=.cons rfl (.cons r .nil);refine wpAny_call (codeAny_with_toks (n:=tk0) I2.pos (codeAny_mono (F.run _ X.stack _ _ ⟨[.ref (hp.objs.size+1),u],[]⟩ [.ref (hp.objs.size+1),u] _ (fun z H2=>z=.non/\∃dx,H dx=none/\dx≠hp.objs.size+1/\H2=upd (upd H dx (.xd [(a,v)])) (hp.objs.size+1) (XF C dx (hp.objs.size+1))) E0 ((hr.make C [u] []).mono (by lia))
  (I2.env0.make C [u] []) (by simpa using hb _ [.ref (hp.objs.size+1),u] I2.kIn rfl) rv ⟨_,_,v,rfl,z0g,fun dx n1 n2=>⟨rfl,dx,?_,n2,?_⟩⟩) fun r s2 hq hk2=>?_))
 rw[ya n2]at n1;exact n1
 ·funext b;unfold upd;by_cases z:b=hp.objs.size+1;simp[z];simp[z]
 cases r with
 |error e=>exact False.elim hq
 |ok fl =>
  cases fl with
  |ret u2 =>
   obtain⟨z,H2,I3,rz,e1,dx,n1,n2,e2⟩:=I2.after hq hk2;subst e1;subst e2;exact⟨rz,h _ dx s2 nx n1 n2 (le_succ _) I3 (let ⟨f,c,_⟩:=bf I3.kIn q;⟨_,f,c⟩)⟩
  |next=>exact False.elim hq
  |brk=>exact False.elim hq
  |cont=>exact False.elim hq
def Bm 
  (c:XK1 P w K mg base cn a C)(hr:KB 2 (rC (CX1 P w) P w K mg base N qual scope f cd A V0 s0 H0 E).A)(hg:Gl (rC (CX1 P w) P w K mg base N qual scope f cd A V0 s0 H0 E) cn)
  (ha:PA (rC (CX1 P w) P w K mg base N qual scope f cd A V0 s0 H0 E) [e] t)(J0:(cn == ("__debug__":Str))=false:=by decide)
  (he:starEach [e] (rC (CX1 P w) P w K mg base N qual scope f cd A V0 s0 H0 E).env=(false,eval e (rC (CX1 P w) P w K mg base N qual scope f cd A V0 s0 H0 E).env)::starEach [] (rC (CX1 P w) P w K mg base N qual scope f cd A V0 s0 H0 E).env:=by rfl) :
  PS (rC (CX1 P w) P w K mg base N qual scope f cd A V0 s0 H0 E) (.Raise (some (.Call (.Name cn p) [e] [] cpos)) none pos) (q2j C a E t):=by
 intro Q0 s σ H D I h;rw[arm_exec_Raise];refine wpAny_bind (wpAny_standAt (Uz (I.ok.hd rfl) ?_));refine wpAny_bind (wpAny_mono (wpAny_Call_Name_kw (ig I hg c.g ?_ J0)) (fun v s2 h2=>wpAny_bind (wpAny_standAt (wpAny_pure h2))) fun _ _ z=>z);refine callWith_K (h₀:=base) I.ok.mod.kin c.kp (thn (ha cpos Q0 s σ H _ I h) fun us s1 zq=>?_) he rfl;obtain⟨vs,H1,I1,r,v,e1,h1⟩:=zq;refine⟨I1.kIn,?_⟩;subst e1;obtain⟨u,rfl,ru⟩:=Jc r;refine Vz c hr I1 ru fun x dx s2 n1 n2 n3 n4 I2 ⟨bm,f2,xc⟩=>?_;have hx:∃vs sl,s2.heap.get? x=some { cls:=.ref C,dict:=some dx,data:=.fields vs,slots:=sl }/\vs[1]? = some .none:=by
  obtain⟨⟨vs,sl,e1,e2⟩,_,_⟩:=I2.hok x _ z0g;exact⟨vs,sl,e1,e2⟩
 have xo:FC s2.heap x C dx .none:=hx;refine⟨x,C,dx,bm,f2,rfl,xc,xo,?_⟩;have I3:Inv (rC (CX1 P w) P w K mg base N qual scope f cd A V0 s0 H0 E) Q0 σ (upd (upd (upd H1 dx (.xd [(a,v)])) x (XF C dx x)) x (XO C dx x)) s2:=by
  have:=I2.write (x:=x) (e:=x) (o:=XO C dx x) (h':=s2.heap) (t':=s2.toks) (by rw[z0g];trivial) (.inl rfl) (fun b u _ q=>q) (by obtain⟨_,_,q,_⟩:=hx;exact⟨_,q⟩) (XO.ok xo);exact this
 rw[Dv]at I3;exact leave I3 z0g xo (.inl rfl) (le_trans I1.sz n4) (h1 x dx n1 n2 n3)
end
end L2
set_option maxHeartbeats 1000000
namespace L2
open PySem PyProof.Rows
section
variable {X:Cx}{Q0:List (Addr×Obj)}{σ:St}{H:Hp}{s:Shared}{M:Model}{A:Around}{E:Value->Shared->Prop}
def Inv.frame(I:Inv X Q0 σ H s)(hs:Heap.SameBut X.env.locals s.heap h2)(hn:h2.Ns X.env.locals m)
  (hl:∀(i:Nat)(x:Str)(v:V),X.N[i]? = some x->σ2[i]? = some (some v)->Vis X.env.scope x->∃u,GB v u/\Look X.env h2 m x u)(hz:σ2.length=σ.length):Inv X Q0 σ2 H { s with heap:=h2 }:=by
 have nb:∀b o,X.s₀.heap.get? b=some o->b≠X.env.locals:=fun b o e=>ne_of_lt (lt_of_lt_of_le (lt_size e) I.ok.above);have tr:HOk X.prog X.w H h2:=fun b ob e=>by
  refine(I.hok b ob e).stay (fun c u hc q=>(hs.2 c ?_).trans q) (fun _ q=>q) fun _ _ q=>q;rintro rfl;rcases hc with rfl|hc;rw[I.free]at e;cases e;rw[I.free]at hc;cases hc
 refine⟨I.ok,I.os,I.bare,⟨fun b o e n hb hx=>(hs.2 b (nb b o e)).trans (I.base.keep b o e n hb hx),fun b o e n hb hx=>?_,I.base.free,fun b o e hx=>?_,I.base.tups,I.base.frzs,I.base.tbls⟩,⟨m,hn,hl⟩,fun y c e=>?_,I.free,I.freeC,fun p hp=>?_,tr,hz.trans I.len,I.pos⟩;obtain⟨sl,e1⟩:=I.base.slot b o e n hb hx;exact⟨sl,(hs.2 b (nb b o e)).trans e1⟩;obtain⟨o1,e1⟩:=I.base.there b o e hx;exact⟨o1,(hs.2 b (nb b o e)).trans e1⟩;obtain⟨u,z⟩:=I.cell y c e;exact⟨u,z.sameBut hs (I.cne y c e)⟩;obtain⟨e,n,ne,nf,d⟩:=I.pin p hp;exact⟨(hs.2 p.1 ne).trans e,n,ne,nf,d⟩
def unname(I:Inv X Q0 σ H s)(hN:X.N.Nodup)(hi:X.N[i]? = some n)(hx:X.env.kindOf n=some .local)(h:∀s2,Inv X Q0 (σ.set i none) H s2->Q () s2) :
  wpAny M A (do bindName X.env n .none;unbindBehindTheSuite X.env n pos) Q E s:=by
 have hk:X.env.scope.names.lookup n=some .local:=hx;refine wpAny_bind (wpAny_bindName (ki (v:=.non) I hN hi (.inl hk) rfl (fun s1 I1=>?_) (.inr hk)));unfold unbindBehindTheSuite;refine wpAny_onRaise ?_;obtain⟨m,hn,hl⟩:=I1.loc;have hiσ:i<σ.length:=by rw[I.len];exact(List.getElem?_eq_some_iff.mp hi).1
 obtain⟨u,ru,lk⟩:=hl i n .non hi (by rw[getElem?_set_self hiσ]) (.inl hk);have hm:m n=some u:=by
  rcases lk with ⟨_,e⟩|⟨k,_⟩;exact e;rw[hx]at k;rcases k with k|k<;>cases k
 refine wpAny_unbindName_local hx hn hm (by rw[I.ok.kind];rfl) fun h2 u2 hn2 hs=>h _ ?_;refine I1.frame (σ2:=σ.set i none) hs hn2 (fun j y v e1 e2 e3=>?_) (by simp);by_cases hj:j=i;subst hj;rw[getElem?_set_self hiσ]at e2;cases e2;rw[getElem?_set_ne (Ne.symm hj)]at e2;obtain⟨u3,r3,q⟩:=hl j y v e1 (by rw[getElem?_set_ne (Ne.symm hj)];exact e2) e3;refine⟨u3,r3,?_⟩;have ny:y≠n:=fun z=>hj (jk hN e1 (z ▸ hi));rcases q with ⟨k,e⟩|⟨k,c,e,z⟩;exact .inl ⟨k,by simp[ny,e]⟩;exact .inr ⟨k,c,e,z.sameBut hs (I1.cne y c e)⟩
noncomputable abbrev Cx.in_ (X:Cx) (e:Value):Cx:={ X with A:=X.A.mark (some e),calm:=false }
def Cx.Ok.in_(ok:X.Ok):(X.in_ e).Ok :=
 ⟨ok.mod,ok.kind,ok.glob,ok.blt,ok.above,ok.inj,ok.has,ok.cab,(fun z=>nomatch z),ok.frames,ok.stk,ok.exf,ok.bs,ok.bsz,ok.noex,ok.exfs,ok.funs,ok.frf,ok.lam⟩
def Inv.in_(I:Inv X Q0 σ H s):Inv (X.in_ e) Q0 σ H s:=⟨I.ok.in_,I.os,I.bare,I.base,I.loc,I.cell,I.free,I.freeC,I.pin,I.hok,I.len,I.pos⟩
noncomputable def xH (K:W.Frag) (C:Addr):Bool:=clIn K C bF fun _ _=>true
def fx_of {K:W.Frag}(Y:K.In h)(q:xH K C=true):∃nm q N bs hd sn sub ab col dd k0 k1 k2 k3 k5 nid,h.get? C=some (excClassObj nm q C N bs bF hd sn sub ab col dd k0 k1 k2 k3 k5 nid):=by obtain⟨dd,k,k0,k1,k2,k3,n,k5,ho,hm,hdel,-⟩:=Fs q;obtain⟨nm,bs,mro,ns,qn,hd,sn,sub,ab,col,del⟩:=k;dsimp only at hm hdel;subst hm hdel;exact⟨nm,qn,ns,bs,hd,sn,sub,ab,col,dd,k0,k1,k2,k3,k5,n,Y _ _ ho⟩
def exm {K:W.Frag}(Y:K.In s.heap)(q:xH K CF=true)(c:XC s.heap C bm f fH)(hb:bm.contains (.ref CF)=true)(o:FC s.heap x C dx hd)(h:Q true s) :
  wpAny M A (excMatches (.ref x) (.ref CF)) Q E s:=by
 obtain⟨hp,g,d,t,os⟩:=s;obtain⟨nm,qn,N,bs,sn,sub,ab,col,dd,k0,k1,k2,k3,k5,eC,n⟩:=id c.ex;obtain⟨nm2,q2,N2,bs2,hd2,sn2,sub2,ab2,col2,dd2,j0,j1,j2,j3,j5,nid2,eF⟩:=fx_of Y q;obtain⟨vs,sl,he,_⟩:=o;have hcB:(Value.ref CF::bF).contains (.type "BaseException")=true:=by rw[contains_cons];simp
 have hcC:(Value.ref C::bm).contains (.ref CF)=true:=by rw[contains_cons,hb,Bool.or_true]
 have f:=tc_notTuple;unfold excMatches
 repeat (first|with_reducible refine wpAny_loadPart_at he ?_|with_reducible refine wpAny_loadPart_at eF ?_|(with_reducible refine wpAny_isSubtype_exc eF ?_;rw[hcB])|(with_reducible refine wpAny_isSubtype_exc eC ?_;rw[hcC])|wp_step)
 exact h
end
end L2
set_option maxHeartbeats 1000000
namespace L2
open PySem PyProof.Rows
def Hs (K:W.Frag)(CF C:Addr):Prop:=∃bm fI,iE K C bm fI=true/\bm.contains (.ref CF)=true
def tTry (K:W.Frag)(CF:Addr)(sp:Sp)(t:TA)(ie iy:Nat):TS:=fun D σ H=>t σ H fun vs H1=>sp vs H1 (fun _ H2=>D.nx σ H2) (fun e od H2=>∃x C dx,e=.ref x/\od=some dx/\H2 x=some (XO C dx x)/\Hs K CF C /\
 D.nx (((σ.set ie (some (.ref x))).set iy (some (.ref x))).set ie none) H2)
section
variable {X:Cx}{Q0:List (Addr×Obj)}{σ:St}{H:Hp}{s:Shared}{M:Model}{A:Around}{E:Value->Shared->Prop}{CF x C dx T:Addr}
def Inv.out_(ok:X.Ok)(I:Inv (X.in_ e) Q0 σ H s):Inv X Q0 σ H s:=⟨ok,I.os,I.bare,I.base,I.loc,I.cell,I.free,I.freeC,I.pin,I.hok,I.len,I.pos⟩
def Js(I:Inv X Q0 σ H s1)(n:s1.heap.objs.size<=T):∀b∈[T],(b∈X.ex\/X.s₀.heap.objs.size<=b)/\b≠X.env.locals/\(∀x c,X.env.cells.lookup x=some c->c≠b)/\∀p∈X.pn++Q0,p.1≠b:=fun b hb=>by
 cases mem_singleton.mp hb;have lt:∀c o,s1.heap.get? c=some o->c≠T:=fun c o e=>ne_of_lt (lt_of_lt_of_le (lt_size e) n);refine⟨.inr (le_trans I.sz n),?_,fun y c e=>?_,fun p hp=>?_⟩;exact Ne.symm (ne_of_lt (lt_of_lt_of_le I.lt n));obtain⟨v,o,ho,_⟩:=I.cell y c e;exact lt c o ho;obtain⟨e,_⟩:=I.pin p hp;exact lt p.1 _ e
def Wz(I:Inv X Q0 σ H s)(I0:X.stack=X.env::X.V0/\X.env.frame=some X.env.locals)(hne:X.xe=fun _ _=>False)
  (hN:X.N.Nodup)(hi:X.N[ie]? = some n)(hl:X.env.kindOf n=some .local)(hy:X.N[iy]? = some y)(hyl:Loc X.env.scope y)(hyf:X.fn y=true\/X.env.scope.names.lookup y=some .local)(gcf:Gl X cf)(mcf:X.mg cf=some (.ref CF))(qcf:xH X.K CF=true)(bl:Hs X.K CF C)
  (os:s2.os=s.os)(bare:AllBare s2.gens)(un:Un (frs X.stack) [] H H2 s.heap s2.heap)(ok:HOk X.prog X.w H2 s2.heap)(hx:H2 x=some (XO C dx x))(xo:FC s2.heap x C dx (.ref T))(tr:TrOk s2.heap T)(hT:H2 T=none)(nT:s.heap.objs.size<=T)(hk:tk0<=s2.toks)
  (hd:(cf == ("__debug__":Str))=false)(hdn:(n == ("__debug__":Str))=false)(hcn:(n == ("__classdict__":Str))=false)
  (hs:swapsWith (.Name n p4) (some (.Name y p3)) p5.line X.env=pure false)
  (q:D.nx (((σ.set ie (some (.ref x))).set iy (some (.ref x))).set ie none) H2) :
  wpAny (model X.prog X.w) X.A (noteFrame (.ref x) X.env) (fun _ s3=>wpAny (model X.prog X.w) X.A (setFlight (.ref x) none) (fun _ s4=>wpAny (model X.prog X.w) X.A (handleBy (.ref x) X.env [.ExceptHandler (some (.Name cf p2)) (some n) [.Assign [.Name y p3] (.Name n p4) p5] hpos]) (SP X Q0 D) E s4) E s3) E s2:=by
 have I1:Inv X Q0 σ H2 s2:=I.call' os un ok bare (fun b z=>absurd z (by simp));have sz:s.heap.objs.size<=s2.heap.objs.size:=by
  obtain⟨bm,fI,q1,q2⟩:=bl;cases Nat.lt_or_ge s2.heap.objs.size s.heap.objs.size with
  |inr h=>exact h
  |inl h =>
   obtain⟨_,_,g,_⟩:=tr;exact absurd (lt_of_lt_of_le (lt_trans (lt_size g) h) nT) (lt_irrefl _)
 have fr:X.A.frames=some (X.env::X.V0):=by rw[<-I0.1];exact I.ok.frames
 refine Yr (base:=X.base) fr (by rw[<-I0.1];exact I1.stack) I0.2 xo tr (Bs xo hx hT) fun h2 nt=>?_;obtain⟨⟨T2,n2,x2,t2⟩,k,k2⟩:=id nt;have nt2:Lf X.stack x C dx (fun b=>b=T) s2.heap h2:=by rw[I0.1];exact nt
 obtain⟨un2,ok2⟩:=Rz (P:=X.prog) (w:=X.w) (ex:=[T]) I1.hok I1.stkFree (fun b z=>by rw[z];exact hT) hx nt2 (fun b z=>by simp[z]);have chT:∀b∈[T],(b∈X.ex\/X.s₀.heap.objs.size<=b)/\b≠X.env.locals/\(∀x c,X.env.cells.lookup x=some c->c≠b)/\∀p∈X.pn++Q0,p.1≠b:=Js I nT;have I2:Inv X Q0 σ H2 { s2 with heap:=h2 }:=I1.call' rfl un2 ok2 bare chT;have hT2:H2 T2=none:=I1.hok.fresh n2;obtain⟨bm,fI,qC,hbm⟩:=bl;refine wpAny_handleBy_cons (codeAny_handlers_test ?_) (by intro z;cases z);refine ig (X:=X.in_ (.ref x)) I2.in_ gcf mcf ?_ hd;obtain⟨f,xc,_⟩:=bf I2.kIn qC;refine exm I2.kIn qcf xc hbm x2 ?_;refine codeAny_handlers_suite_as ?_;obtain⟨vs,sl,gx,hv⟩:=id x2;obtain⟨oT,ts,gT,dT,h3⟩:=id t2;refine wpAny_setFlight_none gx rfl hv gT dT (Array.getElem?_eq_some_iff.mp h3).1 ?_;have nTx:T2≠x:=fun z=>by rw[z,hx]at hT2;cases hT2
 have kp:∀b o,b≠T2->h2.get? b=some o->(h2.update T2 (Obj.mapFields (·.setIfInBounds 3 .none))).get? b=some o:=fun b o nb e=>(get?_update_other _ _ (Ne.symm nb)).trans e;have un3:Un (frs X.stack) [T2] H2 H2 h2 (h2.update T2 (Obj.mapFields (·.setIfInBounds 3 .none))) :=
  ⟨fun b o e _ _ nb=>kp b o (by simpa using nb) e,fun b o e _ _ nb=>⟨o.slots,kp b o (by simpa using nb) e⟩,fun _ _ _ n _=>n,fun b o e nb=>⟨o,kp b o (by simpa using nb) e⟩,fun _ _ z=>z,fun _ _ _ z=>z,fun _ z=>z⟩
 have ok3:HOk X.prog X.w H2 (h2.update T2 (Obj.mapFields (·.setIfInBounds 3 .none))):=fun b o e=>by
  refine(I2.hok b o e).stay (fun c u hc z=>kp c u (fun r=>?_) z) (fun _ z=>z) fun _ _ z=>z;subst r;rcases hc with rfl|hc;rw[hT2]at e;cases e;rw[hT2]at hc;cases hc
 have I3:Inv X Q0 σ H2 { s2 with heap:=h2.update T2 (Obj.mapFields (·.setIfInBounds 3 .none)) }:=I2.call' rfl un3 ok3 bare (Js I (le_trans sz n2));refine ki (v:=.ref x) I3 hN hi (.inl hl) rfl (fun s4 I4=>?_) (.inr hl);have body:PSs (X.in_ (.ref x)) [.Assign [.Name y p3] (.Name n p4) p5] _:=Ra (Cb hN hy hyl (dg hi (.inl hl) hdn hcn) hs hyf) dc;have hiσ:ie<σ.length:=by rw[I.len];exact(List.getElem?_eq_some_iff.mp hi).1
 refine tH (body Q0 s4 _ H2 { nx:=fun σ' H'=>σ' = (σ.set ie (some (.ref x))).set iy (some (.ref x))/\H' = H2,rt:=fun _ _=>False } I4.in_ ⟨.ref x,by rw[getElem?_set_self hiσ],rfl,rfl⟩) (fun fl s5 h5=>?_) fun e s5 h5=>?_
 ·cases fl with
  |next =>
   obtain⟨σ5,H5,I5,rfl,rfl⟩:=h5;exact unname (I5.out_ I.ok) hN hi hl fun s6 I6 _=>⟨_,_,I6,q⟩
  |ret u=>obtain⟨_,_,_,_,_,z⟩:=h5;exact z.elim
  |brk=>obtain⟨_,_,_,z⟩:=h5;exact z.elim
  |cont=>obtain⟨_,_,_,z⟩:=h5;exact z.elim
 have z:X.xe e s5:=h5;rw[hne]at z;exact z.elim
end
end L2
set_option maxHeartbeats 1000000
namespace L2
open PySem PyProof.Rows
section
variable {X:Cx}
def ps_try 
  (F:MB X.prog X.w X.K X.mg X.base (CX1 X.prog X.w) k f fd ps sp)(hr:KB k X.A)(hg:Gl X g)(hm:X.mg g=some (.ref f))(hk:keepIn X.K (.ref f)=true)(hb:OB X.K fd ps [])(ha:PA X (e::es) t)
  (I0:X.stack=X.env::X.V0/\X.env.frame=some X.env.locals)(hne:X.xe=fun _ _=>False)(hN:X.N.Nodup)(hi:X.N[ie]? = some n)(hl:X.env.kindOf n=some .local)(hy:X.N[iy]? = some y)(hyl:Loc X.env.scope y)
  (hyf:X.fn y=true\/X.env.scope.names.lookup y=some .local)(gcf:Gl X cf)(mcf:X.mg cf=some (.ref CF))(qcf:xH X.K CF=true)
  (hd:(cf == ("__debug__":Str))=false:=by decide)(hdn:(n == ("__debug__":Str))=false:=by decide)(hcn:(n == ("__classdict__":Str))=false:=by decide)(hdg:(g == ("__debug__":Str))=false:=by decide)
  (hs:swapsWith (.Name n p4) (some (.Name y p3)) p5.line X.env=pure false:=by rfl)(he:starEach (e::es) X.env=(false,eval e X.env)::starEach es X.env:=by rfl)(K0:(backTo cpos (starEach es X.env)).any (·.1)=false:=by rfl)
  (hse:swapsWith (.Call (.Name g pg) (e::es) [] cpos) none epos.line X.env=pure false:=by rfl) :
  PS X (.Try [.Expr (.Call (.Name g pg) (e::es) [] cpos) epos] [.ExceptHandler (some (.Name cf p2)) (some n) [.Assign [.Name y p3] (.Name n p4) p5] hpos] [] [] pos) (tTry X.K CF sp t ie iy):=by
 intro Q0 s σ H D I h;refine wpAny_Try_except (wpAny_execs_cons ?_);refine wpAny_Expr_any ?_ I.quiet hse;refine wpAny_Call_Name_kw (ig I hg hm ?_ hdg);refine callWith_K (h₀:=X.base) I.ok.mod.kin hk (tH (ha cpos Q0 s σ H _ I h) (fun us s1 ⟨vs,H1,I1,r,q⟩=>⟨I1.kIn,?_⟩) fun e s1 z=>?_) he K0
 ·have hl2:(us++[]).length=ps.length:=by rw[append_nil,<-r.length];exact F.len _ _ _ _ q
  have bt:=hb s1 us I1.kIn hl2;rw[append_nil]at bt;refine wpAny_call (codeAny_with_toks (n:=tk0) I1.pos (codeAny_mono (F.run X.A X.stack s1 H1 ⟨us,[]⟩ us vs _ _ hr I1.env0 bt r q) fun r2 s2 hq hk=>?_));cases r2 with
  |error e =>
   obtain⟨x,C,dx,T,H2,rfl,os,bare,un,ok,hx,xo,tr,hT,nx,nT,⟨x2,C2,dx2,e1,e2,hx2,bl,q⟩,_⟩:=hq;cases e1;cases e2;have eC:C2=C:=by
    obtain⟨⟨v1,l1,g1⟩,_⟩:=ok x _ hx2;obtain⟨v2,l2,g2,_⟩:=xo;rw[g1]at g2;cases g2;rfl
   subst eC;exact Wz I1 I0 hne hN hi hl hy hyl hyf gcf mcf qcf bl os bare un ok hx xo tr hT nT hk hd hdn hcn hs q
  |ok fl =>
   cases fl with
   |ret u =>
    obtain⟨v,H2,I2,rv,q2⟩:=I1.after hq hk;exact wpAny_execs_nil (wpAny_execs_nil (fun _=>⟨σ,H2,I2,q2⟩))
   |next=>exact False.elim hq
   |brk=>exact False.elim hq
   |cont=>exact False.elim hq
 rw[hne]at z;exact z.elim
end
end L2
set_option maxHeartbeats 1000000
namespace L2
open PySem PyProof.Rows Builtin Builtin.ObjectAttr
theorem Xz:typeLookup (.type "ValueError") "__class__" = pure (some (.builtin "object.__class__")):=by rw[typeLookup_type,builtinLookup_eq_fast];kernel_rfl
section
variable {prog:Program}{w:World}{A:Around}{E:Value->Shared->Prop}{h:Heap}{g:Array GenState}{d:Drawn}{t:Nat}{os:OsState}{C x:Addr}{bm:List Value}{nid:String}{f:Str->Option Value}{o:Obj}
def Yz(c:XC h C bm f nid)(hx:h.get? x=some o)(hc:o.cls=.ref C)(hq:R (.ok (.ret (.ref C))) ⟨h,g,d,t,os⟩) :
  codeAny (model prog w) A (.call (.builtin "getset_descriptor.__get__") ⟨[.builtin "object.__class__",.ref x,.ref C],[]⟩) R ⟨h,g,d,t,os⟩:=by
 obtain⟨nm,qn,N,bs,sn,sub,ab,col,dd,k0,k1,k2,k3,k5,eC,n⟩:=id c.ex;have t5:(⟨h,g,d,t,os⟩:Shared).TypeIs (.builtin "object.__class__") "getset_descriptor":=F.typeOf_object_class;have hcB:(Value.ref C::bm).contains (.type (".".intercalate ("object.__class__".cutAt '.').dropLast))=true:=by rw[F.owner_object_class];exact hasV c.up (by decide) C
 refine codeAny_call_builtin F.slot_gs_get.plain F.entry_gs_get (F.slot_gs_get.check _ _ _ _ _ _ _ _ t5 (F.args_gs_get _ _ _) ?_)
 repeat (any_goals (first|assumption|(with_reducible refine wpAny_loadPart_at hx ?_;rw[hc])|(with_reducible refine wpAny_isSubtype_exc eC ?_;rw[hcB])|wp_step))
 refine⟨Code.quiet_builtin _ (by decide +kernel),codeAny_builtin F.entry_object_class ?_⟩
 repeat (any_goals (first|assumption|(with_reducible refine wpAny_loadPart_at hx ?_;rw[hc])|wp_step))
def Zz(c:XC h C bm f nid)(hfa:f "__class__" = none)(hx:h.get? x=some o)(hc:o.cls=.ref C)(hq:Q (.done (.ret (.ref C))) ⟨h,g,d,t,os⟩) :
  wpAny (model prog w) A (Builtin.«object.__getattribute__» ⟨[.ref x,.str "__class__" tk],[]⟩) Q E ⟨h,g,d,t,os⟩:=by
 have t5:(⟨h,g,d,t,os⟩:Shared).TypeIs (.builtin "object.__class__") "getset_descriptor":=F.typeOf_object_class;have f5:=F.typeOf_object_class;have f6:=F.slot_gs_get.lookup;have f7:=F.slot_gs_set.lookup
 repeat (any_goals (first|assumption|(with_reducible refine wpAny_loadPart_at hx ?_;rw[hc])|(with_reducible refine c.look (by simp) Xz ?_;rw[hfa])|wp_step))
 refine Yz c hx hc ?_
 repeat (any_goals (first|assumption|wp_step))
def aA(c:XC h C bm f nid)(hg:f "__getattribute__" = none)(hh:f "__getattr__" = none)(hfa:f "__class__" = none)(hx:h.get? x=some o)(hc:o.cls=.ref C)(hq:Q (some (.ref C)) ⟨h,g,d,t+1,os⟩) :
  wpAny (model prog w) A (getAttr? (.ref x) "__class__") Q E ⟨h,g,d,t,os⟩:=by
 have FB:=F.attrBase_ValueError;have f3:=FB.ga.bind (.ref x);have z0:(false&&onTheHeap (Value.builtin "BaseException.__getattribute__"))=false:=rfl;have z2:(Value.builtin "BaseException.__getattribute__" == Value.builtin "object.__getattribute__")=false:=by decide +kernel
 have z1:(onTheHeap (Value.ref C)&&Value.builtin "BaseException.__getattribute__" == Value.builtin "object.__getattribute__")=false:=by rw[z2];rfl
 unfold getAttr? getAttrBy?
 repeat (any_goals (first|assumption|(with_reducible refine wpAny_loadPart_at hx ?_;rw[hc])|(with_reducible refine c.look (by simp) FB.ga.lookup ?_;rw[hg])|(with_reducible refine c.look (by simp) FB.noGetattr ?_;rw[hh])|wp_step))
 refine codeAny_call_builtin FB.ga.plain F.entry_bexc_ga (Wr c hx hc (Zz c hfa hx hc ?_))
 repeat (any_goals (first|assumption|wp_step))
end
section
def bA {K:W.Frag}{C x fI:Addr}{bm:List Value}(q:iE K C bm fI=true):W.KitX K (.ref x) (.ref C) (fun h=>∃o,h.get? x=some o/\o.cls=.ref C) where
 ty:=fun M h _ ⟨o,h1,h2⟩=>h2 ▸ (W.Looks.ld h1).andThen .now
 it:=fun M h Y _=>by
  obtain⟨f,c,_⟩:=bf Y q;obtain⟨nm,qn,N,bs,sn,sub,ab,col,dd,k0,k1,k2,k3,k5,eC,n⟩:=c.ex;intro A' Q' E' s' k q;unfold isType loadHead;exact wpAny_bind (wpAny_loadPart (k _ _ eC) (wpAny_pure q))
 ne:=fun h tp dd Z0 n sl Y htp=>Bool.eq_false_iff.mpr fun z=>by
  obtain⟨f,c,_⟩:=bf Y q;obtain⟨nm,qn,N,bs,sn,sub,ab,col,dd,k0,k1,k2,k3,k5,eC,n⟩:=c.ex;have e:C=tp:=Value.ref.inj (beq_iff_eq.mp z);subst e;rw[eC]at htp;exact absurd (Value.type.inj (congrArg Obj.cls (Option.some.inj htp))) (by decide)
 ca:=fun {prog w A E Q s} Y ⟨o,h1,h2⟩ k=>by
  obtain⟨f,c,_,no⟩:=bf Y q;obtain⟨hp,g,d,t,os⟩:=s;exact aA c (no _ (by simp)) (no _ (by simp)) (no _ (by simp)) h1 h2 k
end
end L2
set_option maxHeartbeats 1000000
namespace L2
open PySem PyProof.Rows
def x8g (K:W.Frag)(a:Str)(te:TE):TE:=fun σ H Q=>te σ H fun y H1=>∃x C dx v bm fI,y=.ref x/\H1 x=some (XO C dx x)/\H1 dx=some (.xd [(a,v)])/\iE K C bm fI=true/\(∃z,v=.str z)/\Q v H1
def nameNo(ha:a∈(["name","row"]:List Str)):a∈lC.tail/\typeLookup (.type "ValueError") a=pure none:=by simp only[mem_cons,not_mem_nil,or_false]at ha;rcases ha with rfl|rfl;exact⟨by simp,by rw[typeLookup_type,builtinLookup_eq_fast];kernel_rfl⟩;exact⟨by simp,by rw[typeLookup_type,builtinLookup_eq_fast];kernel_rfl⟩
section
variable {X:Cx}{e:Expr}{te:TE}{a:Str}{pos:Pos}
def Hg (ha:a∈(["name","row"]:List Str))(he:PE X e te)(hb:attributeBase e a X.env (eval e X.env)=eval e X.env):PE X (.Attribute e a pos) (x8g X.K a te):=by
 intro Q0 s σ H Q I h;refine aw hb (thn (he Q0 s σ H _ I h) fun u s1 zq=>?_);obtain⟨y,H1,I1,ry,x,C,dx,v,bm,fI,e1,hx,hd,q,⟨z,e2⟩,h1⟩:=zq;subst e1;subst e2;obtain rfl:u=Value.ref x:=ry;obtain⟨f,c,_,no⟩:=bf I1.kIn q;obtain⟨⟨vs,sl,gx⟩,_,_⟩:=I1.hok x _ hx;obtain⟨mA,nx,rel⟩:=(show ∃mA,s1.heap.Ns1 dx mA/\∀f,DC (([(a,V.str z)]:List (Str×V)).lookup f) (mA f) from I1.hok dx _ hd);obtain⟨aq,aB⟩:=nameNo ha;have ra:=rel a;have lk:([(a,V.str z)]:List (Str×V)).lookup a=some (.str z):=by simp[List.lookup]
 rw[lk]at ra;cases hv:mA a with
 |none=>rw[hv]at ra;exact ra.elim
 |some u2 =>
  rw[hv]at ra;obtain⟨tk,rfl⟩:=(show ∃t,u2=Value.str z t from ra);obtain⟨hp,g,d,t,os⟩:=s1;exact Oz c (no _ (by simp)) (no _ (by simp)) (List.mem_of_mem_tail aq) aB (no a aq) gx nx hv rfl (fun _=>⟨.str z,H1,I1.tok _,⟨tk,rfl⟩,h1⟩)
def rIsX (K:W.Frag):List V->Hp->VK->Prop:=fun xs H Q=>∃x c cv t b,xs=[x,c]/\((∃T,c=.ty T/\cv=.type T) \/ ∃C2,c=.ref C2/\cv=.ref C2) /\
 ((x=.non/\t=.type "NoneType") \/ ∃y C dx bm fI,x=.ref y/\H y=some (XO C dx y)/\iE K C bm fI=true/\t=.ref C)/\kitOne K t cv=some b/\Q (.bl b) H
def Mf:yc X (.builtin "isinstance") (rIsX X.K):=by
 intro Q0 s σ H xs us Q I r h;obtain⟨x,c,cv,t,b,rfl,hc,hx,e,q⟩:=h;obtain⟨u,u2,rfl,rx,rt⟩:=yi r;have e2:u2=cv:=by
  rcases hc with ⟨T,rfl,rfl⟩|⟨C2,rfl,rfl⟩;exact rt;exact rt
 subst e2;rcases hx with ⟨rfl,rfl⟩|⟨y,C,dx,bm,fI,rfl,hy,xc,rfl⟩;cases(show u=Value.none from rx);exact kia_one kitx_none I.kIn True.intro e (fun z=>nomatch z) fun tk _=>⟨.bl b,H,I.tok tk,rfl,q⟩;obtain rfl:u=Value.ref y:=rx;obtain⟨⟨vs,sl,gx⟩,_,_⟩:=I.hok y _ hy;exact kia_one (bA xc) I.kIn ⟨_,gx,rfl⟩ e (fun z=>nomatch z) fun tk _=>⟨.bl b,H,I.tok tk,rfl,q⟩
def Ig(hg:Gl X x)(hm:X.mg x=some (.ref C))(hd:(x == ("__debug__":Str))=false:=by decide):PE X (.Name x pos) (tC (.ref C)):=fun Q0 s σ H Q I h=>ig I hg hm (fun _=>⟨.ref C,H,I,rfl,h⟩) hd
end
end L2
namespace VL
open PySem L2
end VL
namespace L2
open PySem PyProof.Rows
end L2
namespace VL
open PySem L2
end VL
namespace L2
open PySem PySem.Spec PySem.Calls PyProof.Rows PySem.W
abbrev Kp (g h:Heap):Prop:=∀b o,g.get? b=some o->h.get? b=some o
noncomputable abbrev cA:Scope:={ kind:=.function,names:=[(Str.ofString "each",.local)],isGenerator:=false,isCoroutine:=false,more:=[] }
section
variable {X:Cx}{c p:Addr}{pos p0 p1 p2 p3 p4 p5 lp k1 k2:Pos}{e:Expr}{t:TA}
structure LamX (X:Cx)(c p:Addr):Prop where
 code:X.env.code=.ref c
 qual:X.env.qual++"<lambda>" = lamQ
 P:zE=some p
 hd:codeHdIn X.K c p=true
 cl:closureFor cA X.env=pure []
end
end L2
namespace VL
open PySem L2
end VL
namespace L2
open PySem PySem.Spec PyProof.Rows PySem.W
end L2
namespace VL
open PySem L2
end VL
namespace L2
open PySem PySem.Spec PyProof.Rows
end L2
namespace VL
open PySem L2
def lenS(h:l.length=n+1):∃a r,l=a::r/\r.length=n:=by
 cases l with
 |nil=>cases h
 |cons a r=>exact⟨a,r,rfl,Nat.succ.inj h⟩
end VL
namespace L2
open PySem PySem.Spec PyProof.Rows PySem.SeqAt
end L2
namespace L2
open PySem PySem.Spec PySem.Calls PyProof.Rows
inductive TkE (X:Cx):Expr->Str->Bool->Prop
 |lit {y:Str}{j pos}:TkE X (.Constant (.str y) j pos) y true
 |glob {x y:Str}{u:Tok}{pos:Pos}(hg:Gl X x) (hm:X.mg x=some (.str y u)) (h1:1<=u) (h2:u<tk0) (hd:(x == ("__debug__":Str))=false):TkE X (.Name x pos) y false
end L2
namespace VL
open PySem L2
end VL
namespace L2
open PySem PySem.Spec PySem.Calls PyProof.Rows PySem.W
theorem Ks:∀ns:List Int,ofPys (ns.map PyData.int)=ns.map WData.int
 | []=>by simp[ofPys]
 |n::ns=>by simp[ofPys,ofPy,Ks ns]
def dA {l:W.OpenLaw}{K:Params->W.Frag}{sp:W.Frag->Sp} 
  (hn:l.most=some n)(hn2:n<=sizeLine)(hdf:d.params.defaults=[])(hr:KB k callerA)(hlam:zE=none)(ht:tk0<=T)
  (hks:∀P,ads=(K P).map (·.1))
  (F:∀(w:World)(mg:Str->Option Value)(fa:Addr)(h:Heap),(K w.params).In h->h.Ns mainGlobals mg->mg d.name=some (.ref fa) ->
   ∃fd:FuncData,(∀(s:Shared)(u:Value),BindsTo s fd ⟨[u],[]⟩ [(x,u)]) /\
    ∀base:Heap,(K w.params).In base->base.Ns mainGlobals mg->MB l.prog w (K w.params) mg base CX k fa fd [x] (sp (K w.params)))
  (hsp:∀(K:W.Frag)(H:Hp)(a:Addr)(ns:List Int),ns.length<=n->Only H->SqL K H a (ns.map V.int)->sp K [.ref a] H (fun v _=>v=.bl true) fun _ _ _=>False)
  (hCX:∀(H:Hp)(s:Shared)(e:Value)(s':Shared),CX [] H s (fun _ _ _=>False) e s'->False) :
  W.WalkX q loose XP (W.X.obsZ ads) (W.X.valZ K N T) l.row.toRowW d [] (fun f vs=>PySem.call f vs):=by
 intro w s₀ s₁ mg mb G Y fa o pm cd doc dV kV ho hd hcd hD hmg hg args vals as L hpre hlay hrd hwl hlo;obtain rfl:dV=.none:=Dflts.none hD hdf;obtain rfl:kV=.none:=Dflts.noKw hD;obtain⟨a,vs,ns,rfl,rfl,hobj,hints,hlen⟩:=Att.script_of hn hpre hwl;obtain⟨_,ZI,_,ZT⟩:=W.X.z_facts hks Y;have L':=L;rw[show WData.list (ns.map WData.int)=ofPy (PyData.list (ns.map PyData.int)) by rw[ofPy,Ks]]at L';have htk:=W.X.script_toks L' ZT;have KX:(K w.params).In s₁.heap:=InK.keeps w s₀.heap s₁.heap ZI L.keeps;obtain⟨fd,hb,hF⟩:=F w mg fa _ KX G.T.g hmg;refine enter_call (codeAny_mono (Iw (le_trans ht htk) KX G.T.g G.T.b G.T.builtins G.T.nolimit hg G.T.bmain (fun p e=>by rw[hlam]at e;cases e) hobj hints (le_trans hlen hn2) hr hF hb (fun H hO hS=>hsp _ H a ns hlen hO hS) fun H e s'=>hCX H s₁ e s') fun r s' hq=>?_);obtain⟨rfl,h2,h3,h4⟩:=hq;exact⟨.inl ⟨.bool true,.bool true,[],rfl,fun _=>rfl,.bool true,Att.post_true l _,fun _=>⟨List.Pairwise.nil,fun _ hm=>(nomatch hm)⟩⟩,h2,h3,h4⟩
end L2
namespace Pap
open PySem L2
inductive AB where
 |txt (s:Str)
 |tup (n:Str)(ps:List AB)
mutual
noncomputable def Ga:AB->Nat
 |.txt _=>1
 |.tup _ ps=>1+xa ps
noncomputable def xa:List AB->Nat
 | []=>0
 |p::ps=>Ga p+xa ps
end
noncomputable def yd:AB->Str
 |.txt _=>"#"
 |.tup n _=>n
noncomputable def Hb (ps:List AB):List Str:=ps.map yd
def Ad (ps qs:List AB):xa (ps++qs)=xa ps+xa qs:=by
 induction ps with
 |nil=>simp[xa]
 |cons p ps ih=>simp[xa,ih];lia
inductive QB (H:Hp):List V->List AB->List V->List Addr->Prop
 |nil:QB H [] [] [] []
 |txt {s:Str}{vs:List V}{ps:List AB}{out:List V}{F:List Addr}:QB H vs ps out F->QB H (.str s::vs) (.txt s::ps) (.str s::out) F
 |tup {t l:Addr}{n:Str}{cs:List V}{qs:List AB}{o1:List V}{F1:List Addr}{vs:List V}{ps:List AB}{o2:List V}{F2:List Addr}(ht:H t=some (.tup [.str n,.ref l])) (hl:H l=some (.lst cs)) (h1:QB H cs qs o1 F1) (h2:QB H vs ps o2 F2) :
   QB H (.ref t::vs) (.tup n qs::ps) (.ref t::(o1++o2)) (l::(F1++F2))
def QB.frame(h:QB H vs ps o F):(∀b∈F,H' b=H b)->(∀b xs,H b=some (.tup xs)->H' b=some (.tup xs))->QB H' vs ps o F:=by
 induction h with
 |nil=>intro _ _;exact .nil
 |txt _ ih=>intro k t;exact .txt (ih k t)
 | @tup t l n cs qs o1 F1 vs ps o2 F2 ht hl h1 h2 ih1 ih2 =>
  intro k q;exact .tup (q _ _ ht) ((k l (by simp)).trans hl) (ih1 (fun b hb=>k b (by simp[hb])) q) (ih2 (fun b hb=>k b (by simp[hb])) q)
def QB.lsts(h:QB H vs ps o F):∀b∈F,∃xs,H b=some (.lst xs):=by
 induction h with
 |nil=>intro b hb;cases hb
 |txt _ ih=>exact ih
 | @tup t l n cs qs o1 F1 vs ps o2 F2 ht hl h1 h2 ih1 ih2 =>
  intro b hb;rcases mem_cons.mp hb with rfl|hb;exact⟨_,hl⟩;rcases mem_append.mp hb with hb|hb;exact ih1 b hb;exact ih2 b hb
def QB.append(h:QB H vs ps o F)(h':QB H vs' ps' o' F'):QB H (vs++vs') (ps++ps') (o++o') (F++F'):=by
 induction h with
 |nil=>exact h'
 |txt _ ih=>exact .txt ih
 | @tup t l n cs qs o1 F1 vs ps o2 F2 ht hl h1 h2 ih1 ih2 =>
  have q:=QB.tup ht hl h1 ih2;simpa[append_assoc] using q
inductive Bel (H:Hp):Addr->List Addr->List (List AB×Str)->List Addr->Prop
 |nil {c:Addr}:Bel H c [] [] []
 |cons {c a t:Addr}{as:List Addr}{vs:List V}{n:Str}{ps:List AB}{o:List V}{F G:List Addr}{fs:List (List AB×Str)}(ha:H a=some (.lst (vs++[.ref t]))) (ht:H t=some (.tup [.str n,.ref c])) (h:QB H vs ps o F) (b:Bel H a as fs G) :
   Bel H c (a::as) ((ps,n)::fs) (F++G)
structure BInv (H:Hp)(a:Addr)(as:List Addr)(cur:List AB)(fs:List (List AB×Str))(S:List Addr):Prop where
 ex:∃vs o F G,H a=some (.lst vs)/\QB H vs cur o F/\Bel H a as fs G/\S=F++G
 nd:(a::as).Nodup
 off:∀b∈a::as,b∉S
theorem nc:∀ps:List AB,ps.length<=xa ps
 | []=>le_refl _
 |p::ps=>by
  have h1:1<=Ga p:=by cases p<;>simp[Ga]
  have h2:=nc ps;simp only[xa,length_cons]
  lia
end Pap
namespace L2
open PySem PySem.Spec PyProof.Rows
structure Ent (K:W.Frag)(mg:Str->Option Value)(x:Str)(st:Stmt)(ps:List Str)(f:Addr)(fd:FuncData):Prop where
 F:Fun K x x st f fd
 g:mg x=some (.ref f)
 b:OB K fd ps []
def eA {K:W.Frag}{st:Stmt}{kV doc pm cdv ct:Value}(X:K.In h)(G:h.Ns mainGlobals mg)
  (hb:∀(kV doc pm:Value)(an:Option Addr)(cdv ct:Value)(us:List Value),us.length=ps.length->bindArgs (fnOf x x (md st) (jc st) (Ca st) .none kV doc pm an cdv ct) ⟨us,[]⟩=pure (ps.zip us))
  (a:nsIn K mainGlobals x=some (some (.ref f)))(l:K.lookup f=some ⟨oc,od,.func (fnOf x x (md st) (jc st) (Ca st) .none kV doc pm an cdv ct),O0⟩)
  (c:codeIn K cdv x=true)(k:keepIn K (.ref f)=true):∃f fd,Ent K mg x st ps f fd :=
 ⟨f,_,lh l c k,mg_of X G a,(lh (st:=st) l c k).binds hb⟩
end L2
namespace VL
open PySem L2
section
variable {X:Cx}{k i:Nat}{f:Addr}{fd:FuncData}{ps:List Str}{R:RD}{x y:Str}{st:Stmt}{p p' pos pos':Pos}{a e:Expr}{es:List Expr}{da:TEd}{sp:Sp}
def Ka(G:MB X.prog X.w X.K X.mg X.base CX0 k f fd ps (spD R))(N:Ent X.K X.mg x st ps f fd)(ha:DL X (e::es) u)(hr:KB k X.A:=by refine KB.mono (by assumption) (by lia))(hg:Gl X x:=by rfl)(J0:(x == ("__debug__":Str))=false:=by decide)(he:starEach (e::es) X.env=(false,eval e X.env)::starEach es X.env:=by rfl)(K0:(backTo pos (starEach es X.env)).any (·.1)=false:=by rfl) :
  DE X (.Call (.Name x p) (e::es) [] pos) (Ff R u):=qy G hr hg N.g N.F.kp N.b tf ha J0 he K0
def Lh(G:MB X.prog X.w X.K X.mg X.base CX0 k f fd ps (spD R))(N:Ent X.K X.mg x st ps f fd)(hv:PE X (.Name y p') (tVar i))(ha:DL X es u)(hr:KB k X.A:=by refine KB.mono (by assumption) (by lia))(hg:Gl X x:=by rfl)(J0:(x == ("__debug__":Str))=false:=by decide)(hs:starEach (.Name y p' :: es) X.env=(false,eval (.Name y p') X.env)::starEach es X.env:=by rfl)(K0:(backTo pos (starEach es X.env)).any (·.1)=false:=by rfl) :
  DE X (.Call (.Name x p) (.Name y p' :: es) [] pos) (kj R i u):=pz G hr hg N.g N.F.kp N.b tf hv ha J0 hs K0
def Xb(G:MB X.prog X.w X.K X.mg X.base CX0 k f fd ps (spD R))(N:Ent X.K X.mg x st ps f fd)(ha:DA X i (e::es) u)(hr:KB k X.A:=by refine KB.mono (by assumption) (by lia))(hg:Gl X x:=by rfl)(J0:(x == ("__debug__":Str))=false:=by decide)(he:starEach (e::es) X.env=(false,eval e X.env)::starEach es X.env:=by rfl)(K0:(backTo pos (starEach es X.env)).any (·.1)=false:=by rfl) :
  DE X (.Call (.Name x p) (e::es) [] pos) (De R i u):=zy G hr hg N.g N.F.kp N.b tf ha J0 he K0
def zb(G:MB X.prog X.w X.K X.mg X.base CX0 k f fd ps sp)(N:Ent X.K X.mg x st ps f fd)(ha:PA X (e::es) t)(hr:KB k X.A:=by refine KB.mono (by assumption) (by lia))(hg:Gl X x:=by rfl)(J0:(x == ("__debug__":Str))=false:=by decide)(he:starEach (e::es) X.env=(false,eval e X.env)::starEach es X.env:=by rfl)(K0:(backTo pos (starEach es X.env)).any (·.1)=false:=by rfl) :
  PE X (.Call (.Name x p) (e::es) [] pos) (z8n sp [] E0 t):=ae G hr hg N.g N.F.kp N.b .nil tf ha J0 he K0
def dq (i:Nat)(hN:X.N.Nodup)(he:DE X a da)(hi:X.N[i]? = some x:=by rfl)(hx:Loc X.env.scope x:=by exact Or.inl rfl)(hs:swapsWith a (some (.Name x pos')) pos.line X.env=pure false:=by rfl)(hf:X.fn x=true\/X.env.scope.names.lookup x=some .local:=by first|exact .inl rfl|exact .inr rfl|assumption) :
  DS X (.Assign [.Name x pos'] a pos) (lG i da):=Ue hN hi hx he hs hf
def dn (i:Nat)(hN:X.N.Nodup)(hi:X.N[i]? = some x:=by rfl)(hx:Loc X.env.scope x:=by exact Or.inl rfl)(hf:X.fn x=true\/X.env.scope.names.lookup x=some .local:=by first|exact .inl rfl|exact .inr rfl|assumption) :
  DG X (.Name x pos) (dgN i):=br hN hi hx hf
structure CP where
 Q0:List (Addr×Obj)
 ex:List Addr
 H₀:Hp
 s₀:Shared
 C:Addr
noncomputable def jM (xs N:List Str):List Str:=N.map fun x=>if xs.contains x then x++" " else x
noncomputable def cOk (o:Scope) (N xs:List Str) (c:Scope):Bool :=
 (match c.kind with | .function=>true|_=>false)&&c.names.all (fun y=>match y.2 with | .cell=>false | .local=>c.names.lookup y.1 == some .local | .free=>o.names.lookup y.1 == some .cell||o.names.lookup y.1 == some .free|_=>true)&&oC c N (jM xs N)&&decide (xs++jM xs N).Nodup&&xs.all fun x=>c.names.lookup x == some .local
def rG(h:cOk o N xs c=true):SB o N xs c (jM xs N)/\(xs++jM xs N).Nodup/\∀x∈xs,c.names.lookup x=some .local:=by
 simp only[cOk,and_eq_true,decide_eq_true_eq,all_eq_true]at h;obtain⟨⟨⟨⟨h1,h2⟩,h3⟩,h4⟩,h5⟩:=h;refine⟨⟨?_,fun y hy e=>?_,fun y hy e=>?_,fun y hy e=>?_,h3⟩,h4,fun x hx=>by simpa using h5 x hx⟩;cases e:c.kind<;>simp[e]at h1<;>rfl
 all_goals have z:=h2 y hy;rw[e]at z
 exact absurd z (by simp);simpa using z;simpa using z
noncomputable abbrev cX (X:Cx) (c:Scope) (xs:List Str) (p:CP):Cx:=Rb X c (xs++jM xs X.N) p.Q0 p.ex p.H₀ p.s₀ p.C
def Tg (xs:List Str)(tg:Expr)(g:TGd):Prop:=∀X:Cx,X.N.Nodup->X.calm=true->(∀(i:Nat)(x:Str),xs[i]? = some x->X.N[i]? = some x/\X.env.scope.names.lookup x=some .local)->DGn X xs.length tg g
def tg1:Tg [x] (.Name x p) (dgN 0):=fun X n _ h=>Jl (by show 0<1;decide) n (h 0 x rfl).1 (.inl (h 0 x rfl).2) (.inr (h 0 x rfl).2)
def tg2:Tg [x,y] (.Tuple [.Name x p,.Name y q] k r) (Ef 2 (je (dgN 0) (je (dgN 1) Df))):=fun X n c h=>Fy c (qr (Jl (by show 0<2;decide) n (h 0 x rfl).1 (.inl (h 0 x rfl).2) (.inr (h 0 x rfl).2)) (qr (Jl (by show 1<2;decide) n (h 1 y rfl).1 (.inl (h 1 y rfl).2) (.inr (h 1 y rfl).2)) Ey))
variable {L0 M0 tg:Expr}{xs:List Str}{P0:List Expr}{sc:Scope}{di:TLd}{gd:TGd}{cd:TTd}{ed:TEd}
def Tg.at (t:Tg xs tg gd)(hc:X.calm=true)(h:(xs++jM xs X.N).Nodup)(l:∀x∈xs,sc.names.lookup x=some .local)(Q0:List (Addr×Obj))(ex:List Addr)(H₀:Hp)(s₀:Shared)(C:Addr):DGn (Rb X sc (xs++jM xs X.N) Q0 ex H₀ s₀ C) xs.length tg gd :=
 t _ h hc fun i x e=>⟨by show(xs++jM xs X.N)[i]? = some x;rw[getElem?_append_left (List.getElem?_eq_some_iff.mp e).1];exact e,lookup_relabel_local (l x (mem_of_getElem? e))⟩
def Oc (t:Tg xs tg gd)(hi:DI X tg M0 di)(ht:∀p,DF (cX X sc xs p) P0 cd)(he:∀p,DE (cX X sc xs p) L0 ed)(h:cOk X.env.scope X.N xs sc=true:=by kernel_rfl)(hc:X.calm=true:=by rfl)(hs:∀v,foldedSetIterable M0 X.env v=pure v:=by intro _;rfl):DE X (.ListComp L0 [⟨tg,M0,P0,0⟩] sc pos) (Eg xs.length di gd cd ed) :=
 Gy xs _ hc (rG h).1 hi (t.at hc (rG h).2.1 (rG h).2.2) (fun a b c d e=>ht ⟨a,b,c,d,e⟩) (fun a b c d e=>he ⟨a,b,c,d,e⟩) hs
def de_cV(t:Tg xs tg gd)(hi:PE X (.Name x p) (tVar i))(ht:∀p,DF (cX X sc xs p) P0 cd)(he:∀p,DE (cX X sc xs p) L0 ed)(h:cOk X.env.scope X.N xs sc=true:=by kernel_rfl)(hc:X.calm=true:=by rfl)(hs:∀v,foldedSetIterable (.Name x p) X.env v=pure v:=by intro _;rfl):DE X (.ListComp L0 [⟨tg,.Name x p,P0,0⟩] sc pos) (jj i xs.length gd cd ed) :=
 Xy xs _ hc (rG h).1 hi (t.at hc (rG h).2.1 (rG h).2.2) (fun a b c d e=>ht ⟨a,b,c,d,e⟩) (fun a b c d e=>he ⟨a,b,c,d,e⟩) hs
def Nf (j:Nat)(hN:X.N.Nodup)(t:Tg xs tg gd)(hi:DI X tg M0 di)(ht:∀p,DF (cX X sc xs p) P0 cd)(he:∀p,DE (cX X sc xs p) L0 ed)(hj:X.N[j]? = some y:=by rfl)(hy:X.env.scope.names.lookup y=some .local:=by rfl)(h:cOk X.env.scope X.N xs sc=true:=by kernel_rfl)(hc:X.calm=true:=by rfl)(hsw:swapsWith (.ListComp L0 [⟨tg,M0,P0,0⟩] sc pos) (some (.Name y py)) spos.line X.env=pure true:=by rfl)(hs:∀v,foldedSetIterable M0 X.env v=pure v:=by intro _;rfl):DS X (.Assign [.Name y py] (.ListComp L0 [⟨tg,M0,P0,0⟩] sc pos) spos) (lG j (Eg xs.length di gd cd ed)) :=
 Hy xs _ hN hj hy hc (rG h).1 hi (t.at hc (rG h).2.1 (rG h).2.2) (fun a b c d e=>ht ⟨a,b,c,d,e⟩) (fun a b c d e=>he ⟨a,b,c,d,e⟩) hsw hs
variable {b:Expr}{db:TEd}{apos:Pos}
def xT (i:Nat)(hb:DE X b db)(ha:PE X (.Name x p) (tVar i):=by exact pv _)(h:bh b:=by exact fun _ _=>rfl):DE X (.Subscript (.Name x p) b pos) (dG pG i db):=Ni Pi Eb ha hb h
def xL (i:Nat)(hb:DE X b db)(ha:PE X (.Name x p) (tVar i):=by exact pv _)(h:bh b:=by exact fun _ _=>rfl):DE X (.Subscript (.Name x p) b pos) (dG uH i db):=Ni Af Ae ha hb h
def dsF(hi:DI X tg M0 di)(hg:DG X tg gd)(hb:DSs X body td)(hp:PassesOwn (model X.prog X.w) X.A X.env X.xe:=by exact PassesOwn.never)(hc:X.calm=true:=by rfl)(hs:∀x,foldedSetIterable M0 X.env x=pure x:=by intro _;rfl):DS X (.For tg M0 body [] pos) (dFor di gd td):=ly hp hc hi hg hb hs
def dlL (i:Nat)(hm:X.mg "len" = none)(ha:PE X (.Name y p') (tVar i):=by exact pv _)(hg:Gl X "len":=by rfl)(he:starEach [.Name y p'] X.env=[(false,eval (.Name y p') X.env)]:=by rfl)(K0:(backTo pos (starEach [] X.env)).any (·.1)=false:=by rfl):DE X (.Call (.Name "len" p) [.Name y p'] [] pos) (dCBV il i):=Rq Vi oh hg hm PySem.boot_len ha (by decide) (by decide) he K0
def dAp (i:Nat)(ha:DE X e da)(ho:PE X (.Name x p) (tVar i):=by exact pv _)(I0:starEach [e] X.env=(false,eval e X.env)::starEach [] X.env:=by rfl)
  (B0:attributeBase (.Name x p) "append" X.env (eval (.Name x p) X.env)=eval (.Name x p) X.env:=by rfl)
  (D0:((backTo pos (starEach [e] X.env)).all (fun x=>!x.1)&&(backToKw pos (keywordEach [] X.env)).all (fun x=>x.1.isSome)
  &&decide ([e].length+([]:List Keyword).length+(if ([]:List Keyword).isEmpty then 0 else 1)<30))=true:=by rfl)
  (A0:(apos.endLine == pos.line)=true:=by rfl)(C0:(backTo pos (starEach [] X.env)).any (·.1)=false:=by rfl) :
  DE X (.Call (.Attribute (.Name x p) "append" apos) [e] [] pos) (dMt Ag i (kc da mE)):=Yi Vx PySem.F.slot_list_append PySem.F.type_list_append qf ho (aa ha ja I0) B0 D0 A0 I0 C0
def dII(kit:Wi X.K)(hm:X.mg "isinstance" = none)(ha:DE X a da)(hb:X.mg x=none)(hv:bootBuiltins x=some (.type T))(h1:Gl X "isinstance":=by rfl)(h2:Gl X x:=by rfl)(hn:x ≠ "__name__":=by decide)(hd:(x == ("__debug__":Str))=false:=by decide)
  (s1:starEach [a,.Name x p'] X.env=(false,eval a X.env)::starEach [.Name x p'] X.env:=by rfl)(s2:starEach [.Name x p'] X.env=(false,eval (.Name x p') X.env)::starEach [] X.env:=by rfl)(K0:(backTo pos (starEach [.Name x p'] X.env)).any (·.1)=false:=by rfl) :
  DE X (.Call (.Name "isinstance" p) [a,.Name x p'] [] pos) (dCB vH (kc da (kc (dC (.ty T)) mE))):=yg (Rx kit) (Hk rfl) h1 hm boot_isinstance (aa ha (aa (de_ty h2 hb hv hn hd) ja s2) s1) (by decide) (by decide) s1 K0
end
end VL
set_option backward.defeqAttrib.useBackward true
namespace K04
open PySem L2 VL
noncomputable def top (i:Nat):Stmt:=PySem.Challenge.pw_formferry_k13_papers_that_arrive.main.body.getD i (.Pass ⟨0,0,0,0⟩)
noncomputable abbrev oE:Stmt:=top 10
noncomputable abbrev gC:Stmt:=top 11
noncomputable abbrev lB:Stmt:=top 12
noncomputable abbrev wF:Stmt:=top 13
noncomputable abbrev lH:Stmt:=top 14
noncomputable abbrev vB:Stmt:=top 16
noncomputable abbrev tG:Stmt:=top 17
noncomputable abbrev mH:Stmt:=top 18
noncomputable abbrev fG:Stmt:=top 19
noncomputable abbrev uG:Stmt:=top 20
noncomputable abbrev nH:Stmt:=top 21
noncomputable abbrev fF:Stmt:=top 22
noncomputable abbrev jF:Stmt:=top 23
noncomputable abbrev vG:Stmt:=top 24
noncomputable abbrev wG:Stmt:=top 25
noncomputable abbrev gG:Stmt:=top 26
noncomputable abbrev vD:Stmt:=top 28
noncomputable abbrev wD:Stmt:=top 29
noncomputable abbrev oH:Stmt:=top 30
noncomputable abbrev hG:Stmt:=top 31
noncomputable abbrev xG:Stmt:=top 32
noncomputable abbrev iG:Stmt:=top 33
noncomputable abbrev kF:Stmt:=top 34
noncomputable abbrev yG:Stmt:=top 37
noncomputable abbrev xD:Stmt:=top 38
noncomputable abbrev zG:Stmt:=top 39
noncomputable abbrev aH:Stmt:=top 40
noncomputable abbrev xF:Stmt:=top 41
noncomputable abbrev yF:Stmt:=top 42
noncomputable abbrev uC:Stmt:=top 44
noncomputable abbrev yD:Stmt:=top 45
noncomputable abbrev lF:Stmt:=top 46
noncomputable abbrev pE:Stmt:=top 47
noncomputable abbrev vC:Stmt:=top 48
noncomputable abbrev wC:Stmt:=top 49
noncomputable abbrev zD:Stmt:=top 50
noncomputable abbrev qE:Stmt:=top 51
noncomputable abbrev rE:Stmt:=top 52
noncomputable abbrev sE:Stmt:=top 53
noncomputable abbrev aE:Stmt:=top 54
noncomputable abbrev tE:Stmt:=top 55
noncomputable abbrev uE:Stmt:=top 56
noncomputable abbrev vE:Stmt:=top 57
noncomputable abbrev lD:Stmt:=top 58
noncomputable abbrev wB:Stmt:=top 59
noncomputable abbrev bE:Stmt:=top 60
noncomputable abbrev cE:Stmt:=top 61
noncomputable abbrev xC:Stmt:=top 62
noncomputable abbrev dE:Stmt:=top 63
noncomputable abbrev mD:Stmt:=top 64
noncomputable abbrev yC:Stmt:=top 65
noncomputable abbrev mB:Stmt:=top 67
noncomputable abbrev iC:Stmt:=top 68
noncomputable abbrev mC:Stmt:=top 69
noncomputable abbrev wE:Stmt:=top 70
noncomputable abbrev xE:Stmt:=top 71
noncomputable abbrev xB:Stmt:=top 72
noncomputable abbrev zC:Stmt:=top 73
noncomputable abbrev eE:Stmt:=top 74
noncomputable abbrev gH:Stmt:=top 75
local macro_rules|`(tactic| walk_at "s")=>`(tactic| exact ⟨rfl,rfl,rfl,by decide +kernel,rfl,by decide +kernel,by decide +kernel⟩)
def nj:CB ["row","found","waiting","part"] ["row"] (Ca oE):=by walk_at "s"
def fA:CB ["path","part"] ["path","part"] (Ca gC):=by walk_at "s"
def oj:CB ["paper","found","waiting","place"] ["paper"] (Ca lB):=by walk_at "s"
def gA:CB ["part"] ["part"] (Ca wF):=by walk_at "s"
def iA:CB ["row"] ["row"] (Ca lH):=by walk_at "s"
def jA:CB ["pattern"] ["pattern"] (Ca vB):=by walk_at "s"
def Cm:CB ["pattern","found","inner"] ["pattern"] (Ca tG):=by walk_at "s"
def Ls:CB ["pattern","kind"] ["pattern"] (Ca mH):=by walk_at "s"
def Dm:CB ["pattern","found","inner"] ["pattern"] (Ca fG):=by walk_at "s"
def pj:CB ["pattern","found","inner"] ["pattern"] (Ca uG):=by walk_at "s"
def Em:CB ["ends","begins","followers","end","begin"] ["ends","begins","followers"] (Ca nH):=by walk_at "s"
def qj:CB ["patterns","followers","ends","inner"] ["patterns","followers"] (Ca fF):=by walk_at "s"
def Ms:CB ["pattern","followers","inner"] ["pattern","followers"] (Ca jF):=by walk_at "s"
def Jg:CB ["pattern","order","followers","sign","told"] ["pattern"] (Ca vG):=by walk_at "s"
def kA:CB ["pattern"] ["pattern"] (Ca wG):=by walk_at "s"
def Fm:CB ["told","word","sign","behind"] ["told","word"] (Ca gG):=by walk_at "s"
def Mh:CB ["rules","ahead","name","pattern","found"] ["rules"] (Ca vD):=by walk_at "s"
def Kg:CB ["root","rules","known","rule","sign"] ["root","rules"] (Ca wD):=by walk_at "s"
def Os:CB ["form"] ["form"] (Ca oH):=by walk_at "s"
def rj:CB ["rules","found","name","pattern"] ["rules"] (Ca hG):=by walk_at "s"
def lA:CB ["part","known"] ["part","known"] (Ca xG):=by walk_at "s"
def Lg:CB ["form","paper","known","found","path","part","other_root"] ["form","paper"] (Ca iG):=by walk_at "s"
def nA:CB ["form","paper"] ["form","paper"] (Ca kF):=by walk_at "s"
def oA:CB ["row"] ["row"] (Ca yG):=by walk_at "s"
def sj:CB ["ferry","ahead","name","row"] ["ferry"] (Ca xD):=by walk_at "s"
def pA:CB ["parts","target","starred"] ["parts","target","starred"] (Ca zG):=by walk_at "s"
def Ps:CB ["rules","part","target","starred","inner"] ["rules","part","target","starred"] (Ca aH):=by walk_at "s"
def tj:CB ["rules","row","told","waiting","job"] ["rules","row"] (Ca xF):=by walk_at "s"
def Gm:CB ["ferry","form","paper","told"] ["ferry","form","paper"] (Ca yF):=by walk_at "s"
def qA:CB ["_law_script","_law_k"] ["_law_script","_law_k"] (Ca uC):=by walk_at "s"
def qe:CB ["_law_script","_law_turn","_law_many_here","_law_cells","_law_found","_law_left","_law_k","_law_at","_law_place","_law_number"] ["_law_script","_law_turn","_law_many_here"] (Ca yD):=by walk_at "s"
def rA:CB ["_law_draws_here"] ["_law_draws_here"] (Ca lF):=by walk_at "s"
def uj:CB ["_law_k","_law_draw","_law_letters","_law_base","_law_at"] ["_law_k","_law_draw"] (Ca pE):=by walk_at "s"
def sA:CB ["_law_pattern_here","_law_number"] ["_law_pattern_here","_law_number"] (Ca vC):=by walk_at "s"
def Pf:CB ["_law_some","_law_draws_here","_law_row","_law_number","_law_many_here","_law_at","_law_made"] ["_law_some","_law_draws_here"] (Ca wC):=by walk_at "s"
def vj:CB ["_law_names","_law_number","_law_some","_law_at"] ["_law_names","_law_number"] (Ca zD):=by walk_at "s"
def Qf:CB ["_law_script","_law_turn","_law_many_here","_law_draws_here","_law_first","_law_names","_law_rules","_law_name_here","_law_at"] ["_law_script","_law_turn","_law_many_here"] (Ca qE):=by walk_at "s"
def Qs:CB ["_law_number","_law_some"] ["_law_number"] (Ca rE):=by walk_at "s"
def He:CB ["_law_pattern_here","_law_draws_here","_law_number","_law_found","_law_one","_law_many_here","_law_k"] ["_law_pattern_here","_law_draws_here"] (Ca sE):=by walk_at "s"
def Nh:CB ["_law_table","_law_name_here","_law_draws_here","_law_left","_law_deep","_law_word_drawn","_law_row","_law_sign"] ["_law_table","_law_name_here","_law_draws_here","_law_left","_law_deep"] (Ca aE):=by walk_at "s"
def Oh:CB ["_law_pattern_here","_law_signs_met","_law_starts","_law_found","_law_ahead"] ["_law_pattern_here","_law_signs_met","_law_starts"] (Ca tE):=by walk_at "s"
def Rf:CB ["_law_pattern_here","_law_signs_met","_law_starts","_law_one","_law_found"] ["_law_pattern_here","_law_signs_met","_law_starts"] (Ca uE):=by walk_at "s"
def Hm:CB ["_law_pattern_here","_law_row","_law_signs_met","_law_part"] ["_law_pattern_here","_law_row"] (Ca vE):=by walk_at "s"
def wj:CB ["_law_table","_law_part","_law_path","_law_found","_law_k"] ["_law_table","_law_part","_law_path"] (Ca lD):=by walk_at "s"
def Ph:CB ["_law_form_here","_law_paper_here","_law_table","_law_name_here","_law_pattern_here","_law_found"] ["_law_form_here","_law_paper_here"] (Ca wB):=by walk_at "s"
def Qh:CB ["_law_form_here","_law_script","_law_turn","_law_many_here","_law_draws_here","_law_table","_law_name_here","_law_pattern_here"] ["_law_form_here","_law_script","_law_turn","_law_many_here"] (Ca bE):=by walk_at "s"
def xj:CB ["_law_names","_law_draws_here","_law_deep","_law_row","_law_k","_law_number"] ["_law_names","_law_draws_here","_law_deep"] (Ca cE):=by walk_at "s"
def yj:CB ["_law_row","_law_number","_law_inner","_law_at"] ["_law_row","_law_number"] (Ca xC):=by walk_at "s"
def re:CB ["_law_names","_law_draws_here","_law_many_here","_law_rules","_law_k","_law_number","_law_row","_law_found","_law_name_here"] ["_law_names","_law_draws_here","_law_many_here"] (Ca dE):=by walk_at "s"
def zj:CB ["_law_row","_law_inner","_law_found","_law_part"] ["_law_row","_law_inner"] (Ca mD):=by walk_at "s"
def Ie:CB ["_law_ferry_here","_law_row","_law_found","_law_part","_law_inner","_law_made","_law_name_here","_law_other"] ["_law_ferry_here","_law_row"] (Ca yC):=by walk_at "s"
def uA:CB ["_law_pattern_here"] ["_law_pattern_here"] (Ca mB):=by walk_at "s"
def vA:CB ["_law_form_here"] ["_law_form_here"] (Ca iC):=by walk_at "s"
def wA:CB ["_law_row"] ["_law_row"] (Ca mC):=by walk_at "s"
def xA:CB ["_law_cell"] ["_law_cell"] (Ca wE):=by walk_at "s"
def ff:CB ["_law_error","_law_found"] ["_law_error"] (Ca xE):=by walk_at "s"
def Sf:CB ["_law_names","_law_draws_here","_law_found","_law_name_here","_law_row","_law_number"] ["_law_names","_law_draws_here"] (Ca xB):=by walk_at "s"
def Rh:CB ["_law_row","_law_many_here","_law_part"] ["_law_row"] (Ca eE):=by walk_at "s"
def Bd:CB ["_law_script","_law_form_here","_law_paper_here","_law_draws_here","_law_names","_law_ferry_here","_law_row","_law_due","_law_handed","_law_given","_law_k","_law_found"] ["_law_script"] (Ca gH):=by walk_at "s"
noncomputable abbrev i_Twice:Stmt:=Gk (top 2) 0
noncomputable abbrev i_NoName:Stmt:=Gk (top 3) 0
noncomputable abbrev i_Stars:Stmt:=Gk (top 4) 0
def yA:CB ["self","name"] ["self","name"] (Ca i_Twice):=by walk_at "s"
def zA:CB ["self","name"] ["self","name"] (Ca i_NoName):=by walk_at "s"
def AA:CB ["self","name"] ["self","name"] (Ca i_Stars):=by walk_at "s"
def Im:CB ["_law_ferry_here","_law_form_here","_law_paper_here","_law_caught","e"] ["_law_ferry_here","_law_form_here","_law_paper_here"] (Ca zC):=by walk_at "s"
theorem rJ{f:α->β}{l:List α}:(a::l).map f=f a::l.map f:=rfl
theorem rK{f:α->β}:[].map f=[]:=rfl
theorem rL{l:List α}:(a::l).length=l.length+1:=rfl
theorem rM:([]:List α).length=0:=rfl
theorem rN{a:α}:List.replicate (n+1) a=a::List.replicate n a:=rfl
theorem rP{a:α}:List.replicate 0 a=[]:=rfl
theorem rQ{l:List α}:(a::l)++m=a::(l++m):=rfl
theorem rR{l:List α}:[]++l=l:=rfl
theorem rT{l:List α}:(a::l).drop (n+1)=l.drop n:=rfl
theorem rV{l:List α}:l.drop 0=l:=rfl
theorem rW:([]:List α).isEmpty=true:=rfl
theorem rX{l:List α}:(a::l).isEmpty=false:=rfl
theorem rY{l:List α}:(a::l).set 0 b=b::l:=rfl
theorem rZ{l:List α}:(a::l).set (n+1) b=a::l.set n b:=rfl
theorem sI:(none:Option α).isNone=true:=rfl
theorem sK{a:α}:(some a).isNone=false:=rfl
theorem sL:(none:Option α).isSome=false:=rfl
theorem sM{a:α}:(some a).isSome=true:=rfl
theorem sN:(!true)=false:=rfl
theorem sO:(!false)=true:=rfl
local macro_rules|`(tactic| w_how)=>do
 let u<-("reduceIte j1y j0o j0a j1j q4r q0a q0t j0d q3k q4i j1d j2t j1f j1r j8b j2e j0l j2x blK_e j2w q9x x5o j0x x9h q2u x4t j9v q9v j8a j8t x8w j1m v_if j9k v_c k0q v_mv v_op j9x j9 q9q v_not j9j v_or j1t j1c j2b v_ifE v_neg j7r j2f k0g j9g v_CB v_CBV v_rev v_mt v_gN x9l q5e j0z j0s q0o q2h j0v q1p q9p v_aV v_aO x6g v_oN v_oS k0i j2v k0o v_slC j2a q2o j3c v_din j0u v_I v_Ic x9y q1d x9n x8v q0p j0b v_cat j7u j1h q9n j2n k0p q9o j2o x4y j0n j2z j3a j2c x5k q0j x4d x6j k0c y0e z9w z9x q1x j2l j0f x9q j0k v_ixC j2g j2j x9r v_scA x8h x8r x9w x5q j8z j1i v_TV j9b j0y v_2V j9t v_2O2 x5r".splitOn " ").mapM fun n=>`(Lean.Parser.Tactic.simpLemma| ↓ $(Lean.mkIdent n.toName):term);let v<-("rsl_t rsl_f outS x4m x5w x0y x0r y8l rJ rK rL rM Nat.reduceAdd rN rP rQ rR List.append_nil rT rV List.filter_cons List.filter_nil sI sK and_true true_and decide_eq_true_eq Bool.true_eq_false Bool.false_eq_true sN sO Bool.not_not Bool.not_eq_eq_eq_not decide_true decide_false if_true if_false eq_self Int.zero_add rW rX not_true_eq_false not_false_eq_true false_and and_false sL sM z9l fgt rY rZ".splitOn " ").mapM fun n=>`(Lean.Parser.Tactic.simpLemma| $(Lean.mkIdent n.toName):term)
 `(tactic|try simp only[$((u++v).toArray),*])
structure Zs (K:W.Frag)(mg:Str->Option Value):Prop where
 z_list:mg "list" = none
 z_reversed:mg "reversed" = none
 z_isinstance:mg "isinstance" = none
 z_str:mg "str" = none
 z_len:mg "len" = none
 z_int:mg "int" = none
 z_bool:mg "bool" = none
 z_range:mg "range" = none
 z_all:mg "all" = none
 z_any:mg "any" = none
 z_zip:mg "zip" = none
 z_tuple:mg "tuple" = none
 z_dict:mg "dict" = none
 z_set:mg "set" = none
 z_enumerate:mg "enumerate" = none
 z_max:mg "max" = none
 g_TEXT_SIGN:∃t,mg "TEXT_SIGN" = some (.str "#" t)
 g_STAR:∃t,mg "STAR" = some (.str "*" t)
 kit:Wi K
theorem lnz:∀{l:List α},l.length=n+1->∃a t,l=a::t/\t.length=n
 |a::t,h=>⟨a,t,rfl,Nat.succ.inj h⟩
def mx3(h1:a<=d)(h2:b<=d)(h3:c<=d):max (max a (max b 0)) c<=d:=max_le.mpr ⟨max_le.mpr ⟨h1,max_le.mpr ⟨h2,zero_le _⟩⟩,h3⟩
def mxA {a b c d:Nat}(e:d=max a (max b c)):a<=d:=e ▸ le_max_left _ _
def mxB {a b c d:Nat}(e:d=max a (max b c)):b<=d:=e ▸ le_trans (le_max_left _ _) (le_max_right _ _)
def mxC {a b c d:Nat}(e:d=max a (max b c)):c<=d:=e ▸ le_trans (le_max_right _ _) (le_max_right _ _)
def mxq(e:d=max a (max (b+1) c))(h:d<n+1):b<n:=Nat.lt_of_succ_lt_succ (lt_of_le_of_lt (mxB e) h)
def sbm (n a:Nat):n - a+min a n<=n:=by rcases Nat.le_total a n with h|h;rw[min_eq_left h,sub_add_cancel h];exact le_refl _;rw[Nat.sub_eq_zero_of_le h,zero_add];exact Nat.min_le_right _ _
inductive Wk where
 |maybe|many|some
noncomputable def Wk.str:Wk->Str
 |.maybe=>"maybe"
 |.many=>"many"
 |.some=>"some"
inductive Pat where
 |none
 |one (s:Str)
 |row (ps:List Pat)
 |any (ps:List Pat)
 |wrap (k:Wk)(p:Pat)
mutual
noncomputable def bB:Pat->D
 |.none=>.tup [.str "none"]
 |.one s=>.tup [.str "one",.str s]
 |.row ps=>.tup [.str "row",.lst (Ma ps)]
 |.any ps=>.tup [.str "any",.lst (Ma ps)]
 |.wrap k p=>.tup [.str k.str,bB p]
noncomputable def Ma:List Pat->List D
 | []=>[]
 |p::ps=>bB p::Ma ps
end
theorem Cd:∀ps:List Pat,Ma ps=ps.map bB
 | []=>rfl
 |p::ps=>by rw[Ma,Cd ps];rfl
def Mg (ps:List Pat):(Ma ps).length=ps.length:=by rw[Cd];simp
noncomputable def fB:Pat->List Pat
 |.row ps=>ps
 |.any ps=>ps
 |.wrap _ p=>[p]
 |_=>[]
mutual
noncomputable def szP:Pat->Nat
 |.none=>1
 |.one _=>1
 |.row ps=>1+dB ps
 |.any ps=>1+dB ps
 |.wrap _ p=>1+szP p
noncomputable def dB:List Pat->Nat
 | []=>0
 |p::ps=>szP p+dB ps
end
mutual
noncomputable def dpP:Pat->Nat
 |.none=>0
 |.one _=>0
 |.row ps=>yB ps+1
 |.any ps=>yB ps+1
 |.wrap _ p=>dpP p+1
noncomputable def yB:List Pat->Nat
 | []=>0
 |p::ps=>max (dpP p) (yB ps)
end
theorem Ud:∀{ps:List Pat},p∈ps->dpP p<=yB ps
 |q::ps,h=>by
  rcases mem_cons.mp h with rfl|h;simp only[yB];lia;have:=Ud h;simp only[yB];lia
theorem Tf:∀{ps:List Pat},p∈ps->szP p<=dB ps
 |q::ps,h=>by
  rcases mem_cons.mp h with rfl|h;simp only[dB];lia;have:=Tf h;simp only[dB];lia
theorem Jm:∀p:Pat,0<szP p
 |.none=>by simp[szP]
 |.one _=>by simp[szP]
 |.row ps=>by simp only[szP];lia
 |.any ps=>by simp only[szP];lia
 |.wrap _ p=>by simp only[szP];lia
theorem Je:∀ps:List Pat,ps.length<=dB ps
 | []=>le_refl _
 |p::ps=>by have:=Je ps;have:=Jm p;simp only[dB,length_cons];lia
theorem wc:∀ps qs:List Pat,dB (ps++qs)=dB ps+dB qs
 | [],qs=>by simp[dB]
 |p::ps,qs=>by simp only[cons_append,dB,wc ps qs];lia
def Ng (p:Pat):dB (fB p)<szP p:=by cases p<;>simp[fB,szP,dB]
def Og(h:q∈fB p):dpP q<dpP p:=by
 cases p with
 |row ps=>have:=Ud (show q∈ps from h);simp only[dpP];lia
 |any ps=>have:=Ud (show q∈ps from h);simp only[dpP];lia
 |wrap k p=>simp[fB]at h;subst h;simp[dpP]
 |none=>simp[fB]at h
 |one s=>simp[fB]at h
mutual
noncomputable def Ba:Pat->List Str
 |.none=>[]
 |.one s=>[s]
 |.row ps=>Qa ps
 |.any ps=>Qa ps
 |.wrap _ p=>Ba p
noncomputable def Qa:List Pat->List Str
 | []=>[]
 |p::ps=>Ba p++Qa ps
end
theorem Pg:∀ps qs:List Pat,Qa (ps++qs)=Qa ps++Qa qs
 | [],qs=>by simp[Qa]
 |p::ps,qs=>by simp only[cons_append,Qa,Pg ps qs,append_assoc]
def BA(h:∀s,p≠.one s):Ba p=Qa (fB p):=by
 cases p with
 |one s=>exact absurd rfl (h s)
 |_=>simp[Ba,Qa,fB]
mutual
theorem Qg:∀p:Pat,(Ba p).length<=szP p
 |.none=>by simp[Ba]
 |.one _=>by simp[Ba,szP]
 |.row ps=>by have:=Aj ps;simp only[Ba,szP];lia
 |.any ps=>by have:=Aj ps;simp only[Ba,szP];lia
 |.wrap _ p=>by have:=Qg p;simp only[Ba,szP];lia
theorem Aj:∀ps:List Pat,(Qa ps).length<=dB ps
 | []=>by simp[Qa]
 |p::ps=>by have:=Qg p;have:=Aj ps;simp only[Qa,dB,length_append];lia
end
mutual
noncomputable def cb:Pat->Bool
 |.none=>true
 |.one _=>false
 |.row ps=>Ob ps
 |.any ps=>Uf ps
 |.wrap .some p=>cb p
 |.wrap _ _=>true
noncomputable def Ob:List Pat->Bool
 | []=>true
 |p::ps=>cb p&&Ob ps
noncomputable def Uf:List Pat->Bool
 | []=>false
 |p::ps=>cb p||Uf ps
end
theorem Rs:∀ps:List Pat,(ps.map cb).all id=Ob ps
 | []=>rfl
 |p::ps=>by simp only[map_cons,all_cons,id,Ob,Rs ps]
theorem Ss:∀ps:List Pat,(ps.map cb).any id=Uf ps
 | []=>rfl
 |p::ps=>by simp only[map_cons,any_cons,id,Uf,Ss ps]
theorem Km:∀ps qs:List Pat,Ob (ps++qs)=(Ob ps&&Ob qs)
 | [],qs=>by simp[Ob]
 |p::ps,qs=>by simp only[cons_append,Ob,Km ps qs,Bool.and_assoc]
mutual
noncomputable def Za:Pat->List Str
 |.none=>[]
 |.one s=>[s]
 |.row ps=>Tb ps
 |.any ps=>cc ps
 |.wrap _ p=>Za p
noncomputable def Tb:List Pat->List Str
 | []=>[]
 |p::ps=>Za p++(if cb p then Tb ps else[])
noncomputable def cc:List Pat->List Str
 | []=>[]
 |p::ps=>Za p++cc ps
end
mutual
noncomputable def Ta:Pat->List Str
 |.none=>[]
 |.one s=>[s]
 |.row ps=>qc ps
 |.any ps=>Pc ps
 |.wrap _ p=>Ta p
noncomputable def qc:List Pat->List Str
 | []=>[]
 |p::ps=>(if Ob ps then Ta p else[])++qc ps
noncomputable def Pc:List Pat->List Str
 | []=>[]
 |p::ps=>Ta p++Pc ps
end
mutual
theorem Vf:∀p:Pat,(Za p).length<=szP p
 |.none=>by simp[Za]
 |.one _=>by simp[Za,szP]
 |.row ps=>by have:=Lm ps;simp only[Za,szP];lia
 |.any ps=>by have:=Mm ps;simp only[Za,szP];lia
 |.wrap _ p=>by have:=Vf p;simp only[Za,szP];lia
theorem Lm:∀ps:List Pat,(Tb ps).length<=dB ps
 | []=>by simp[Tb]
 |p::ps=>by
  have:=Vf p;have:=Lm ps;simp only[Tb,dB,length_append];split<;>simp<;>lia
theorem Mm:∀ps:List Pat,(cc ps).length<=dB ps
 | []=>by simp[cc]
 |p::ps=>by have:=Vf p;have:=Mm ps;simp only[cc,dB,length_append];lia
end
mutual
theorem Wf:∀p:Pat,(Ta p).length<=szP p
 |.none=>by simp[Ta]
 |.one _=>by simp[Ta,szP]
 |.row ps=>by have:=Nm ps;simp only[Ta,szP];lia
 |.any ps=>by have:=Om ps;simp only[Ta,szP];lia
 |.wrap _ p=>by have:=Wf p;simp only[Ta,szP];lia
theorem Nm:∀ps:List Pat,(qc ps).length<=dB ps
 | []=>by simp[qc]
 |p::ps=>by
  have:=Wf p;have:=Nm ps;simp only[qc,dB,length_append];split<;>simp<;>lia
theorem Om:∀ps:List Pat,(Pc ps).length<=dB ps
 | []=>by simp[Pc]
 |p::ps=>by have:=Wf p;have:=Om ps;simp only[Pc,dB,length_append];lia
end
def Xf(f g:α->D)(xs:List α)(hl:xs.length<=sizeLine)
  (h:∀x∈xs,∀P:D->List VL.Slot->Prop,P (g x) (.fz (f x)::δ)->te (.fz (f x)::δ) fun _ y δ'=>P y δ')(q:Q true (.lst (xs.map g)) δ):Xe 1 (xs.map f) (dgN 0) eG te Q δ:=by
 refine⟨fun r n0 δ1=>δ1=δ/\∃pre l0,xs=pre++l0/\r=l0.map f/\n0=pre.map g,⟨rfl,[],xs,rfl,rfl,rfl⟩,?_,?_⟩
 ·rintro d r n0 δ1 ⟨rfl,pre,l0,e,er,rfl⟩;cases l0 with
  |nil=>cases er
  |cons x l0 =>
   cases er;unfold eG;dsimp only;simp only[↓reduceIte];have hlen:pre.length<sizeLine:=by rw[e]at hl;simp at hl;lia
   exact h x (by rw[e];simp) (fun y δ4=>(pre.map g).length<sizeLine/\drop 1 δ4=δ1/\∃pre' suf',xs=pre'++suf'/\l0.map f=suf'.map f/\pre.map g++[y]=pre'.map g) ⟨by simpa using hlen,rfl,pre++[x],l0,by rw[e];simp,rfl,by simp⟩
 rintro n0 δ1 ⟨rfl,pre,l0,e,er,rfl⟩;have es:l0=[]:=by simpa using er.symm
 subst es;simp at e;subst e;exact q
section
variable {P:Program}{w:World}{K:W.Frag}{mg:Str->Option Value}{base:Heap}{f:Addr}{fd:FuncData}
def CA:RD:=fun δ Q=>∃p:Pat,δ=[.fz (bB p)]/\Q true (.lst (Ma (fB p))) [.no]
structure AE (P:Program)(w:World)(base:Heap)(K:W.Frag)(mg:Str->Option Value):Prop where
 T:Zs K mg
 u1k:∃f fd,Ent K mg "all_parts" oE ["row"] f fd
 u0x:∃f fd,Ent K mg "tuples_beneath" gC ["path","part"] f fd
 u0i:∃f fd,Ent K mg "tuples_with_paths" lB ["paper"] f fd
 u1g:∃f fd,Ent K mg "sign_of" wF ["part"] f fd
 u4x:∃f fd,Ent K mg "word" lH ["row"] f fd
 u0a:∃f fd,Ent K mg "patterns_within" vB ["pattern"] f fd
 u0v:∃f fd,Ent K mg "signs" tG ["pattern"] f fd
 u0y:∃f fd,Ent K mg "bare" mH ["pattern"] f fd
 u0u:∃f fd,Ent K mg "firsts" fG ["pattern"] f fd
 u1m:∃f fd,Ent K mg "lasts" uG ["pattern"] f fd
 u2s:∃f fd,Ent K mg "link" nH ["ends","begins","followers"] f fd
 u1a:∃f fd,Ent K mg "link_row" fF ["patterns","followers"] f fd
 u1d:∃f fd,Ent K mg "link_all" jF ["pattern","followers"] f fd
 u3k:∃f fd,Ent K mg "nexts" vG ["pattern"] f fd
 u4g:∃f fd,Ent K mg "table" wG ["pattern"] f fd
 u3l:∃f fd,Ent K mg "agrees" gG ["told","word"] f fd
 u0t:∃f fd,Ent K mg "look_twice" vD ["rules"] f fd
 u0e:∃f fd,Ent K mg "look_names" wD ["root","rules"] f fd
 u2n:∃f fd,Ent K mg "look" oH ["form"] f fd
 u3m:∃f fd,Ent K mg "tables" hG ["rules"] f fd
 u4i:∃f fd,Ent K mg "holds" xG ["part","known"] f fd
 u3o:∃f fd,Ent K mg "faults" iG ["form","paper"] f fd
 u2o:∃f fd,Ent K mg "is_paper" kF ["form","paper"] f fd
 u3x:∃f fd,Ent K mg "stars" yG ["row"] f fd
 u0f:∃f fd,Ent K mg "look_ferry" xD ["ferry"] f fd
 u3h:∃f fd,Ent K mg "jobs" zG ["parts","target","starred"] f fd
 u4j:∃f fd,Ent K mg "carry" aH ["rules","part","target","starred"] f fd
 u3b:∃f fd,Ent K mg "carried" xF ["rules","row"] f fd
 u1o:∃f fd,Ent K mg "arrives" yF ["ferry","form","paper"] f fd
 u2d:∃f fd,Ent K mg "_law_cell_at" uC ["_law_script","_law_k"] f fd
 u0j:∃f fd,Ent K mg "_law_draws" yD ["_law_script","_law_turn","_law_many_here"] f fd
 u0b:∃f fd,Ent K mg "_law_pop" lF ["_law_draws_here"] f fd
 u2z:∃f fd,Ent K mg "_law_name" pE ["_law_k","_law_draw"] f fd
 u0k:∃f fd,Ent K mg "_law_wrapped" vC ["_law_pattern_here","_law_number"] f fd
 u1j:∃f fd,Ent K mg "_law_pattern" wC ["_law_some","_law_draws_here"] f fd
 u1z:∃f fd,Ent K mg "_law_signs" zD ["_law_names","_law_number"] f fd
 u2y:∃f fd,Ent K mg "_law_form" qE ["_law_script","_law_turn","_law_many_here"] f fd
 u0h:∃f fd,Ent K mg "_law_text" rE ["_law_number"] f fd
 u0w:∃f fd,Ent K mg "_law_word" sE ["_law_pattern_here","_law_draws_here"] f fd
 u0p:∃f fd,Ent K mg "_law_grown" aE ["_law_table","_law_name_here","_law_draws_here","_law_left","_law_deep"] f fd
 u0o:∃f fd,Ent K mg "_law_more" tE ["_law_pattern_here","_law_signs_met","_law_starts"] f fd
 u0d:∃f fd,Ent K mg "_law_ends" uE ["_law_pattern_here","_law_signs_met","_law_starts"] f fd
 u1t:∃f fd,Ent K mg "_law_fits" vE ["_law_pattern_here","_law_row"] f fd
 u1h:∃f fd,Ent K mg "_law_faults" lD ["_law_table","_law_part","_law_path"] f fd
 u1n:∃f fd,Ent K mg "_law_all_faults" wB ["_law_form_here","_law_paper_here"] f fd
 u2a:∃f fd,Ent K mg "_law_paper" bE ["_law_form_here","_law_script","_law_turn","_law_many_here"] f fd
 u0z:∃f fd,Ent K mg "_law_plain" cE ["_law_names","_law_draws_here","_law_deep"] f fd
 u0l:∃f fd,Ent K mg "_law_starred" xC ["_law_row","_law_number"] f fd
 u2b:∃f fd,Ent K mg "_law_ferry" dE ["_law_names","_law_draws_here","_law_many_here"] f fd
 u1i:∃f fd,Ent K mg "_law_filled" mD ["_law_row","_law_inner"] f fd
 u1v:∃f fd,Ent K mg "_law_ferried" yC ["_law_ferry_here","_law_row"] f fd
 u0c:∃f fd,Ent K mg "_law_copy_pattern" mB ["_law_pattern_here"] f fd
 u1u:∃f fd,Ent K mg "_law_copy_form" iC ["_law_form_here"] f fd
 u1c:∃f fd,Ent K mg "_law_copy_row" mC ["_law_row"] f fd
 u2x:∃f fd,Ent K mg "_law_many" wE ["_law_cell"] f fd
 u2f:∃f fd,Ent K mg "_law_kind" xE ["_law_error"] f fd
 u1p:∃f fd,Ent K mg "_law_some_ferry" xB ["_law_names","_law_draws_here"] f fd
 u1w:∃f fd,Ent K mg "_law_refused" zC ["_law_ferry_here","_law_form_here","_law_paper_here"] f fd
 u2g:∃f fd,Ent K mg "_law_parts" eE ["_law_row"] f fd
def En(h:∃f fd,Ent K mg x st ps f fd):Ent K mg x st ps h.choose h.choose_spec.choose:=h.choose_spec.choose_spec
abbrev FE{x:Str}{st:Stmt}{ps:List Str}{P:Program}{w:World}{base:Heap}{K:W.Frag}{mg:Str->Option Value}(_:AE P w base K mg)(C:CXT)(k:Nat)(h:∃f fd,Ent K mg x st ps f fd)(sp:Sp):Prop:=MB P w K mg base C k h.choose h.choose_spec.choose ps sp
def Bj (U:AE P w base K mg):FE U CX0 1 U.u0a (spD CA):=by
 refine VL.Fun.dok (En U.u0a).F jA (by walk_at "a") (by decide) ?_;walk_at "f";obtain⟨p,rfl,q⟩:=h;have hu:=wb hr;refine⟨_,(ka (Ja (La Si ph (xT 0 ba) (Xa (aa Fa (aa Fa ja))) rfl) (ma (Ea (zg Xi Hi rfl U.T.z_list boot_list (aa (xT 0 ba) ja)))) Pa)
  (ka (Ja (La Si ph (xT 0 ba) (Xa (aa Fa (aa Fa (aa Fa ja)))) rfl) (ma (Ea (Ia (aa (xT 0 ba) ja)))) Pa)
  (ma (Ea (Ia ja))))),?_⟩
 have sz:=Oa;cases p with
 |none =>
  simp only[bB];w_how;refine⟨by lia,?_⟩;rw[if_neg (by decide)];refine⟨by lia,?_⟩;rw[if_neg (by decide)];exact⟨by lia,q⟩
 |one s =>
  simp only[bB];w_how;refine⟨by lia,?_⟩;rw[if_neg (by decide)];refine⟨by lia,?_⟩;rw[if_neg (by decide)];exact⟨by lia,q⟩
 |row ps =>
  simp only[bB];w_how;refine⟨by lia,?_⟩;rw[if_pos (.inl trivial)];exact q
 |any ps =>
  simp only[bB];w_how;refine⟨by lia,?_⟩;rw[if_pos (.inr trivial)];exact q
 |wrap k p =>
  cases k<;>simp only[bB,Wk.str]<;>w_how<;>refine⟨by lia,?_⟩<;>rw[if_neg (by decide)]<;>refine⟨by lia,?_⟩;rw[if_pos (.inl trivial)];exact⟨by lia,q⟩;rw[if_pos (.inr (.inl trivial))];exact⟨by lia,q⟩;rw[if_pos (.inr (.inr trivial))];exact⟨by lia,q⟩
def Fc(h:∀δ Q,¬R δ Q):MB P w K mg base CX0 k f fd ps (spD R) :=
 ⟨fun vs H Q E q=>by obtain⟨_,_,_,_,_,_,_,z,_⟩:=q;exact(h _ _ z).elim,fun A V0 s H args us vs Q E _ _ _ _ q=>by obtain⟨_,_,_,_,_,_,_,z,_⟩:=q;exact(h _ _ z).elim⟩
def Pm (p:Pat):(∃s,p=.one s)\/((∀s,p≠.one s)/\∃(z:Str)(r:List D),bB p=.tup (.str z::r)/\z ≠ "one"/\(z = "row"↔∃ps,p=.row ps)):=by
 cases p with
 |one s=>exact .inl ⟨s,rfl⟩
 |none=>exact .inr ⟨(fun s e=>by cases e),"none",_,rfl,by decide,⟨fun h=>absurd h (by decide),(fun⟨_,e⟩=>by cases e)⟩⟩
 |row ps=>exact .inr ⟨(fun s e=>by cases e),"row",_,rfl,by decide,⟨fun _=>⟨ps,rfl⟩,fun _=>rfl⟩⟩
 |any ps=>exact .inr ⟨(fun s e=>by cases e),"any",_,rfl,by decide,⟨fun h=>absurd h (by decide),(fun⟨_,e⟩=>by cases e)⟩⟩
 |wrap k p=>exact .inr ⟨(fun s e=>by cases e),k.str,_,rfl,by cases k<;>decide,⟨fun h=>absurd h (by cases k<;>decide),(fun⟨_,e⟩=>by cases e)⟩⟩
def EA (n:Nat):RD:=fun δ Q=>∃p:Pat,δ=[.fz (bB p)]/\dpP p<n/\szP p<=1000000/\Q true (.lst ((Ba p).map .str)) [.no]
def Qm(U:AE P w base K mg):∀n,FE U CX0 (n+2) U.u0v (spD (EA n)):=by
 have u0q:=Bj U;intro n;induction n with
 |zero=>exact Fc fun δ Q h=>by obtain⟨_,_,h,_⟩:=h;exact not_lt_zero _ h
 |succ n u4e =>
 refine VL.Fun.dok (En U.u0v).F Cm (by walk_at "a") (by decide) ?_;walk_at "f";obtain⟨p,rfl,hdp,hsz,q⟩:=h;refine⟨_,(ka (Ja (La gb bb (xT 0 ba) Fa (Ha _)) (ma (Ea (Ia (aa (xT 0 ba) ja)))) Pa)
  (ka (dq 1 Cm.nd (Ia ja))
  (ka (dsF (fb (Ka u0q (En U.u0a) (aa (dv 0) ja))) (dn 2 Cm.nd) (ma (Gb (Yi zl slot_list_extend type_list_extend eh (pv 1) (aa (Ka u4e (En U.u0v) (aa (dv 2) ja)) ja)))))
  (ma (Ea (dm 1)))))),?_⟩
 have sz:=Oa;rcases Pm p with ⟨s,rfl⟩|⟨h1,z,r,ep,hz,_⟩;simp only[bB];w_how;exact⟨by lia,q⟩;rw[ep];w_how;rw[if_neg (by simpa using hz),<-ep];refine⟨by lia,p,rfl,?_⟩;w_how;refine Jb [2] (fun r δ=>∃pre l0,fB p=pre++l0/\r=Ma l0/\δ=[.fz (bB p),.ob false (.lst ((Qa pre).map .str)),.no]) ⟨[],fB p,rfl,rfl,rfl⟩ ?_ ?_
 ·rintro d r δ ⟨pre,l0,e1,e2,rfl⟩;cases l0 with
  |nil=>cases e2
  |cons c l0 =>
   cases e2;w_how;have hc:c∈fB p:=by rw[e1];simp
   have e5:=Ng p;rw[e1,wc,dB]at e5;have e6:=Og hc;have e7:=Qg c;have e8:=Aj pre;refine⟨c,rfl,by lia,by lia,?_⟩;w_how;refine⟨by simp;lia,pre++[c],l0,by simp[e1],rfl,?_⟩;simp[Pg,Qa]
 rintro δ ⟨pre,l0,e1,e2,rfl⟩;cases l0 with
 |cons c l0=>cases e2
 |nil =>
  w_how;rw[append_nil]at e1;rw[BA h1,e1]at q;exact q
def FA (n:Nat):RD:=fun δ Q=>∃p:Pat,δ=[.fz (bB p)]/\dpP p<n/\szP p<=1000000/\Q false (.bl (cb p)) [.no]
def Cj (U:AE P w base K mg):∀n,FE U CX0 (n+2) U.u0y (spD (FA n)):=by
 intro n;induction n with
 |zero=>exact Fc fun δ Q h=>by obtain⟨_,_,h,_⟩:=h;exact not_lt_zero _ h
 |succ n u3s =>
 refine VL.Fun.dok (En U.u0y).F Ls (by walk_at "a") (by decide) ?_;walk_at "f";obtain⟨p,rfl,hdp,hsz,q⟩:=h;refine⟨_,(ka (dq 1 Ls.nd (xT 0 ba))
  (ka (Ja (La gb bb (dv 1) Fa (Ha _)) (ma (Ea (yg cs_all (Zw rfl) rfl U.T.z_all boot_all (aa (Oc tg1 (fb (xT 0 ba)) (fun _=>Vc) (fun _=>(Ka u3s (En U.u0y) (aa (dv 0) ja)))) ja)))) Pa)
  (ka (Ja (La gb bb (dv 1) Fa (Ha _)) (ma (Ea (yg Yy (ax rfl) rfl U.T.z_any boot_any (aa (Oc tg1 (fb (xT 0 ba)) (fun _=>Vc) (fun _=>(Ka u3s (En U.u0y) (aa (dv 0) ja)))) ja)))) Pa)
  (ka (Ja (La gb bb (dv 1) Fa (Ha _)) (ma (Ea (Ka u3s (En U.u0y) (aa (xT 0 ba) ja)))) Pa)
  (ma (Ea (yh wg lf (dv 1) Fa (Ha _)))))))),?_⟩
 have sz:=Oa;cases p with
 |none =>
  simp only[bB];w_how;rw[if_neg (by decide),if_neg (by decide),if_neg (by decide)];exact q
 |one s =>
  simp only[bB];w_how;rw[if_neg (by decide),if_neg (by decide),if_neg (by decide)];exact q
 |row ps =>
  simp only[bB];simp only[dpP]at hdp;simp only[szP]at hsz;have hl:=Je ps;w_how;rw[Cd];refine Xf bB (fun p=>.bl (cb p)) ps (by lia) (fun c hc Pq hP=>?_) ?_;have h1:=Ud hc;have h2:=Tf hc;w_how;refine⟨c,rfl,by lia,by lia,?_⟩;w_how;exact hP;refine⟨ps.map cb,by simp,?_⟩;w_how;rw[Rs];exact q
 |any ps =>
  simp only[bB];simp only[dpP]at hdp;simp only[szP]at hsz;have hl:=Je ps;w_how;rw[if_neg (by decide)];rw[Cd];refine Xf bB (fun p=>.bl (cb p)) ps (by lia) (fun c hc Pq hP=>?_) ?_;have h1:=Ud hc;have h2:=Tf hc;w_how;refine⟨c,rfl,by lia,by lia,?_⟩;w_how;exact hP;refine⟨ps.map cb,by simp,?_⟩;w_how;rw[Ss];exact q
 |wrap k p =>
  simp only[dpP]at hdp;simp only[szP]at hsz;cases k with
  |maybe =>
   simp only[bB,Wk.str];w_how;rw[if_neg (by decide),if_neg (by decide),if_neg (by decide)];exact q
  |many =>
   simp only[bB,Wk.str];w_how;rw[if_neg (by decide),if_neg (by decide),if_neg (by decide)];exact q
  |some =>
   simp only[bB,Wk.str];w_how;rw[if_neg (by decide),if_neg (by decide)];exact⟨p,rfl,by lia,by lia,q⟩
theorem Ts:∀ps qs:List Pat,cc (ps++qs)=cc ps++cc qs
 | [],qs=>by simp[cc]
 |p::ps,qs=>by simp only[cons_append,cc,Ts ps qs,append_assoc]
theorem Rm:∀ps qs:List Pat,Ob ps=true->Tb (ps++qs)=Tb ps++Tb qs
 | [],qs,_=>by simp[Tb]
 |p::ps,qs,h=>by
  simp only[Ob,and_eq_true]at h;simp only[cons_append,Tb,h.1,if_true,Rm ps qs h.2,append_assoc]
theorem Us:∀ps qs:List Pat,Ob qs=false->qc (ps++qs)=qc qs
 | [],qs,_=>rfl
 |p::ps,qs,h=>by
  have e:Ob (ps++qs)=false:=by rw[Km,h,Bool.and_false]
  simp only[cons_append,qc,e,Us ps qs h];simp
def GA(h:∀s,p≠.one s)(h':∀ps,p≠.row ps):Za p=cc (fB p):=by
 cases p with
 |one s=>exact absurd rfl (h s)
 |row ps=>exact absurd rfl (h' ps)
 |_=>simp[Za,cc,fB]
def HA(h:∀s,p≠.one s)(h':∀ps,p≠.row ps):Ta p=Pc (fB p):=by
 cases p with
 |one s=>exact absurd rfl (h s)
 |row ps=>exact absurd rfl (h' ps)
 |_=>simp[Ta,Pc,fB]
def Dj (ps qs:List Pat):Ma (ps++qs)=Ma ps++Ma qs:=by simp[Cd]
def IA (n:Nat):RD:=fun δ Q=>∃p:Pat,δ=[.fz (bB p)]/\dpP p<n/\szP p<=1000000/\Q true (.lst ((Za p).map .str)) [.no]
def JA (n:Nat):RD:=fun δ Q=>∃p:Pat,δ=[.fz (bB p)]/\dpP p<n/\szP p<=1000000/\Q true (.lst ((Ta p).map .str)) [.no]
def Sm(U:AE P w base K mg):∀n,FE U CX0 (n+3) U.u0u (spD (IA n)):=by
 have u0q:=Bj U;intro n;induction n with
 |zero=>exact Fc fun δ Q h=>by obtain⟨_,_,h,_⟩:=h;exact not_lt_zero _ h
 |succ n u3j =>
 have u3s:=Cj U n;refine VL.Fun.dok (En U.u0u).F Dm (by walk_at "a") (by decide) ?_;walk_at "f";obtain⟨p,rfl,hdp,hsz,q⟩:=h;refine⟨_,(ka (Ja (La gb bb (xT 0 ba) Fa (Ha _)) (ma (Ea (Ia (aa (xT 0 ba) ja)))) Pa)
  (ka (dq 1 Dm.nd (Ia ja))
  (ka (dsF (fb (Ka u0q (En U.u0a) (aa (dv 0) ja))) (dn 2 Dm.nd) (ka (Gb (Yi zl slot_list_extend type_list_extend eh (pv 1) (aa (Ka u3j (En U.u0u) (aa (dv 2) ja)) ja)))
  (ma (Ja (aG (Cf (La gb bb (xT 0 ba) Fa (Ha _)) (Bf (fe (Mc (Ka u3s (En U.u0y) (aa (dv 2) ja))))))) (ma Xq) Pa))))
  (ma (Ea (dm 1)))))),?_⟩
 have sz:=Oa;rcases Pm p with ⟨s,rfl⟩|⟨h1,z,r,ep,hz,hrow⟩;simp only[bB];w_how;exact⟨by lia,q⟩;have er:=ep;rw[ep];w_how;rw[if_neg (by simpa using hz),<-ep];refine⟨by lia,p,rfl,?_⟩;w_how;by_cases hzr:z = "row"
 ·obtain⟨ps,rfl⟩:=hrow.mp hzr;subst hzr;simp only[fB] at *
  refine Jb [2] (fun r δ=>∃pre l0,ps=pre++l0/\r=Ma l0/\Ob pre=true/\δ=[.fz (bB (.row ps)),.ob false (.lst ((Tb pre).map .str)),.no]) ⟨[],ps,rfl,rfl,rfl,rfl⟩ ?_ ?_
  ·rintro d r δ ⟨pre,l0,e1,e2,hb,rfl⟩;cases l0 with
   |nil=>cases e2
   |cons c l0 =>
    cases e2;simp only[bB];w_how;have hc:c∈fB (.row ps):=by rw[e1];simp[fB]
    have e5:=Ng (.row ps);rw[show fB (.row ps)=ps from rfl,e1,wc,dB]at e5;rw[<-e1]at e5;have e6:=Og hc;have e7:=Vf c;have e9:=Lm pre;refine⟨c,rfl,by lia,by lia,?_⟩;w_how;refine⟨by simp;lia,c,rfl,by lia,by lia,?_⟩;w_how;cases hbc:cb c with
    |true =>
     rw[if_neg (by simp)];refine⟨pre++[c],l0,by simp[e1],rfl,by simp[Km,Ob,hb,hbc],?_⟩;rw[Rm _ _ hb];simp[Tb]
    |false =>
     rw[if_pos (by simp)];simp only[Za,e1,Rm _ _ hb,Tb,hbc]at q;simpa using q
  rintro δ ⟨pre,l0,e1,e2,hb,rfl⟩;cases l0 with
  |cons c l0=>cases e2
  |nil =>
   w_how;rw[append_nil]at e1;subst e1;exact q
 have hnr:∀ps,p≠.row ps:=fun ps e=>hzr (hrow.mpr ⟨ps,e⟩);refine Jb [2] (fun r δ=>∃pre l0,fB p=pre++l0/\r=Ma l0/\δ=[.fz (bB p),.ob false (.lst ((cc pre).map .str)),.no]) ⟨[],fB p,rfl,rfl,rfl⟩ ?_ ?_
 ·rintro d r δ ⟨pre,l0,e1,e2,rfl⟩;cases l0 with
  |nil=>cases e2
  |cons c l0 =>
   cases e2;rw[ep];w_how;have hc:c∈fB p:=by rw[e1];simp
   have e5:=Ng p;rw[e1,wc,dB]at e5;have e6:=Og hc;have e7:=Vf c;have e9:=Mm pre;refine⟨c,rfl,by lia,by lia,?_⟩;w_how;refine⟨by simp;lia,?_⟩;rw[if_neg (by simpa using hzr)];refine⟨pre++[c],l0,by simp[e1],rfl,?_⟩;rw[Ts];simp[cc]
 rintro δ ⟨pre,l0,e1,e2,rfl⟩;cases l0 with
 |cons c l0=>cases e2
 |nil =>
  w_how;rw[append_nil]at e1;rw[GA h1 hnr,e1]at q;exact q
def Um(U:AE P w base K mg):∀n,FE U CX0 (n+3) U.u1m (spD (JA n)):=by
 have u0q:=Bj U;intro n;induction n with
 |zero=>exact Fc fun δ Q h=>by obtain⟨_,_,h,_⟩:=h;exact not_lt_zero _ h
 |succ n u4f =>
 have u3s:=Cj U n;refine VL.Fun.dok (En U.u1m).F pj (by walk_at "a") (by decide) ?_;walk_at "f";obtain⟨p,rfl,hdp,hsz,q⟩:=h;refine⟨_,(ka (Ja (La gb bb (xT 0 ba) Fa (Ha _)) (ma (Ea (Ia (aa (xT 0 ba) ja)))) Pa)
  (ka (dq 1 pj.nd (Ia ja))
  (ka (dsF (az rfl U.T.z_reversed (Ka u0q (En U.u0a) (aa (dv 0) ja))) (dn 2 pj.nd) (ka (dq 1 pj.nd (za Sb ub (Ka u4f (En U.u1m) (aa (dv 2) ja)) (dv 1)))
  (ma (Ja (aG (Cf (La gb bb (xT 0 ba) Fa (Ha _)) (Bf (fe (Mc (Ka u3s (En U.u0y) (aa (dv 2) ja))))))) (ma Xq) Pa))))
  (ma (Ea (dm 1)))))),?_⟩
 have sz:=Oa;rcases Pm p with ⟨s,rfl⟩|⟨h1,z,r,ep,hz,hrow⟩;simp only[bB];w_how;exact⟨by lia,q⟩;have er:=ep;rw[ep];w_how;rw[if_neg (by simpa using hz),<-ep];refine⟨by lia,p,rfl,?_⟩;w_how;by_cases hzr:z = "row"
 ·obtain⟨ps,rfl⟩:=hrow.mp hzr;subst hzr;simp only[fB] at *
  refine Jb [2] (fun r δ=>∃pre l0,ps=pre++l0/\r=(Ma pre).reverse/\Ob l0=true/\δ=[.fz (bB (.row ps)),.ob false (.lst ((qc l0).map .str)),.no]) ⟨ps,[],by simp,rfl,rfl,rfl⟩ ?_ ?_
  ·rintro d r δ ⟨pre,l0,e1,e2,hb,rfl⟩;rcases List.eq_nil_or_concat pre with rfl|⟨pre,c,rfl⟩;cases e2;rw[concat_eq_append,Dj,Ma,Ma,reverse_append]at e2;cases e2;rw[concat_eq_append,append_assoc]at e1;simp only[bB];w_how;have hc:c∈fB (.row ps):=by rw[e1];simp[fB]
   have e5:=Ng (.row ps);rw[show fB (.row ps)=ps from rfl,e1,wc,wc,dB,dB]at e5;rw[<-e1]at e5;have e6:=Og hc;have e7:=Wf c;have e9:=Nm l0;refine⟨c,rfl,by lia,by lia,?_⟩;w_how;refine⟨by simp;lia,c,rfl,by lia,by lia,?_⟩;w_how;have el:qc (c::l0)=Ta c++qc l0:=by simp[qc,hb]
   cases hbc:cb c with
   |true =>
    rw[if_neg (by simp)];refine⟨pre,c::l0,by simp[e1],rfl,by simp[Ob,hb,hbc],?_⟩;rw[el];simp
   |false =>
    rw[if_pos (by simp)];have en:Ob (c::l0)=false:=by simp[Ob,hbc]
    have eq:Ta (.row ps)=Ta c++qc l0:=by
     rw[Ta,e1,List.singleton_append,Us _ _ en,el]
    rw[eq]at q;simpa using q
  rintro δ ⟨pre,l0,e1,e2,hb,rfl⟩;have ep:pre=[]:=by
   have:=congrArg List.length e2;rw[length_reverse,Mg]at this;exact length_eq_zero_iff.mp this.symm
  subst ep;w_how;rw[nil_append]at e1;subst e1;exact q
 have hnr:∀ps,p≠.row ps:=fun ps e=>hzr (hrow.mpr ⟨ps,e⟩);refine Jb [2] (fun r δ=>∃pre l0,fB p=pre++l0/\r=(Ma pre).reverse/\δ=[.fz (bB p),.ob false (.lst ((Pc l0).map .str)),.no]) ⟨fB p,[],by simp,rfl,rfl⟩ ?_ ?_
 ·rintro d r δ ⟨pre,l0,e1,e2,rfl⟩;rcases List.eq_nil_or_concat pre with rfl|⟨pre,c,rfl⟩;cases e2;rw[concat_eq_append,Dj,Ma,Ma,reverse_append]at e2;cases e2;rw[concat_eq_append,append_assoc]at e1;rw[ep];w_how;have hc:c∈fB p:=by rw[e1];simp
  have e5:=Ng p;rw[e1,wc,wc,dB,dB]at e5;have e6:=Og hc;have e7:=Wf c;have e9:=Om l0;refine⟨c,rfl,by lia,by lia,?_⟩;w_how;refine⟨by simp;lia,?_⟩;rw[if_neg (by simpa using hzr)];refine⟨pre,c::l0,by simp[e1],rfl,?_⟩;simp[Pc]
 rintro δ ⟨pre,l0,e1,e2,rfl⟩;have ep':pre=[]:=by
  have:=congrArg List.length e2;rw[length_reverse,Mg]at this;exact length_eq_zero_iff.mp this.symm
 subst ep';w_how;rw[nil_append]at e1;rw[HA h1 hnr,e1]at q;exact q
end
local macro_rules|`(tactic| walk_at "rd")=>do
 let v<-("L2.start tSeq q4s tAsg x0c tVar tC tOp rI0 q8u tIfS tRet x7f z8n tCB y0i tNil tNot tAnd tB tTup tLst j6j j4z tIf tRev rEq scII z5s z7h rCat gTup j3t gNil tLM tDIn z7c j6k j6g q0s upd_none z0g and_imp ne_eq HO.lst.injEq HO.tup.injEq q9z j1l Int.toNat_natCast q9r List.map_cons List.map_nil List.length_cons List.length_nil Nat.reduceAdd Nat.reduceSub List.replicate_succ List.replicate_zero List.cons_append List.nil_append List.append_nil List.getElem?_cons_zero List.getElem?_cons_succ List.set_cons_zero List.set_cons_succ Option.some.injEq V.int.injEq V.str.injEq V.ref.injEq V.bl.injEq V.ty.injEq List.cons.injEq exists_eq_left' exists_eq_left exists_eq' and_true true_and and_assoc exists_and_left reduceCtorEq false_and exists_false false_or or_false decide_eq_true_eq if_true if_false Bool.true_eq_false Bool.false_eq_true Bool.not_true Bool.not_false Bool.not_eq_eq_eq_not q2j x8g rIsX tTry y8k".splitOn " ").mapM fun n=>`(Lean.Parser.Tactic.simpLemma| $(Lean.mkIdent n.toName):term)
 `(tactic|((try dsimp only[$(v.toArray),*]);(try simp only[$(v.toArray),*])))
local macro_rules|`(tactic| walk_at "rs")=>do
 let v<-("L2.start tSeq q4s tAsg x0c tVar tC tOp rI0 q8u tRet x7f z8n tCB y0i tNil tNot tAnd tB tTup tLst j6j j4z tIf tRev rEq scII z5s z7h rCat gTup j3t gNil tLM tDIn z7c j6k j6g q0s upd_none z0g and_imp ne_eq HO.lst.injEq HO.tup.injEq q9z j1l Int.toNat_natCast q9r List.map_cons List.map_nil List.length_cons List.length_nil Nat.reduceAdd Nat.reduceSub List.replicate_succ List.replicate_zero List.cons_append List.nil_append List.append_nil List.getElem?_cons_zero List.getElem?_cons_succ List.set_cons_zero List.set_cons_succ Option.some.injEq V.int.injEq V.str.injEq V.ref.injEq V.bl.injEq V.ty.injEq List.cons.injEq exists_eq_left' exists_eq_left exists_eq' and_true true_and and_assoc exists_and_left reduceCtorEq false_and exists_false false_or or_false decide_eq_true_eq if_true if_false Bool.true_eq_false Bool.false_eq_true Bool.not_true Bool.not_false Bool.not_eq_eq_eq_not q2j x8g rIsX tTry y8k".splitOn " ").mapM fun n=>`(Lean.Parser.Tactic.simpLemma| $(Lean.mkIdent n.toName):term)
 `(tactic|((try dsimp only[$(v.toArray),*]);(try simp only[$(v.toArray),*])))
def hu1(h:n+100<cLine):n+1<cLine:=by lia
def Dd(r:DB H ds vs)(h:R (ds.map .fz) Qd)(k:∀b d δ' v H',BB H H'->Qd b d δ'->Rep H' d v->Q v H'):spD R vs H Q E:=by refine⟨_,[],H,_,Qd,fun p a e=>by simp at e,Cg (BB.refl _) r,h,fun b d v δ' F' H' I q=>?_⟩;obtain⟨F2,s,I2,rv⟩:=I.fr;exact k b d δ' v H' I.base q (Rep.mono I2.sub _ _ rv)
def KA(h:∀vs H Q E,¬S vs H Q E):MB P w K mg base CX0 k f fd ps S :=
 ⟨fun vs H Q E q=>(h _ _ _ _ q).elim,fun A V0 s H args us vs Q E _ _ _ _ q=>(h _ _ _ _ q).elim⟩
structure Fol (H:Hp)(a:Addr)(okvs:List (Key×V))(S:List Str)(ad:Str->Addr)(M:Str->Str->Bool)(c:Nat):Prop where
 at_:H a=some (.dK okvs)
 out:∀s∈S,iB okvs (.inr s)=some (.ref (ad s))
 inj:∀s∈S,∀s' ∈ S,ad s=ad s'->s=s'
 na:∀s∈S,ad s≠a
 inn:∀s∈S,∃Y0,H (ad s)=some (.dK Y0)/\Y0.length<=c/\(∀kv∈Y0,kv.2=.bl true/\∃t,kv.1=.inr t)/\∀t,(iB Y0 (.inr t)).isSome=M s t
def Kp (S:List Str)(ad:Str->Addr)(H H':Hp):Prop:=∀b o,(∀s∈S,b≠ad s)->H b=some o->H' b=some o
def Kp.refl:Kp S ad H H:=fun _ _ _ e=>e
def Kp.trans(h:Kp S ad H H')(h':Kp S ad H' H''):Kp S ad H H'':=fun b o n e=>h' b o n (h b o n e)
def Kp.of(h:BB H H'):Kp S ad H H':=fun b o _ e=>h b o e
section
variable {H:Hp}{a:Addr}{okvs:List (Key×V)}{S:List Str}{ad:Str->Addr}{M:Str->Str->Bool}{c:Nat}
def Fol.lst (h:Fol H a okvs S ad M c)(e:H b=some (.lst xs)):∀s∈S,b≠ad s:=fun s hs z=>by
 obtain⟨Y0,e',_⟩:=h.inn s hs;rw[<-z,e]at e';cases e'
def Fol.tup (h:Fol H a okvs S ad M c)(e:H b=some (.tup xs)):∀s∈S,b≠ad s:=fun s hs z=>by
 obtain⟨Y0,e',_⟩:=h.inn s hs;rw[<-z,e]at e';cases e'
def Fol.same(h:Fol H a okvs S ad M c)(s:BB H H'):Fol H' a okvs S ad M c :=
 ⟨s _ _ h.at_,h.out,h.inj,h.na,fun z hz=>by obtain⟨Y0,e,r⟩:=h.inn z hz;exact⟨Y0,s _ _ e,r⟩⟩
def Fol.cong(h:Fol H a okvs S ad M c)(e:∀s∈S,∀t,M s t=M' s t)(l:c<=c'):Fol H a okvs S ad M' c' :=
 ⟨h.at_,h.out,h.inj,h.na,fun z hz=>by obtain⟨Y0,e1,e2,e3,e4⟩:=h.inn z hz;exact⟨Y0,e1,by lia,e3,fun t=>by rw[e4,e z hz]⟩⟩
def Vs[DecidableEq κ](Y0:List (κ×V))(k:κ)(v:V):(rB Y0 k v).length<=Y0.length+1:=by unfold rB;split<;>simp
def LA[DecidableEq κ]{Y0:List (κ×V)}{k:κ}{kv:κ×V}(h:kv∈rB Y0 k v):kv∈Y0\/kv=(k,v):=by
 unfold rB at h;split at h
 ·obtain⟨q,hq,e⟩:=mem_map.mp h;split at e;rename_i z;right;rw[<-e,z];left;rw[<-e];exact hq
 rcases mem_append.mp h with h|h;exact .inl h;exact .inr (by simpa using h)
def Fol.put {Y0:List (Key×V)}{s t:Str}(h:Fol H a okvs S ad M c)(hs:s∈S)(e:H (ad s)=some (.dK Y0)) :
  Fol (upd H (ad s) (.dK (rB Y0 (.inr t) (.bl true)))) a okvs S ad (fun s' t'=>M s' t'||(decide (s' = s)&&decide (t' = t))) (c+1) where
 at_:=by rw[ya fun z=>h.na s hs z.symm];exact h.at_
 out:=h.out
 inj:=h.inj
 na:=h.na
 inn:=fun s' hs'=>by
  by_cases z:s' = s
  ·subst z;obtain⟨kvs',e',l,all,m⟩:=h.inn s' hs';rw[e]at e';cases e';refine⟨_,z0g,le_trans (Vs _ _ _) (by lia),fun kv hkv=>?_,fun t'=>?_⟩
   ·rcases LA hkv with hk|rfl;exact all kv hk;exact⟨rfl,t,rfl⟩
   rw[fq];by_cases zt:t' = t;subst zt;simp;rw[if_neg (fun z=>zt (Sum.inr.inj z)),m];simp[zt]
  obtain⟨kvs',e',l,all,m⟩:=h.inn s' hs';refine⟨kvs',by rw[ya fun y=>z (h.inj s' hs' s hs y)];exact e',by lia,all,fun t'=>?_⟩;rw[m];simp[z]
variable {P:Program}{w:World}{K:W.Frag}{mg:Str->Option Value}{base:Heap}{f:Addr}{fd:FuncData}
def MA:Sp:=fun vs H Q _=>∃(e b a:Addr)(ends begins:List Str)(okvs:List (Key×V))(S:List Str)(ad:Str->Addr)(M:Str->Str->Bool)(c:Nat),vs=[.ref e,.ref b,.ref a]/\H e=some (.lst (ends.map .str))/\H b=some (.lst (begins.map .str))/\Fol H a okvs S ad M c /\
 (∀s∈ends,s∈S)/\ends.length<=100/\begins.length<=100/\c+10000<sizeLine/\∀H',Kp S ad H H'->Fol H' a okvs S ad (fun s t=>M s t||(decide (s∈ends)&&decide (t∈begins))) (c+10000)->Q .non H'
def Ws (U:AE P w base K mg):FE U CX0 1 U.u2s MA:=by
 refine (En U.u2s).F.ok Em (fun vs H Q E h=>?_) (fun cdv A V0 s H vs Q E hr h=>?_);obtain⟨_,_,_,_,_,_,_,_,_,_,rfl,_⟩:=h;rfl;obtain⟨e,b,a,ends,begins,okvs,S,ad,M,c,rfl,he,hb,fo,sub,l1,l2,hc,q⟩:=h;have hu:=wb hr;refine⟨_,(Ya (Re PassesOwn.never rfl (ze (pv 0)) (jd (i:=3) Em.nd rfl (Or.inl rfl)) (Ya (Re PassesOwn.never rfl (ze (pv 1)) (jd (i:=4) Em.nd rfl (Or.inl rfl)) (Ya (Ei (hu1 hu) (Di (hu1 hu) (pv 2) (pv 3) (fun _ _=>rfl)) (pv 4) nk rfl)))))),?_⟩;have sz:=Oa;walk_at "rs";refine⟨⟨_,SqL.of he⟩,uf (xs:=ends.map .str) (fun i σ H'=>∃x3 x4,σ=[some (.ref e),some (.ref b),some (.ref a),x3,x4]/\Kp S ad H H'/\Fol H' a okvs S ad (fun s t=>M s t||(decide (s∈ends.take i)&&decide (t∈begins))) (c+100 * i)) ⟨_,_,rfl,Kp.refl,fo.cong (fun s _ t=>by simp) (by lia)⟩ (fun i σ H' _ h=>?_) (fun i x σ H' hx h=>?_) fun σ H' h=>?_⟩;obtain⟨_,_,_,kp,_⟩:=h;exact SqL.of (kp _ _ (fo.lst he) he)
 ·obtain⟨x3,x4,rfl,kp,fo1⟩:=h;obtain⟨s,hs,rfl⟩:∃s,ends[i]? = some s/\x=.str s:=by
   rw[getElem?_map]at hx;obtain⟨s,h1,h2⟩:=map_eq_some_iff.mp hx;exact⟨s,h1,h2.symm⟩
  have hi:=(List.getElem?_eq_some_iff.mp hs).1;have hsS:s∈S:=sub s (mem_of_getElem? hs);walk_at "rs";have hb':H' b=some (.lst (begins.map .str)):=kp _ _ (fo.lst hb) hb;refine⟨⟨_,SqL.of hb'⟩,uf (xs:=begins.map .str) (fun j σ H2=>∃x4,σ=[some (.ref e),some (.ref b),some (.ref a),some (.str s),x4]/\Kp S ad H H2/\Fol H2 a okvs S ad (fun s' t=>M s' t||(decide (s' ∈ ends.take i)&&decide (t∈begins))||(decide (s' = s)&&decide (t∈begins.take j))) (c+100 * i+j)) ⟨_,rfl,kp,fo1.cong (fun s _ t=>by simp) (by lia)⟩ (fun j σ H2 _ h=>?_) (fun j x σ H2 hx h=>?_) fun σ H2 h=>?_⟩;obtain⟨_,_,kp,_⟩:=h;exact SqL.of (kp _ _ (fo.lst hb) hb)
  ·obtain⟨x4,rfl,kp2,fo2⟩:=h;obtain⟨t,ht,rfl⟩:∃t,begins[j]? = some t/\x=.str t:=by
    rw[getElem?_map]at hx;obtain⟨s,h1,h2⟩:=map_eq_some_iff.mp hx;exact⟨s,h1,h2.symm⟩
   have hj:=(List.getElem?_eq_some_iff.mp ht).1;obtain⟨Y0,ek,lk,_⟩:=fo2.inn s hsS;walk_at "rd";refine⟨_,NB.s fo2.at_ (fo2.out s hsS),ad s,rfl,_,HC.s ek (by lia),fun b' o n e'=>?_,(fo2.put (t:=t) hsS ek).cong (fun s' _ t'=>?_) (by lia)⟩;rw[ya (n s hsS)];exact kp2 b' o n e';have et:begins.take (j+1)=begins.take j++[t]:=by rw[take_add_one,ht];rfl
   rw[et];simp only[mem_append,mem_singleton];by_cases z1:s' = s<;>by_cases z2:t' ∈ begins.take j<;>by_cases z3:t' = t<;>simp[z1,z2,z3]
  obtain⟨x4,rfl,kp2,fo2⟩:=h;refine⟨_,_,rfl,kp2,fo2.cong (fun s' _ t=>?_) (by rw[length_map];lia)⟩;have et:ends.take (i+1)=ends.take i++[s]:=by rw[take_add_one,hs];rfl
  rw[et,length_map,take_length];simp only[mem_append,mem_singleton];by_cases z1:s' ∈ ends.take i<;>by_cases z2:s' = s<;>by_cases z3:t∈begins<;>simp[z1,z2,z3]
 obtain⟨x3,x4,rfl,kp,fo1⟩:=h;rw[length_map,take_length]at fo1;exact q _ kp (fo1.cong (fun _ _ _=>rfl) (by lia))
noncomputable def Yb:List Str->List Pat->Str->Str->Bool
 |_,[]=>fun _ _=>false
 |ends,c::cs=>fun s t=>(decide (s∈ends)&&decide (t∈Za c))||Yb (Ta c++if cb c then ends else[]) cs s t
mutual
noncomputable def LkP:Pat->Str->Str->Bool
 |.none=>fun _ _=>false
 |.one _=>fun _ _=>false
 |.row ps=>fun s t=>LkL ps s t||Yb [] ps s t
 |.any ps=>fun s t=>LkL ps s t
 |.wrap .maybe p=>fun s t=>LkP p s t
 |.wrap _ p=>fun s t=>LkP p s t||(decide (s∈Ta p)&&decide (t∈Za p))
noncomputable def LkL:List Pat->Str->Str->Bool
 | []=>fun _ _=>false
 |p::ps=>fun s t=>LkP p s t||LkL ps s t
end
mutual
theorem Ke {s:Str}:∀p:Pat,s∈Ta p->s∈Ba p
 |.none,h=>by simp[Ta]at h
 |.one _,h=>by simpa[Ta,Ba] using h
 |.row ps,h=>by simp only[Ta,Ba]at h ⊢;exact Vm ps h
 |.any ps,h=>by simp only[Ta,Ba]at h ⊢;exact Wm ps h
 |.wrap _ p,h=>by simp only[Ta,Ba]at h ⊢;exact Ke p h
theorem Vm {s:Str}:∀ps:List Pat,s∈qc ps->s∈Qa ps
 | [],h=>by simp[qc]at h
 |p::ps,h=>by
  simp only[qc,Qa,mem_append]at h ⊢;rcases h with h|h
  ·split at h;exact .inl (Ke p h);cases h
  exact .inr (Vm ps h)
theorem Wm {s:Str}:∀ps:List Pat,s∈Pc ps->s∈Qa ps
 | [],h=>by simp[Pc]at h
 |p::ps,h=>by
  simp only[Pc,Qa,mem_append]at h ⊢;rcases h with h|h;exact .inl (Ke p h);exact .inr (Wm ps h)
end
theorem Xm{c:Pat}:∀{ps:List Pat},c∈ps->s∈Ba c->s∈Qa ps
 |q::ps,h,hs=>by
  simp only[Qa,mem_append];rcases mem_cons.mp h with rfl|h;exact .inl hs;exact .inr (Xm h hs)
def Kp.frz(h:Kp S ad H H')(s:BB F H)(n:∀s∈S,F (ad s)=none):BB F H':=fun b o e=>h b o (fun z hz y=>by rw[y,n z hz]at e;cases e) (s b o e)
theorem Xs:∀{ps:List Pat}{vs:List V}{i:Nat}{v:V},DB F (Ma ps) vs->vs[i]? = some v->∃c,ps[i]? = some c/\Rep F (bB c) v
 |ps,vs,i,v,r,e=>by
  obtain⟨d,ed,rd⟩:=r.get' e;rw[Cd,getElem?_map]at ed;obtain⟨c,ec,rfl⟩:=map_eq_some_iff.mp ed;exact⟨c,ec,rd⟩
def NA (n:Nat):Sp:=fun vs H Q _=>∃(l a:Addr)(ps:List Pat)(F:Hp)(okvs:List (Key×V))(S:List Str)(ad:Str->Addr)(M:Str->Str->Bool)(c:Nat),vs=[.ref l,.ref a]/\Rep F (.lst (Ma ps)) (.ref l)/\BB F H/\(∀s∈S,F (ad s)=none)/\Fol H a okvs S ad M c /\
 (∀s∈Qa ps,s∈S)/\dB ps<=100/\yB ps<n/\c+10000 * ps.length<sizeLine/\∀H',Kp S ad H H'->Fol H' a okvs S ad (fun s t=>M s t||Yb [] ps s t) (c+10000 * ps.length)->Q .non H'
def OA(U:AE P w base K mg)(n:Nat) :
  FE U CX0 (n+4) U.u1a (NA n):=by
 have u6o:=Ws U;have u3j:=Sm U n;have u4f:=Um U n;have u3s:=Cj U n;refine (En U.u1a).F.ok qj (fun vs H Q E h=>?_) (fun cdv A V0 s H vs Q E hr h=>?_);obtain⟨_,_,_,_,_,_,_,_,_,rfl,_⟩:=h;rfl;obtain⟨l,a,ps,F,okvs,S,ad,M,c,rfl,⟨_,us,e0,hl,rl⟩,sF,nF,fo,sub,l1,l2,hc,q⟩:=h;cases e0;have hu:=wb hr;refine⟨_,(Ra (Cb (i:=2) qj.nd rfl (Or.inl rfl) (ac Da))
  (Ya (Re PassesOwn.never rfl (ze (pv 0)) (jd (i:=3) qj.nd rfl (Or.inl rfl)) (Ra (Vb (zb u6o (En U.u2s) (Aa (pv 2) (Aa (zb u3j (En U.u0u) (Aa (pv 3) Da)) (Aa (pv 1) Da)))))
  (Ya (Cb (i:=2) qj.nd rfl (Or.inl rfl) (Se ub (zb u4f (En U.u1m) (Aa (pv 3) Da)) (bp (Zc (zb u3s (En U.u0y) (Aa (pv 3) Da))) (pv 2) (ac Da))))))))),?_⟩
 have sz:=Oa;have plen:=Je ps;have ulen:=rl.len;rw[Mg]at ulen;walk_at "rs";refine⟨by lia,fun p hp=>?_⟩;have s0:BB H (upd H p (.lst [])):=BB.of_new hp;refine⟨⟨us,SqL.of (s0 _ _ (sF _ _ hl))⟩,uf (xs:=us) (fun i σ H'=>∃e Es M' x3,σ=[some (.ref l),some (.ref a),some (.ref e),x3]/\H' e=some (.lst (Es.map .str))/\(∀s∈Es,s∈S)/\Es.length<=dB (ps.take i)/\Kp S ad H H'/\Fol H' a okvs S ad M' (c+10000 * i)/\∀s t,(M' s t||Yb Es (ps.drop i) s t)=(M s t||Yb [] ps s t)) ⟨p,[],M,_,rfl,z0g,fun s h=>(by cases h),by simp,Kp.of s0,(fo.same s0).cong (fun _ _ _=>rfl) (by lia),fun _ _=>rfl⟩ (fun i σ H' _ h=>?_) (fun i x σ H' hx h=>?_) fun σ H' h=>?_⟩;obtain⟨_,_,_,_,_,_,_,_,kp,_⟩:=h;exact SqL.of (kp.frz sF nF _ _ hl)
 ·obtain⟨e,Es,M',x3,rfl,he,hEs,lEs,kp,fo1,eqn⟩:=h;obtain⟨ch,hch,rch⟩:=Xs rl hx;have hmem:=mem_of_getElem? hch;have d1:=Ud hmem;have z1:=Tf hmem;have f1:=Vf ch;have la1:=Wf ch;have hi:=(List.getElem?_eq_some_iff.mp hch).1;have et:ps.take (i+1)=ps.take i++[ch]:=by rw[take_add_one,hch];rfl
  have ed:ps.drop i=ch::ps.drop (i+1):=by
   obtain⟨hi,e⟩:=List.getElem?_eq_some_iff.mp hch;rw[<-e];exact drop_eq_getElem_cons hi
  have ez:=congrArg dB (take_append_drop i ps);rw[wc,ed,dB]at ez;have sF1:=kp.frz sF nF;walk_at "rs";refine Dd (ds:=[bB ch]) (Qd:=fun b d _=>d=.lst ((Za ch).map .str)) ⟨_,_,rfl,Rep.mono sF1 _ _ rch,rfl⟩ ⟨ch,rfl,by lia,by lia,rfl⟩ fun b1 dd1 δ1 v1 H1 s1 ed1 rd1=>?_;subst ed1;obtain⟨b,bs,rfl,hb,rb⟩:=rd1;rw[rb.strs]at hb;refine⟨e,b,a,Es,Za ch,okvs,S,ad,M',_,rfl,s1 _ _ he,hb,fo1.same s1,hEs,by lia,by lia,by lia,fun H2 kp2 fo2=>?_⟩;have sF2:BB F H2:=kp2.frz (sF1.trans s1) nF;have kp02:Kp S ad H H2:=(kp.trans (.of s1)).trans kp2;have he2:H2 e=some (.lst (Es.map .str)):=kp2 _ _ (fo1.lst he) (s1 _ _ he);refine Dd (ds:=[bB ch]) (Qd:=fun b d _=>d=.lst ((Ta ch).map .str)) ⟨_,_,rfl,Rep.mono sF2 _ _ rch,rfl⟩ ⟨ch,rfl,by lia,by lia,rfl⟩ fun b3 dd3 δ3 v3 H3 s3 ed3 rd3=>?_;subst ed3;obtain⟨la,las,rfl,hla,rla⟩:=rd3;rw[rla.strs]at hla;refine Dd (ds:=[bB ch]) (Qd:=fun b d _=>d=.bl (cb ch)) ⟨_,_,rfl,Rep.mono (sF2.trans s3) _ _ rch,rfl⟩ ⟨ch,rfl,by lia,by lia,rfl⟩ fun b4 dd4 δ4 v4 H4 s4 ed4 rd4=>?_;subst ed4;have s24:=s3.trans s4;have eqn':∀Es',(∀s t,Yb Es (ps.drop i) s t=((decide (s∈Es)&&decide (t∈Za ch))||Yb Es' (ps.drop (i+1)) s t))->∀s t,((M' s t||(decide (s∈Es)&&decide (t∈Za ch)))||Yb Es' (ps.drop (i+1)) s t)=(M s t||Yb [] ps s t):=fun Es' h s t=>by
   rw[<-eqn,h,Bool.or_assoc]
  have subl:∀s∈Ta ch,s∈S:=fun s hs=>sub s (Xm hmem (Ke ch hs));refine⟨cb ch,rd4,?_⟩;cases hb:cb ch with
  |true =>
   rw[if_pos rfl];refine⟨la,rfl,_,s4 _ _ hla,_,s24 _ _ he2,by simp;lia,fun p hp=>⟨Ta ch++Es,by simp,fun s hs=>?_,by rw[et,wc,dB,dB];simp;lia,kp02.trans (.of (s24.trans (BB.of_new hp))),_,(fo2.same (s24.trans (BB.of_new hp))).cong (fun _ _ _=>rfl) (by lia),eqn' _ fun s t=>by rw[ed,Yb,hb];rfl⟩⟩;rcases mem_append.mp hs with h|h;exact subl s h;exact hEs s h
  |false =>
   rw[if_neg (by simp)];refine⟨by lia,fun p hp=>⟨la,rfl,_,(BB.of_new hp) _ _ (s4 _ _ hla),by simp;lia,fun p1 np hp1=>⟨Ta ch,rfl,subl,by rw[et,wc,dB,dB];lia,?_,_,(fo2.same ((s24.trans (BB.of_new hp)).trans (BB.of_new (upd_none.mpr ⟨np,hp1⟩)))).cong (fun _ _ _=>rfl) (by lia),eqn' _ fun s t=>by rw[ed,Yb,hb];simp⟩⟩⟩;exact kp02.trans (.of ((s24.trans (BB.of_new hp)).trans (BB.of_new (upd_none.mpr ⟨np,hp1⟩))))
 obtain⟨e,Es,M',x3,rfl,he,hEs,lEs,kp,fo1,eqn⟩:=h;rw[<-ulen,drop_length]at eqn;exact q _ kp (fo1.cong (fun s _ t=>by rw[<-eqn];simp[Yb]) (by lia))
noncomputable def noD (H:Hp):Hp:=fun b=>@ite _ (∃Y0,H b=some (.dK Y0)) (Classical.propDecidable _) none (H b)
def Ej:BB (noD H) H:=fun b o e=>by
 unfold noD at e;split at e;cases e;exact e
def noD_d(e:H b=some (.dK Y0)):noD H b=none:=if_pos ⟨Y0,e⟩
def Sh(e:H b=some (.tup xs)):noD H b=some (.tup xs):=(if_neg fun⟨_,h⟩=>by rw[e]at h;cases h).trans e
def Fj(e:H b=some (.lst xs)):noD H b=some (.lst xs):=(if_neg fun⟨_,h⟩=>by rw[e]at h;cases h).trans e
mutual
theorem Ym {H:Hp}:∀(p:Pat)(v:V),Rep H (bB p) v->Rep (noD H) (bB p) v
 |.none,v,h=>by
  obtain⟨a,vs,e,h1,h2⟩:=h;exact⟨a,vs,e,Sh h1,h2⟩
 |.one s,v,h=>by
  obtain⟨a,vs,e,h1,h2⟩:=h;exact⟨a,vs,e,Sh h1,h2⟩
 |.row ps,v,h=>by
  obtain⟨a,vs,e,h1,u,r,e2,h2,u',r',e3,⟨l,us,e4,h4,h5⟩,h6⟩:=h;exact⟨a,vs,e,Sh h1,u,r,e2,h2,u',r',e3,⟨l,us,e4,Fj h4,Th ps us h5⟩,h6⟩
 |.any ps,v,h=>by
  obtain⟨a,vs,e,h1,u,r,e2,h2,u',r',e3,⟨l,us,e4,h4,h5⟩,h6⟩:=h;exact⟨a,vs,e,Sh h1,u,r,e2,h2,u',r',e3,⟨l,us,e4,Fj h4,Th ps us h5⟩,h6⟩
 |.wrap k p,v,h=>by
  obtain⟨a,vs,e,h1,u,r,e2,h2,u',r',e3,h3,h6⟩:=h;exact⟨a,vs,e,Sh h1,u,r,e2,h2,u',r',e3,Ym p u' h3,h6⟩
theorem Th {H:Hp}:∀(ps:List Pat)(vs:List V),DB H (Ma ps) vs->DB (noD H) (Ma ps) vs
 | [],vs,h=>h
 |p::ps,vs,h=>by
  obtain⟨v,r,e,h1,h2⟩:=h;exact⟨v,r,e,Ym p v h1,Th ps r h2⟩
end
theorem Fol.noD(h:Fol H a okvs S ad M c):∀s∈S,noD H (ad s)=none:=fun s hs=>by
 obtain⟨Y0,e,_⟩:=h.inn s hs;exact noD_d e
theorem Ys (c:Pat)(s t:Str):∀ps:List Pat,LkL (ps++[c]) s t=(LkL ps s t||LkP c s t)
 | []=>by simp[LkL]
 |p::ps=>by simp only[cons_append,LkL,Ys c s t ps,Bool.or_assoc]
def RA(h:s∈Qa (fB p)):s∈Ba p:=by cases p<;>simpa[fB,Ba,Qa] using h
def lkS {c A B C D:Nat}(h1:B<=A)(h2:D<=C):c+(A - B)+(C - D)<=c+(A+C - (B+D)):=by rw[add_assoc];refine add_le_add_left (Nat.le_sub_of_add_le (le_of_eq ?_)) _;rw[add_comm (A - B),add_assoc,<-add_assoc (A - B),sub_add_cancel h1,add_comm A,<-add_assoc,sub_add_cancel h2,add_comm]
def SA(h:Rep H (bB p) x):∃a,x=.ref a:=by cases p<;>exact h.imp fun _ ⟨_,e,_⟩=>e
def dt (n:Nat):Sp:=fun vs H Q _=>∃(x:V)(a:Addr)(p:Pat)(okvs:List (Key×V))(S:List Str)(ad:Str->Addr)(M:Str->Str->Bool)(c:Nat),vs=[x,.ref a]/\Rep H (bB p) x/\Fol H a okvs S ad M c /\
 (∀s∈Ba p,s∈S)/\szP p<=100/\dpP p<n/\c+20000 * szP p<sizeLine/\∀H',Kp S ad H H'->Fol H' a okvs S ad (fun s t=>M s t||LkP p s t) (c+(20000 * szP p - 10000))->Q .non H'
def UA(U:AE P w base K mg) :
  ∀n,FE U CX0 (n+5) U.u1d (dt n):=by
 have u6o:=Ws U;have u0q:=Bj U;intro n;induction n with
 |zero=>exact KA fun vs H Q E h=>by obtain⟨_,_,_,_,_,_,_,_,_,_,_,_,_,h,_⟩:=h;exact not_lt_zero _ h
 |succ n ih =>
  have u4n:FE U CX0 (n+5) U.u1d (dt n):=ih;have u6c:=OA U n;have u3j:=Sm U n;have u4f:=Um U n;refine (En U.u1d).F.ok Ms (fun vs H Q E h=>?_) (fun cdv A V0 s H vs Q E hr h=>?_);obtain⟨_,_,_,_,_,_,_,_,rfl,_⟩:=h;rfl;obtain⟨x,a,p,okvs,S,ad,M,c,rfl,rx,fo,sub,l1,l2,hc,q⟩:=h;have hu:=wb hr;refine⟨_,(Ra (Re PassesOwn.never rfl (ze (zb u0q (En U.u0a) (Aa (pv 0) Da))) (jd (i:=2) Ms.nd rfl (Or.inl rfl)) (Ya (Vb (zb u4n (En U.u1d) (Aa (pv 2) (Aa (pv 1) Da))))))
  (Ra (vc (Yd bb (Bb Eb (pv 0) Ab (fun _ _=>rfl)) Md (Ha _)) (Ya (Vb (zb u6c (En U.u1a) (Aa (Bb Eb (pv 0) Ab (fun _ _=>rfl)) (Aa (pv 1) Da))))) dc)
  (Ya (vc (Yd ph (Bb Eb (pv 0) Ab (fun _ _=>rfl)) (ah (Aa Md (Aa Md Da))) rfl) (Ya (Vb (zb u6o (En U.u2s) (Aa (zb u4f (En U.u1m) (Aa (Bb Eb (pv 0) Ab (fun _ _=>rfl)) Da)) (Aa (zb u3j (En U.u0u) (Aa (Bb Eb (pv 0) Ab (fun _ _=>rfl)) Da)) (Aa (pv 1) Da)))))) dc)))),?_⟩
  have sz:=Oa;walk_at "rs";refine Dd (ds:=[bB p]) (Qd:=fun b d _=>d=.lst (Ma (fB p))) ⟨_,_,rfl,rx,rfl⟩ ⟨p,rfl,rfl⟩ fun b1 dd1 δ1 v1 H1 s1 ed1 rd1=>?_;subst ed1;obtain⟨l,us,rfl,hl,rl⟩:=rd1;have fo1:=fo.same s1;have rF:=Th _ _ rl;have nF:=fo1.noD;have kz:=Ng p;have ulen:=rl.len;rw[Mg]at ulen;refine⟨l,rfl,⟨us,SqL.of hl⟩,uf (xs:=us) (fun i σ H'=>∃x2,σ=[some x,some (.ref a),x2]/\Kp S ad H1 H'/\Fol H' a okvs S ad (fun s t=>M s t||LkL ((fB p).take i) s t) (c+(20000 * dB ((fB p).take i) - 10000 * i))) ⟨_,rfl,Kp.refl,fo1.cong (fun _ _ _=>by simp[LkL]) (by lia)⟩ (fun i σ H' _ h=>?_) (fun i x' σ H' hx h=>?_) fun σ H' h=>?_⟩;obtain⟨_,_,kp,_⟩:=h;exact SqL.of (kp.frz Ej nF _ _ (Fj hl))
  ·obtain⟨x2,rfl,kp,fo2⟩:=h;obtain⟨ch,hch,rch⟩:=Xs rF hx;have hmem:=mem_of_getElem? hch;have d1:=Og hmem;have hi:=(List.getElem?_eq_some_iff.mp hch).1;have et:(fB p).take (i+1)=(fB p).take i++[ch]:=by rw[take_add_one,hch];rfl
   have ed:(fB p).drop i=ch::(fB p).drop (i+1):=by
    obtain⟨hi,e⟩:=List.getElem?_eq_some_iff.mp hch;rw[<-e];exact drop_eq_getElem_cons hi
   have ez:=congrArg dB (take_append_drop i (fB p));rw[wc,ed,dB]at ez;have tl:=Je ((fB p).take i);rw[length_take,min_eq_left (by lia)]at tl;have cp:=Jm ch;walk_at "rs";refine⟨x',a,ch,okvs,S,ad,_,_,rfl,Rep.mono (kp.frz Ej nF) _ _ rch,fo2,fun s hs=>sub s (RA (Xm hmem hs)),by lia,by lia,lt_of_le_of_lt (add_le_add_right (add_le_add_left (sub_le _ _) _) _) (by lia),fun H2 kp2 fo3=>⟨kp.trans kp2,fo3.cong (fun s _ t=>?_) ?_⟩⟩;rw[et,Ys,Bool.or_assoc];rw[et,wc,dB,dB,Nat.add_zero,Nat.mul_add,Nat.mul_add_one];exact lkS (by lia) (by lia)
  obtain⟨x2,rfl,kp,fo2⟩:=h;rw[<-ulen,take_length]at fo2;have kp0:Kp S ad H H':=(Kp.of s1).trans kp;have rx':=Rep.mono (kp0.frz Ej fo.noD) _ _ (Ym p x rx);have kl:=Je (fB p);obtain⟨tp,rfl⟩:=SA rx';walk_at "rd";cases p with
  |row ps =>
   obtain⟨_,vs,e,ht,u,r,rfl,h2,u',r',rfl,⟨l2,us2,rfl,hl2,rl2⟩,h3⟩:=rx';cases e;cases(show r' = [] from h3);cases(show u=.str "row" from h2);simp only[fB,szP,dpP] at *
   refine⟨_,ht,_,aC,rfl,?_⟩;rw[if_pos rfl];refine⟨_,ht,_,tF,l2,a,ps,noD H',okvs,S,ad,_,_,rfl,⟨l2,us2,rfl,Fj hl2,Th _ _ rl2⟩,Ej,fo2.noD,fo2,fun s hs=>sub s (by simpa[Ba] using hs),by lia,by lia,by rw[add_assoc,sub_add_cancel (by lia)];lia,fun H2 kp2 fo3=>?_⟩;have ht2:=kp2 _ _ (fo2.tup ht) ht;refine⟨_,ht2,_,aC,by lia,fun p hp=>⟨rfl,rfl,?_⟩⟩;rw[if_neg (by decide)];exact q _ ((kp0.trans kp2).trans (.of (BB.of_new hp))) ((fo3.same (BB.of_new hp)).cong (fun _ _ _=>by simp[LkP,Bool.or_assoc]) (by rw[add_assoc,sub_add_cancel (by lia)];exact add_le_add_left (Nat.le_sub_of_add_le (by lia)) _))
  |wrap k p =>
   have fl:=Vf p;have ll:=Wf p;have sp:=Jm p;simp only[fB,szP,dpP,dB,length_cons,length_nil] at *
   obtain⟨_,vs,e,ht,u,r,rfl,h2,u',r',rfl,h4,h3⟩:=rx';cases e;cases(show r' = [] from h3);cases(show u=.str k.str from h2);refine⟨_,ht,_,aC,rfl,?_⟩;rw[if_neg (by cases k<;>decide)];refine⟨_,ht,_,aC,by lia,fun p0 hp=>⟨rfl,rfl,?_⟩⟩;have sp0:BB H' (upd H' p0 (.tup [.str "many",.str "some"])):=BB.of_new hp;split
   case isFalse hk =>
    exact q _ (kp0.trans (.of sp0)) ((fo2.same sp0).cong (fun _ _ _=>by cases k<;>first|exact absurd (by decide) hk|simp[LkP,LkL]) (add_le_add_left (Nat.sub_le_sub_right (by lia) _) _))
   case isTrue hk =>
    refine⟨_,sp0 _ _ ht,_,tF,?_⟩;refine Dd (ds:=[bB p]) (Qd:=fun b d _=>d=.lst ((Ta p).map .str)) ⟨_,_,rfl,Rep.mono sp0 _ _ h4,rfl⟩ ⟨p,rfl,by lia,by lia,rfl⟩ fun b3 dd3 δ3 v3 H3 s3 ed3 rd3=>?_;subst ed3;obtain⟨la,las,rfl,hla,rla⟩:=rd3;rw[rla.strs]at hla;refine⟨_,s3 _ _ (sp0 _ _ ht),_,tF,?_⟩;refine Dd (ds:=[bB p]) (Qd:=fun b d _=>d=.lst ((Za p).map .str)) ⟨_,_,rfl,Rep.mono (sp0.trans s3) _ _ h4,rfl⟩ ⟨p,rfl,by lia,by lia,rfl⟩ fun b4 dd4 δ4 v4 H4 s4 ed4 rd4=>?_;subst ed4;obtain⟨fa,fas,rfl,hfa,rfa⟩:=rd4;rw[rfa.strs]at hfa;have s04:=(sp0.trans s3).trans s4;exact⟨la,fa,a,Ta p,Za p,okvs,S,ad,_,_,rfl,s4 _ _ hla,hfa,fo2.same s04,fun s hs=>sub s (by simpa[Ba] using Ke p hs),by lia,by lia,lt_of_le_of_lt (add_le_add_right (add_le_add_left (sub_le _ _) _) _) (by lia),fun H5 kp5 fo5=>q _ ((kp0.trans (.of s04)).trans kp5) (fo5.cong (fun _ _ _=>by cases k<;>first|exact absurd hk (by decide)|simp[LkP,LkL,Bool.or_assoc]) (by lia))⟩
  |_ =>
   obtain⟨_,vs,e,ht,u,r,rfl,h2,_⟩:=rx';cases e;cases h2;refine⟨_,ht,_,aC,rfl,?_⟩;rw[if_neg (by decide)];refine⟨_,ht,_,aC,by lia,fun p hp=>⟨rfl,rfl,?_⟩⟩;rw[if_neg (by decide)];exact q _ (kp0.trans (.of (BB.of_new hp))) ((fo2.same (BB.of_new hp)).cong (fun _ _ _=>by simp[LkP,LkL,fB]) (by simp only[fB,dB,szP] at *;exact add_le_add_left (le_trans (sub_le _ _) (Nat.le_sub_of_add_le (by lia))) _))
variable {X:Cx}
def VA{gB:List Stmt}(V:TSd->TSd)(p1:PS X s1 t1)(p2:PS X s2 t2)(p3:PS X s3 t3)(h:DSs X gB u)(hs:∀t,VB t u->VB (tSeq t1 (tSeq t2 (tSeq t3 t))) (V u)):DSs X (s1::s2::s3::gB) (V u):=by obtain⟨t,p,s⟩:=h;exact⟨_,Ra p1 (Ra p2 (Ra p3 p)),hs t s⟩
def EI.junk(I:EI io H0 F0 F δ σ H)(h:δ[i]? = some .no):EI io H0 F0 F δ (σ.set i o) H:=by
 refine⟨I.base,I.sub,I.ext,I.new,by simpa using I.len,fun j s e=>?_,fun j k b c b' c' a ne e1 e2 e3 e4=>?_⟩
 ·by_cases hj:j=i;subst hj;rw[h]at e;cases e;trivial;have:=I.get j s e;have e2:(σ.set i o).getD j none=σ.getD j none:=by
   rw[getD_eq_getElem?_getD,getElem?_set_ne (fun z=>hj z.symm),<-getD_eq_getElem?_getD]
  rw[e2];exact this
 have key:∀{j:Nat}{b:Bool}{c:D},δ[j]? = some (.ob b c)->(σ.set i o).getD j none=σ.getD j none:=fun {j b c} e=>by
  have hj:i≠j:=fun z=>by rw[<-z,h]at e;cases e
  rw[getD_eq_getElem?_getD,getElem?_set_ne hj,<-getD_eq_getElem?_getD]
 rw[key e1]at e3;rw[key e2]at e4;exact I.apart j k b c b' c' a ne e1 e2 e3 e4
def WA[DecidableEq κ]{Y0:List (κ×V)}{k:κ}{kv:κ×V}(h:kv∈rB Y0 k v):(kv∈Y0/\kv.1≠k)\/kv=(k,v):=by
 unfold rB at h;split at h
 ·obtain⟨q,hq,e⟩:=mem_map.mp h;split at e;rename_i z;right;rw[<-e,z];rename_i z;left;rw[<-e];exact⟨hq,z⟩
 rename_i z;rcases mem_append.mp h with h|h;refine .inl ⟨h,fun e=>z (any_eq_true.mpr ⟨kv,h,decide_eq_true e⟩)⟩;exact .inr (by simpa using h)
theorem Zm:∀{Y0:List (Key×V)},(∀kv∈Y0,∃d,Rep F d kv.2)->∃N0,JB F N0 Y0
 | [],_=>⟨[],rfl⟩
 |kv::Y0,h=>by
  obtain⟨d,rd⟩:=h kv mem_cons_self;obtain⟨N0,rk⟩:=Zm fun q hq=>h q (mem_cons_of_mem _ hq);exact⟨(kv.1,d)::N0,kv,Y0,rfl,⟨rfl,rd⟩,rk⟩
def ft(r:JB F N0 Y0)(t:Str):(eB N0 t).isSome=(iB Y0 (.inr t)).isSome:=by
 cases e:eB N0 t with
 |none=>rw[(r.val t).2 e];rfl
 |some d=>obtain⟨v,ev,_⟩:=(r.val t).1 d e;rw[ev];rfl
def FolD (p:Pat)(N0:List (Key×D)):Prop:=∀s∈Ba p,∃ik,eB N0 s=some (.dct ik)/\∀t,(eB ik t).isSome=LkP p s t
def XA(fo:Fol H a okvs (Ba p) ad (fun s t=>LkP p s t) c)(ent:∀kv∈okvs,∃s∈Ba p,kv.2=.ref (ad s)) :
  ∃N0,FolD p N0/\Rep (fun b=>if b=a \/ ∃s∈Ba p,b=ad s then H b else none) (.dct N0) (.ref a):=by
 have hat:∀s∈Ba p,(fun b=>if b=a \/ ∃s∈Ba p,b=ad s then H b else none) (ad s)=H (ad s):=fun s hs=>if_pos (.inr ⟨s,hs,rfl⟩);have a0:∀s∈Ba p,∃ik Y0,H (ad s)=some (.dK Y0)/\JB (fun b=>if b=a \/ ∃s∈Ba p,b=ad s then H b else none) ik Y0/\∀t,(iB Y0 (.inr t)).isSome=LkP p s t:=fun s hs=>by
  obtain⟨Y0,e,_,al,m⟩:=fo.inn s hs;obtain⟨ik,rk⟩:=Zm (F:=fun b=>if b=a \/ ∃s∈Ba p,b=ad s then H b else none) (Y0:=Y0) fun kv hkv=>⟨.bl true,(al kv hkv).1⟩;exact⟨ik,Y0,e,rk,m⟩
 obtain⟨N0,rk⟩:=Zm (F:=fun b=>if b=a \/ ∃s∈Ba p,b=ad s then H b else none) (Y0:=okvs) fun kv hkv=>by
  obtain⟨s,hs,e⟩:=ent kv hkv;obtain⟨ik,Y0,e1,rk,_⟩:=a0 s hs;exact⟨.dct ik,by rw[e];exact⟨ad s,Y0,rfl,(hat s hs).trans e1,rk⟩⟩
 refine⟨N0,fun s hs=>?_,a,okvs,rfl,(if_pos (.inl rfl)).trans fo.at_,rk⟩;obtain⟨Y0,e,_,_,m⟩:=fo.inn s hs;have ev:=fo.out s hs;have es:(eB N0 s).isSome=true:=by rw[ft rk,ev];rfl
 obtain⟨d,ed⟩:=isSome_iff_exists.mp es;obtain⟨v,ev',rd⟩:=(rk.val s).1 d ed;rw[ev]at ev';cases ev';cases d with
 |dct ik =>
  obtain⟨a',kvs',e1,e2,r2⟩:=rd;cases e1;rw[hat s hs,e]at e2;cases e2;exact⟨ik,ed,fun t=>by rw[ft r2,m]⟩
 |lst ds=>obtain⟨a',vs,e1,e2,_⟩:=rd;cases e1;rw[hat s hs,e]at e2;cases e2
 |tup ds=>obtain⟨a',vs,e1,e2,_⟩:=rd;cases e1;rw[hat s hs,e]at e2;cases e2
 |non=>cases rd
 |bl b=>cases rd
 |int i=>cases rd
 |str x=>cases rd
 |ty x=>cases rd
def bn (N0:List (Key×D))(k:Str)(v:D):(uB N0 k v).length<=N0.length+1:=by unfold uB;split<;>simp
theorem jt (g:Str->D):∀(l:List Str)(n0:List (Key×D)),(l.foldl (fun n0 s=>uB n0 s (g s)) n0).length<=n0.length+l.length
 | [],n0=>by simp
 |s::l,n0=>by
  have h1:=jt g l (uB n0 s (g s));have h2:=bn n0 s (g s);simp only[foldl_cons,length_cons];lia
def dLink (n:Nat)(u:TSd):TSd:=fun E δ=>∃(p:Pat)(b1:Bool),δ=[.fz (bB p),rsl b1 (.lst ((Ba p).map .str)),.no,.no,.no]/\szP p<=100/\dpP p<n/\∀N0,FolD p N0->u E [.fz (bB p),.fz (.lst ((Ba p).map .str)),.fz (.dct N0),.no,.no]
noncomputable def Uh (p:Pat):List (Key×D):=(Ba p).foldl (fun n0 s=>uB n0 s (.lst (((Ba p).filter (LkP p s)).map .str))) []
def YA (n:Nat):RD:=fun δ Q=>∃p:Pat,δ=[.fz (bB p)]/\dpP p<n/\szP p<=100/\Q true (.dct (Uh p)) [.no]
def ZA(U:AE P w base K mg)(n:Nat) :
  FE U CX0 (n+6) U.u3k (spD (YA n)):=by
 have u4n:=UA U n;have u4e:=Qm U n;refine VL.Fun.dok (En U.u3k).F Jg (by walk_at "a") (by decide) ?_;walk_at "f";obtain⟨p,rfl,hdp,hsz,q⟩:=h;have hu:=wb hr;refine⟨_,(ka (dq 1 Jg.nd (Ka u4e (En U.u0v) (aa (dv 0) ja)))
  (VA (dLink n) (Cb (i:=2) Jg.nd rfl (Or.inr rfl) Fi)
  (Re PassesOwn.never rfl (ze (pv 1)) (jd (i:=3) Jg.nd rfl (Or.inr rfl)) (Ya (Ei (hu1 hu) (pv 2) (pv 3) Fi rfl)))
  (Vb (zb u4n (En U.u1d) (Aa (pv 0) (Aa (pv 2) Da))))
  (ka (dq 4 Jg.nd Jh)
  (ka (dsF (fb (dv 1)) (br (i:=3) Jg.nd rfl (Or.inr rfl)) (ma (Kh hu (pv 4) (dv 3) (Oc tg1 (fb (dv 1)) (fun _=>(Ee (dt_din hu (dv 0) (gj hu (pv 3) (dv 4))))) (fun _=>(dv 0))))))
  (ma (Ea (dm 4))))) ?five)),?_⟩
 case five =>
  intro t st io H0 F0 F δ σ H E Ed I q S;obtain⟨p',b1,rfl,z1,z2,q⟩:=q;have sz:=Oa;obtain⟨F',J,sJ⟩:∃F',EI io H0 F0 F' [.fz (bB p'),.fz (.lst ((Ba p').map .str)),.no,.no,.no] σ H/\BB F F':=by
   cases b1 with
   |false=>exact⟨F,I,BB.refl _⟩
   |true =>
    obtain⟨F',a,s,I',_⟩:=I.freeze (i:=1) rfl;exact⟨F',I',s⟩
  obtain⟨s0,s1,s2,s3,s4,rfl⟩:∃s0 s1 s2 s3 s4,σ=[s0,s1,s2,s3,s4]:=by
   obtain⟨s0,t,e0,hl⟩:=lnz (n:=4) J.len.symm;obtain⟨s1,t1,e1,hl⟩:=lnz hl;obtain⟨s2,t2,e2,hl⟩:=lnz hl;obtain⟨s3,t3,e3,hl⟩:=lnz hl;obtain⟨s4,t4,e4,hl⟩:=lnz hl;rw[e0,e1,e2,e3,e4,List.eq_nil_of_length_eq_zero hl];exact⟨s0,s1,s2,s3,s4,rfl⟩
  obtain⟨v0,e0,r0⟩:=J.get 0 _ rfl;obtain⟨v1,e1,r1⟩:=J.get 1 _ rfl;cases(show s0=some v0 from e0);cases(show s1=some v1 from e1);obtain⟨a1,us,rfl,h1,r1'⟩:=r1;have eus:=r1'.strs;subst eus;have hS:SqL K H a1 ((Ba p').map .str):=SqL.of (J.sub _ _ h1);walk_at "rs";intro a ha;have sa:BB H (upd H a (.dK [])):=BB.of_new ha;refine⟨⟨_,SqL.of (sa _ _ (J.sub _ _ h1))⟩,uf (xs:=(Ba p').map .str) (fun i σ H'=>∃okvs ad x3,σ=[some v0,some (.ref a1),some (.ref a),x3,s4]/\BB H H'/\(∀s∈(Ba p').take i,H (ad s)=none)/\okvs.length<=i/\(∀kv∈okvs,∃s∈(Ba p').take i,kv.1=.inr s/\kv.2=.ref (ad s))/\Fol H' a okvs ((Ba p').take i) ad (fun _ _=>false) 0) ?_ (fun i σ H' _ h=>?_) (fun i x σ H' hx h=>?_) fun σ H' h=>?_⟩;refine⟨[],fun _=>a,_,rfl,sa,fun s h=>(by simp at h),le_refl _,fun kv h=>(by cases h),⟨z0g,fun s h=>(by simp at h),fun s h=>(by simp at h),fun s h=>(by simp at h),fun s h=>(by simp at h)⟩⟩;obtain⟨_,_,_,_,sH,_⟩:=h;exact SqL.of (sH _ _ (J.sub _ _ h1))
  ·obtain⟨okvs,ad,x3,rfl,sH,nw,ol,ent,fo⟩:=h;obtain⟨c,hc,rfl⟩:∃s,(Ba p')[i]? = some s/\x=.str s:=by
    rw[getElem?_map]at hx;obtain⟨s,h1,h2⟩:=map_eq_some_iff.mp hx;exact⟨s,h1,h2.symm⟩
   walk_at "rd";intro qa hq;have hi:=(List.getElem?_eq_some_iff.mp hc).1;have sl:=Qg p';have et:(Ba p').take (i+1)=(Ba p').take i++[c]:=by rw[take_add_one,hc];rfl
   have naq:a≠qa:=Sa fo.at_ hq;have hin:∀s∈(Ba p').take (i+1),s≠c->s∈(Ba p').take i:=fun s hs hn=>by
    rw[et]at hs;rcases mem_append.mp hs with h|h;exact h;exact absurd (by simpa using h) hn
   have old:∀s∈(Ba p').take i,ad s≠qa:=fun s hs=>by
    obtain⟨Y0,e,_⟩:=fo.inn s hs;exact Sa e hq
   refine⟨_,HC.s (by rw[ya naq];exact fo.at_) (by lia),fun b o e=>?_,_,fun s=>if s=c then qa else ad s,fun s hs=>?_,le_trans (Vs _ _ _) (by lia),fun kv hkv=>?_,⟨z0g,fun s hs=>?_,fun s hs s' hs' e=>?_,fun s hs=>?_,fun s hs=>?_⟩⟩;rw[ya (fun z=>by rw[z,ha]at e;cases e),ya (Sa (sH _ _ e) hq)];exact sH _ _ e
   ·show H (if s=c then qa else ad s)=none;split;exact sH.free hq;rename_i hn;exact nw s (hin s hs hn)
   ·rcases WA hkv with ⟨hk,hne⟩|rfl;obtain⟨s,hs,k1,k2⟩:=ent kv hk;refine⟨s,by rw[et];exact mem_append_left _ hs,k1,?_⟩;show kv.2=.ref (if s=c then qa else ad s);rw[k2,if_neg (fun z=>hne (by rw[k1,z]))];exact⟨c,by rw[et];simp,rfl,by show _=V.ref (if c=c then qa else ad c);rw[if_pos rfl]⟩
   ·show iB _ _=some (.ref (if s=c then qa else ad s));rw[fq];by_cases hn:s=c;rw[if_pos (by rw[hn]),if_pos hn];rw[if_neg (fun z=>hn (Sum.inr.inj z)),if_neg hn];exact fo.out s (hin s hs hn)
   ·by_cases h1:s=c<;>by_cases h2:s' = c;rw[h1,h2];exact absurd (by simpa[h1,h2] using e.symm) (old s' (hin s' hs' h2));exact absurd (by simpa[h1,h2] using e) (old s (hin s hs h1));exact fo.inj s (hin s hs h1) s' (hin s' hs' h2) (by simpa[h1,h2] using e)
   ·show(if s=c then qa else ad s)≠a;split;exact naq.symm;rename_i hn;exact fo.na s (hin s hs hn)
   by_cases hn:s=c;refine⟨[],?_,le_refl _,fun kv h=>(by cases h),fun t=>rfl⟩;rw[if_pos hn,ya naq.symm,z0g];obtain⟨Y0,e,r⟩:=fo.inn s (hin s hs hn);refine⟨Y0,?_,r⟩;rw[if_neg hn,ya (fo.na s (hin s hs hn)),ya (old s (hin s hs hn))];exact e
  obtain⟨okvs,ad,x3,rfl,sH,nw,ol,ent,fo⟩:=h;rw[length_map,take_length]at nw ent fo;walk_at "rd";refine⟨v0,a,p',okvs,Ba p',ad,_,0,rfl,Rep.mono (J.sub.trans sH) _ _ r0,fo,fun s h=>h,z1,z2,by lia,fun H2 kp fo2=>?_⟩;have fo3:Fol H2 a okvs (Ba p') ad (fun s t=>LkP p' s t) _:=fo2.cong (fun _ _ _=>by simp) (le_refl _);obtain⟨N0,U.u3k.choose_spec.choose,rd⟩:=XA fo3 fun kv hkv=>by
   obtain⟨s,hs,_,e⟩:=ent kv hkv;exact⟨s,hs,e⟩
  have sHH:BB H H2:=fun b o e=>kp b o (fun s hs z=>by rw[z,nw s hs]at e;cases e) (sH _ _ e);have out:∀b o,H b=some o->¬(b=a \/ ∃s∈Ba p',b=ad s):=fun b o e h=>by
   rcases h with rfl|⟨s,hs,rfl⟩;rw[ha]at e;cases e;rw[nw s hs]at e;cases e
  have sF:BB F' (fun b=>if b=a \/ ∃s∈Ba p',b=ad s then H2 b else F' b):=fun b o e=>(if_neg (out b o (J.sub _ _ e))).trans e;have sub:BB (fun b=>if b=a \/ ∃s∈Ba p',b=ad s then H2 b else F' b) H2:=fun b o e=>by
   by_cases h:b=a \/ ∃s∈Ba p',b=ad s;simp only[h,if_true]at e;exact e;simp only[h,if_false]at e;exact sHH _ _ (J.sub _ _ e)
  have J2:=J.back0 sF sHH sub fun b o e n=>by
   by_cases h:b=a \/ ∃s∈Ba p',b=ad s
   ·rcases h with rfl|⟨s,hs,rfl⟩;exact ha;exact nw s hs
   simp only[h,if_false]at e;rw[n]at e;cases e
  have rd':=Rep.mono (F':=fun b=>if b=a \/ ∃s∈Ba p',b=ad s then H2 b else F' b) (fun b o e=>by
   by_cases h:b=a \/ ∃s∈Ba p',b=ad s;simp only[h,if_true]at e ⊢;exact e;simp only[h,if_false]at e;cases e) _ _ rd
  have J3:=EI.setv (i:=2) (b:=false) (J2.pushF rd') (by simp) (by simp);exact st io H0 F0 _ _ _ H2 E Ed (EI.junk (i:=3) (o:=x3) J3 rfl) (q N0 U.u3k.choose_spec.choose) (S.mono (sJ.trans sF))
 have sz:=Oa;w_how;refine⟨p,rfl,by lia,by lia,?_⟩;w_how;refine⟨p,true,rfl,by lia,by lia,fun N0 hk=>?_⟩;w_how;have sl:=Qg p;refine Jb [3] (fun r δ=>∃pre l0,Ba p=pre++l0/\r=l0.map .str/\δ=[.fz (bB p),.fz (.lst ((Ba p).map .str)),.fz (.dct N0),.no,.ob false (.dct (pre.foldl (fun n0 s=>uB n0 s (.lst (((Ba p).filter (LkP p s)).map .str))) []))]) ⟨[],Ba p,rfl,rfl,rfl⟩ ?_ ?_
 ·rintro d r δ ⟨pre,l0,e1,e2,rfl⟩;cases l0 with
  |nil=>cases e2
  |cons c l0 =>
   cases e2;w_how;have hc:c∈Ba p:=by rw[e1];simp
   obtain⟨ik,ek,em⟩:=hk c hc;refine Wl (fun d=>match d with | .str z=>LkP p c z|_=>false) id (by simp;lia) (fun d hd Pq hP=>?_) (fun d hd _ Pq hP=>?_) ?_;obtain⟨z,hz,rfl⟩:=mem_map.mp hd;w_how;refine⟨.dct ik,ek,?_⟩;w_how;rw[em];exact hP;obtain⟨z,hz,rfl⟩:=mem_map.mp hd;w_how;exact hP;have ef:((Ba p).map D.str).filter (fun d=>match d with | .str z=>LkP p c z|_=>false)=((Ba p).filter (LkP p c)).map D.str:=by
    rw[List.filter_map];rfl
   rw[ef,map_id];w_how;refine⟨?_,pre++[c],l0,by simp[e1],rfl,by simp⟩;have:=jt (fun s=>.lst (((Ba p).filter (LkP p s)).map .str)) pre [];have:=congrArg List.length e1;simp at this;simp at *
   lia
 rintro δ ⟨pre,l0,e1,e2,rfl⟩;cases l0 with
 |cons c l0=>cases e2
 |nil =>
  w_how;rw[append_nil]at e1;rw[<-e1];exact q
def Gj (N0:List (Key×D))(k j:Str)(d:D):eB (uB N0 k d) j=if j=k then some d else eB N0 j:=by
 unfold uB;split
 ·rename_i h;induction N0 with
  |nil=>simp at h
  |cons a r ih =>
   by_cases ha:a.1=.inr k
   ·by_cases hj:j=k;subst hj;simp[eB,find?_cons,ha];have:¬(Sum.inr k:Key)=.inr j:=fun z=>hj (Sum.inr.inj z).symm;rw[if_neg hj];simp only[eB,map_cons,ha,if_true,find?_cons,this,decide_false];clear ih h;induction r with
    |nil=>rfl
    |cons b r ih =>
     simp only[map_cons,find?_cons];by_cases hb:b.1=.inr k;simp only[hb,if_true,this,decide_false];exact ih;simp only[hb,if_false];cases decide (b.1=Sum.inr j) with
     |true=>rfl
     |false=>exact ih
   have h':(r.any fun kv=>decide (kv.1=.inr k))=true:=by simpa[ha] using h
   have:=ih h';simp only[eB,map_cons,ha,if_false,find?_cons]at this ⊢;by_cases hj:j=k;subst hj;simpa[ha] using this;cases decide (a.1=Sum.inr j) with
   |true=>simp[hj]
   |false=>exact this
 rename_i h;unfold eB;rw[find?_append];by_cases hj:j=k
 ·subst hj;have:N0.find? (fun kv=>decide (kv.1=.inr j))=none:=by
   rw[List.find?_eq_none];intro x hx hd;exact h (any_eq_true.mpr ⟨x,hx,hd⟩)
  simp[this]
 rw[if_neg hj];have:¬(Sum.inr k:Key)=.inr j:=fun z=>hj (Sum.inr.inj z).symm;simp[find?_cons,this]
theorem kt (g:Str->D)(j:Str):∀(l:List Str)(n0:List (Key×D)),eB (l.foldl (fun n0 s=>uB n0 s (g s)) n0) j=if j∈l then some (g j) else eB n0 j
 | [],n0=>by simp
 |s::l,n0=>by
  rw[foldl_cons,kt g j l,Gj];by_cases h1:j∈l;simp[h1];by_cases h2:j=s;subst h2;simp;simp[h1,h2]
noncomputable def nx (p:Pat) (s:Str):List Str:=(Ba p).filter (LkP p s)
def x7y (p:Pat)(h:s∈Ba p):eB (Uh p) s=some (.lst ((nx p s).map .str)):=by unfold Uh;rw[kt (fun s=>.lst (((Ba p).filter (LkP p s)).map .str)),if_pos h];rfl
mutual
theorem Yf {s:Str}:∀p:Pat,s∈Za p->s∈Ba p
 |.none,h=>by simp[Za]at h
 |.one _,h=>by simpa[Za,Ba] using h
 |.row ps,h=>by simp only[Za,Ba]at h ⊢;exact Hj ps h
 |.any ps,h=>by simp only[Za,Ba]at h ⊢;exact gn ps h
 |.wrap _ p,h=>by simp only[Za,Ba]at h ⊢;exact Yf p h
theorem Hj {s:Str}:∀ps:List Pat,s∈Tb ps->s∈Qa ps
 | [],h=>by simp[Tb]at h
 |p::ps,h=>by
  simp only[Tb,Qa,mem_append]at h ⊢;rcases h with h|h;exact .inl (Yf p h);split at h;exact .inr (Hj ps h);cases h
theorem gn {s:Str}:∀ps:List Pat,s∈cc ps->s∈Qa ps
 | [],h=>by simp[cc]at h
 |p::ps,h=>by
  simp only[cc,Qa,mem_append]at h ⊢;rcases h with h|h;exact .inl (Yf p h);exact .inr (gn ps h)
end
noncomputable def Gd (p:Pat):Str->List Str->Bool
 |_,[]=>true
 |x,y::r=>decide (y∈nx p x)&&Gd p y r
noncomputable def Gc (p:Pat):List Str->Bool
 | []=>cb p
 |x::r=>(decide (x∈Za p)&&decide ((x::r).getLast (by simp)∈Ta p))&&Gd p x r
def Qp(h:xs≠[]):atI xs (-1)=some (xs.getLast h):=by
 have hl:0<xs.length:=List.length_pos_iff.mpr h;unfold atI ixN;rw[List.getLast_eq_getElem,if_neg (by decide),if_pos (by lia)];have e:((-1:Int)+xs.length).toNat=xs.length - 1:=by lia
 rw[e];show xs[xs.length - 1]? = _;rw[getElem?_eq_getElem (by lia)]
noncomputable def iH (p:Pat):D:=.tup [.bl (cb p),.lst ((Za p).map .str),.lst ((Ta p).map .str),.dct (Uh p)]
def x9k (n:Nat):RD:=fun δ Q=>∃p:Pat,δ=[.fz (bB p)]/\dpP p<n/\szP p<=100/\Q false (iH p) [.no]
def q8t(U:AE P w base K mg)(n:Nat) :
  FE U CX0 (n+7) U.u4g (spD (x9k n)):=by
 have u3j:=Sm U n;have u4f:=Um U n;have u3s:=Cj U n;have u8n:=ZA U n;refine VL.Fun.dok (En U.u4g).F kA (by walk_at "a") (by decide) ?_;walk_at "f";obtain⟨p,rfl,hdp,hsz,q⟩:=h;have sz:=Oa;refine⟨_,(ma (Ea (Xa (aa (Ka u3s (En U.u0y) (aa (dv 0) ja)) (aa (Ka u3j (En U.u0u) (aa (dv 0) ja)) (aa (Ka u4f (En U.u1m) (aa (dv 0) ja)) (aa (Ka u8n (En U.u3k) (aa (dv 0) ja)) ja))))))),?_⟩;w_how;refine⟨p,rfl,by lia,by lia,?_⟩;w_how;refine⟨p,rfl,by lia,by lia,?_⟩;w_how;refine⟨p,rfl,by lia,by lia,?_⟩;w_how;refine⟨p,rfl,by lia,by lia,?_⟩;w_how;exact⟨by lia,q⟩
def x3u:RD:=fun δ Q=>∃(p:Pat)(ws:List Str),δ=[.fz (iH p),.fz (.lst (ws.map .str))]/\ws.length<=1000000/\Q false (.bl (Gc p ws)) [.no,.no]
def q2t (U:AE P w base K mg):FE U CX0 1 U.u3l (spD x3u):=by
 refine VL.Fun.dok (En U.u3l).F Fm (by walk_at "a") (by decide) ?_;walk_at "f";obtain⟨p,ws,rfl,hl,q⟩:=h;have hu:=wb hr;have sz:=Oa;refine⟨_,(ka (Ja (fe (Oq (pv 1))) (ma (Ea (xT 0 ba))) Pa)
  (ka (Ja (aG (Eh (La Ri wf (xL 1 ba) (xT 0 ba) rfl) (Dh (La Ri wf (xL 1 (Nx ba)) (xT 0 ba) rfl)))) (ma (Ea Te)) Pa)
  (ka (dsF (cz rfl U.T.z_zip (aa (dv 1) (aa (Nc (pv 1) (bc ba) Bc) ja))) (We (n:=2) rfl (Ac (dn 2 Fm.nd) (Ac (dn 3 Fm.nd) Ve))) (ma (Ja (La Ri wf (dv 3) (dz hu (xT 0 ba) (dv 2)) rfl) (ma (Ea Te)) Pa)))
  (ma (Ea Te))))),?_⟩
 cases ws with
 |nil =>
  unfold iH;w_how;exact q
 |cons x r =>
  unfold iH;w_how;refine⟨_,aC,?_⟩;w_how;by_cases h1:x∈Za p
  ·rw[if_neg (by simpa using h1)];have el:(D.str x::List.map D.str r).getLast (by simp)=.str ((x::r).getLast (by simp)):=by
    have:=List.getLast_map (f:=D.str) (l:=x::r) (by simp);simpa using this
   refine⟨_,Qp (by simp),?_⟩;rw[el];w_how;by_cases h2:(x::r).getLast (by simp)∈Ta p
   ·rw[if_neg (by simpa using h2)];have ec:oB (D.str x::List.map D.str r) (some 1) none=r.map D.str:=by
     have:=Fg (D.str x::List.map D.str r) 1;simpa using this
    rw[ec];have eq:Gc p (x::r)=Gd p x r:=by simp[Gc,h1,h2]
    rw[eq]at q;refine Jb [2,3] (fun rr δ=>∃y s,rr=qG ((y::s).map .str) (s.map .str)/\y∈Ba p/\Gd p x r=Gd p y s/\δ=[.fz (.tup [.bl (cb p),.lst ((Za p).map .str),.lst ((Ta p).map .str),.dct (Uh p)]),.fz (.lst (.str x::r.map .str)),.no,.no]) ⟨x,r,rfl,Yf p h1,rfl,rfl⟩ ?_ ?_
    ·rintro d rr δ ⟨y,s,e1,hy,e2,rfl⟩;cases s with
     |nil=>simp[qG]at e1
     |cons z s =>
      simp only[qG,map_cons,List.zipWith_cons_cons,List.cons.injEq]at e1;obtain⟨rfl,e1⟩:=e1;w_how;refine⟨_,x7y p hy,?_⟩;w_how;by_cases hz:z∈nx p y;rw[if_neg (by simpa using hz)];refine⟨z,s,by rw[e1];rfl,(mem_filter.mp hz).1,?_⟩;rw[e2];simp[Gd,hz];rw[if_pos (by simpa using hz)];have:Gd p x r=false:=by rw[e2];simp[Gd,hz]
      rw[this]at q;exact q
    rintro δ ⟨y,s,e1,hy,e2,rfl⟩;cases s with
    |cons z s=>simp[qG]at e1
    |nil =>
     w_how;have:Gd p x r=true:=by rw[e2];rfl
     rw[this]at q;exact q
   rw[if_pos (by simpa using h2)];have:Gc p (x::r)=false:=by simp[Gc,h2]
   rw[this]at q;exact q
  rw[if_pos (by simpa using h1)];have:Gc p (x::r)=false:=by simp[Gc,h1]
  rw[this]at q;exact q
inductive CC (A:List Str->Prop):List Str->Prop
 |nil:CC A []
 |app {u v:List Str}:A u->CC A v->CC A (u++v)
mutual
noncomputable def RB:Pat->List Str->Prop
 |.none=>fun w=>w=[]
 |.one s=>fun w=>w=[s]
 |.row ps=>fun w=>Hd ps w
 |.any ps=>fun w=>Vd ps w
 |.wrap .maybe p=>fun w=>w=[]\/RB p w
 |.wrap .many p=>fun w=>CC (RB p) w
 |.wrap .some p=>fun w=>∃u v,w=u++v/\RB p u/\CC (RB p) v
noncomputable def Hd:List Pat->List Str->Prop
 | []=>fun w=>w=[]
 |p::ps=>fun w=>∃u v,w=u++v/\RB p u/\Hd ps v
noncomputable def Vd:List Pat->List Str->Prop
 | []=>fun _=>False
 |p::ps=>fun w=>RB p w\/Vd ps w
end
structure Lc where
 b:Prop
 F:Str->Prop
 L:Str->Prop
 N:Str->Str->Prop
noncomputable def chN (N:Str->Str->Prop):Str->List Str->Prop
 |_,[]=>True
 |x,y::r=>N x y/\chN N y r
noncomputable def lst (x:Str):List Str->Str
 | []=>x
 |y::r=>lst y r
def Lc.has (A:Lc):List Str->Prop
 | []=>A.b
 |x::r=>A.F x/\A.L (lst x r)/\chN A.N x r
end
section
structure Lc.In (A:Lc)(S:Str->Prop):Prop where
 f:∀x,A.F x->S x
 l:∀x,A.L x->S x
 n:∀x y,A.N x y->S x/\S y
theorem Me(h:∀a b,N a b->N' a b):∀(r:List Str)(x:Str),chN N x r->chN N' x r
 | [],_,_=>trivial
 |y::r,x,hc=>⟨h _ _ hc.1,Me h r y hc.2⟩
theorem Ij:∀(u:List Str)(x y:Str)(v:List Str),lst x (u++y::v)=lst y v
 | [],_,_,_=>rfl
 |a::u,_,y,v=>Ij u a y v
theorem jn:∀(u:List Str)(x y:Str)(v:List Str),chN N x (u++y::v)↔chN N x u/\N (lst x u) y/\chN N y v
 | [],x,y,v=>by simp[chN,lst]
 |a::u,x,y,v=>by simp only[cons_append,chN,lst,jn u a y v,and_assoc]
noncomputable def Lc.cat (A B:Lc):Lc:=⟨A.b/\B.b,fun x=>A.F x\/(A.b/\B.F x),fun x=>(B.b/\A.L x)\/B.L x,fun x y=>A.N x y\/B.N x y\/(A.L x/\B.F y)⟩
theorem j8n {A B:Lc}:∀{u v:List Str},A.has u->B.has v->(A.cat B).has (u++v)
 | [],[],hu,hv=>⟨hu,hv⟩
 | [],y::v,hu,hv=>⟨.inr ⟨hu,hv.1⟩,.inr hv.2.1,Me (fun _ _ h=>.inr (.inl h)) _ _ hv.2.2⟩
 |x::u,[],hu,hv=>by
  rw[append_nil];exact⟨.inl hu.1,.inl ⟨hv,hu.2.1⟩,Me (fun _ _ h=>.inl h) _ _ hu.2.2⟩
 |x::u,y::v,hu,hv=>by
  refine⟨.inl hu.1,?_,?_⟩;show(A.cat B).L (lst x (u++y::v));rw[Ij];exact .inr hv.2.1;show chN (A.cat B).N x (u++y::v);rw[jn];exact⟨Me (fun _ _ h=>.inl h) _ _ hu.2.2,.inr (.inr ⟨hu.2.1,hv.1⟩),Me (fun _ _ h=>.inr (.inl h)) _ _ hv.2.2⟩
variable {A B:Lc}{S S':Str->Prop}
theorem mn (ha:A.In S)(hb:B.In S')(dj:∀x,S x->S' x->False):∀(r:List Str)(x:Str),S' x->chN (A.cat B).N x r->chN B.N x r/\S' (lst x r)
 | [],x,hx,_=>⟨trivial,hx⟩
 |y::r,x,hx,hc=>by
  obtain⟨h1,h2⟩:=hc;have hn:B.N x y:=by
   rcases h1 with h|h|h;exact(dj x (ha.n _ _ h).1 hx).elim;exact h;exact(dj x (ha.l _ h.1) hx).elim
  obtain⟨c,l⟩:=mn ha hb dj r y (hb.n _ _ hn).2 h2;exact⟨⟨hn,c⟩,l⟩
theorem ot (ha:A.In S)(hb:B.In S')(dj:∀x,S x->S' x->False):∀(r:List Str)(x:Str),S x->chN (A.cat B).N x r ->
  (chN A.N x r/\S (lst x r)) \/ ∃u y v,r=u++y::v/\chN A.N x u/\A.L (lst x u)/\B.F y/\chN B.N y v/\S' (lst y v)
 | [],x,hx,_=>.inl ⟨trivial,hx⟩
 |y::r,x,hx,hc=>by
  obtain⟨h1,h2⟩:=hc;rcases h1 with h|h|h
  ·rcases ot ha hb dj r y (ha.n _ _ h).2 h2 with ⟨c,l⟩|⟨u,z,v,e,c1,c2,c3,c4,c5⟩;exact .inl ⟨⟨h,c⟩,l⟩;exact .inr ⟨y::u,z,v,by rw[e];rfl,⟨h,c1⟩,c2,c3,c4,c5⟩
  exact(dj x hx (hb.n _ _ h).1).elim;obtain⟨c,l⟩:=mn ha hb dj r y (hb.f _ h.2) h2;exact .inr ⟨[],y,r,rfl,trivial,h.1,h.2,c,l⟩
def j5w (ha:A.In S)(hb:B.In S')(dj:∀x,S x->S' x->False)(w:List Str):(A.cat B).has w↔∃u v,w=u++v/\A.has u/\B.has v:=by
 constructor
 ·intro h;cases w with
  |nil=>exact⟨[],[],rfl,h.1,h.2⟩
  |cons x r =>
   obtain⟨hf,hl,hc⟩:=h;rcases hf with hf|⟨hab,hf⟩
   ·rcases ot ha hb dj r x (ha.f _ hf) hc with ⟨c,l⟩|⟨u,y,v,e,c1,c2,c3,c4,c5⟩
    ·rcases hl with ⟨hbb,hl⟩|hl;exact⟨x::r,[],by simp,⟨hf,hl,c⟩,hbb⟩;exact(dj _ l (hb.l _ hl)).elim
    refine⟨x::u,y::v,by rw[e];rfl,⟨hf,c2,c1⟩,c3,?_,c4⟩;rw[e,Ij]at hl;rcases hl with ⟨_,hl⟩|hl;exact(dj _ (ha.l _ hl) c5).elim;exact hl
   obtain⟨c,l⟩:=mn ha hb dj r x (hb.f _ hf) hc;refine⟨[],x::r,rfl,hab,hf,?_,c⟩;rcases hl with ⟨_,hl⟩|hl;exact(dj _ (ha.l _ hl) l).elim;exact hl
 rintro⟨u,v,rfl,h1,h2⟩;exact j8n h1 h2
noncomputable def Lc.alt (A B:Lc):Lc:=⟨A.b\/B.b,fun x=>A.F x\/B.F x,fun x=>A.L x\/B.L x,fun x y=>A.N x y\/B.N x y⟩
theorem ut (ha:A.In S)(hb:B.In S')(dj:∀x,S x->S' x->False):∀(r:List Str)(x:Str),S x->chN (A.alt B).N x r->chN A.N x r/\S (lst x r)
 | [],x,hx,_=>⟨trivial,hx⟩
 |y::r,x,hx,hc=>by
  obtain⟨h1,h2⟩:=hc;rcases h1 with h|h;obtain⟨c,l⟩:=ut ha hb dj r y (ha.n _ _ h).2 h2;exact⟨⟨h,c⟩,l⟩;exact(dj x hx (hb.n _ _ h).1).elim
theorem vt (ha:A.In S)(hb:B.In S')(dj:∀x,S x->S' x->False):∀(r:List Str)(x:Str),S' x->chN (A.alt B).N x r->chN B.N x r/\S' (lst x r)
 | [],x,hx,_=>⟨trivial,hx⟩
 |y::r,x,hx,hc=>by
  obtain⟨h1,h2⟩:=hc;rcases h1 with h|h;exact(dj x (ha.n _ _ h).1 hx).elim;obtain⟨c,l⟩:=vt ha hb dj r y (hb.n _ _ h).2 h2;exact⟨⟨h,c⟩,l⟩
def j6b (ha:A.In S)(hb:B.In S')(dj:∀x,S x->S' x->False)(w:List Str):(A.alt B).has w↔A.has w\/B.has w:=by
 cases w with
 |nil=>exact Iff.rfl
 |cons x r =>
  constructor
  ·rintro⟨hf,hl,hc⟩;rcases hf with hf|hf
   ·obtain⟨c,l⟩:=ut ha hb dj r x (ha.f _ hf) hc;rcases hl with hl|hl;exact .inl ⟨hf,hl,c⟩;exact(dj _ l (hb.l _ hl)).elim
   obtain⟨c,l⟩:=vt ha hb dj r x (hb.f _ hf) hc;rcases hl with hl|hl;exact(dj _ (ha.l _ hl) l).elim;exact .inr ⟨hf,hl,c⟩
  rintro(⟨h1,h2,h3⟩|⟨h1,h2,h3⟩);exact⟨.inl h1,.inl h2,Me (fun _ _ h=>.inl h) _ _ h3⟩;exact⟨.inr h1,.inr h2,Me (fun _ _ h=>.inr h) _ _ h3⟩
noncomputable def Lc.rep (A:Lc) (b:Prop):Lc:=⟨b,A.F,A.L,fun x y=>A.N x y\/(A.L x/\A.F y)⟩
theorem xt:∀(r:List Str)(x:Str),A.L (lst x r)->chN (A.rep S0).N x r->∃u v,r=u++v/\chN A.N x u/\A.L (lst x u)/\(∀y v',v=y::v'->A.F y/\A.L (lst y v')/\chN (A.rep S0).N y v')
 | [],x,hl,_=>⟨[],[],rfl,trivial,hl,fun y v' e=>by cases e⟩
 |y::r,x,hl,hc=>by
  obtain⟨h1,h2⟩:=hc;rcases h1 with h|h;obtain⟨u,v,e,c1,c2,c3⟩:=xt r y hl h2;exact⟨y::u,v,by rw[e];rfl,⟨h,c1⟩,c2,c3⟩;exact⟨[],y::r,rfl,trivial,h.1,fun z v' e=>by cases e;exact⟨h.2,hl,h2⟩⟩
def yt(n:Nat):∀(r:List Str)(x:Str),r.length<n->A.F x->A.L (lst x r)->chN (A.rep S0).N x r->∃u v,x::r=u++v/\A.has u/\CC A.has v:=by
 induction n with
 |zero=>exact fun r x hn=>absurd hn (not_lt_zero _)
 |succ n ih =>
  intro r x hn hf hl hc;obtain⟨u,v,e,c1,c2,c3⟩:=xt r x hl hc;refine⟨x::u,v,by rw[e];rfl,⟨hf,c2,c1⟩,?_⟩;cases v with
  |nil=>exact .nil
  |cons y v' =>
   obtain⟨k1,k2,k3⟩:=c3 y v' rfl;have hlen:=congrArg List.length e;rw[length_append,length_cons]at hlen;obtain⟨u',w',e',a',s'⟩:=ih v' y (by lia) k1 k2 k3;rw[e'];exact .app a' s'
def Bt(h:CC A.has v):(A.rep True).has v:=by
 induction h with
 |nil=>trivial
 | @app u v hu _ ih =>
  cases u with
  |nil=>exact ih
  |cons x u =>
   cases v with
   |nil=>rw[append_nil];exact⟨hu.1,hu.2.1,Me (fun _ _ h=>.inl h) _ _ hu.2.2⟩
   |cons y v =>
    refine⟨hu.1,?_,?_⟩;show(A.rep True).L (lst x (u++y::v));rw[Ij];exact ih.2.1;show chN (A.rep True).N x (u++y::v);rw[jn];exact⟨Me (fun _ _ h=>.inl h) _ _ hu.2.2,.inr ⟨hu.2.1,ih.1⟩,ih.2.2⟩
def q5u (w:List Str):(A.rep True).has w↔CC A.has w:=by
 constructor
 ·intro h;cases w with
  |nil=>exact .nil
  |cons x r =>
   obtain⟨u,v,e,hu,hv⟩:=yt (A:=A) (S0:=True) (r.length+1) r x (Nat.lt_succ_self _) h.1 h.2.1 h.2.2;rw[e];exact .app hu hv
 exact Bt
def q8w (w:List Str):(A.rep A.b).has w↔∃u v,w=u++v/\A.has u/\CC A.has v:=by
 constructor
 ·intro h;cases w with
  |nil=>exact⟨[],[],rfl,h,.nil⟩
  |cons x r=>exact yt (A:=A) (S0:=A.b) (r.length+1) r x (Nat.lt_succ_self _) h.1 h.2.1 h.2.2
 rintro⟨u,v,rfl,hu,hv⟩;have:=Bt (.app hu hv);cases e:u++v with
 |nil =>
  obtain⟨rfl,rfl⟩:=List.append_eq_nil_iff.mp e;exact hu
 |cons x r=>rw[e]at this;exact this
theorem Jj:∀(ps:List Pat)(Es:List Str)(s t:Str),Yb Es ps s t=((decide (s∈Es)&&decide (t∈Tb ps))||Yb [] ps s t)
 | [],Es,s,t=>by simp[Yb,Tb]
 |c::cs,Es,s,t=>by
  simp only[Yb,Tb];rw[Jj cs (Ta c++if cb c=true then Es else[]),Jj cs (Ta c++if cb c=true then[] else[])];by_cases hb:cb c=true<;>by_cases h1:s∈Es<;>by_cases h2:t∈Za c<;>by_cases h3:s∈Ta c<;>by_cases h4:t∈Tb cs<;>simp[hb,h1,h2,h3,h4]
noncomputable def LcP (p:Pat):Lc:=⟨cb p=true,fun x=>x∈Za p,fun x=>x∈Ta p,fun a b=>LkP p a b=true⟩
noncomputable def LcR (ps:List Pat):Lc:=⟨Ob ps=true,fun x=>x∈Tb ps,fun x=>x∈qc ps,fun a b=>LkL ps a b=true\/Yb [] ps a b=true⟩
noncomputable def LcA (ps:List Pat):Lc:=⟨Uf ps=true,fun x=>x∈cc ps,fun x=>x∈Pc ps,fun a b=>LkL ps a b=true⟩
def q5q (p:Pat)(ps:List Pat):LcR (p::ps)=(LcP p).cat (LcR ps):=by
 unfold LcR Lc.cat LcP;simp only[Lc.mk.injEq];refine⟨by simp[Ob],funext fun x=>propext ?_,funext fun x=>propext ?_,funext fun x=>funext fun y=>propext ?_⟩;simp only[Tb,mem_append];by_cases hb:cb p=true<;>simp[hb];simp only[qc,mem_append];by_cases hb:Ob ps=true<;>simp[hb];simp only[LkL,Yb,or_eq_true];rw[Jj ps (Ta p++if cb p=true then[] else[])];have e:(Ta p++if cb p=true then([]:List Str) else[])=Ta p:=by by_cases hb:cb p=true<;>simp[hb]
 rw[e];simp only[or_eq_true,and_eq_true,decide_eq_true_eq,not_mem_nil,decide_false,Bool.false_and,false_eq_true,false_or];constructor
 ·rintro((h|h)|(h|h));exact .inl h;exact .inr (.inl (.inl h));exact .inr (.inr h);exact .inr (.inl (.inr h))
 rintro(h|(h|h)|h);exact .inl (.inl h);exact .inl (.inr h);exact .inr (.inr h);exact .inr (.inl h)
def q7x (p:Pat)(ps:List Pat):LcA (p::ps)=(LcP p).alt (LcA ps):=by unfold LcA Lc.alt LcP;simp only[Lc.mk.injEq];refine⟨by simp[Uf],funext fun x=>propext ?_,funext fun x=>propext ?_,funext fun x=>funext fun y=>propext ?_⟩;simp[cc];simp[Pc];simp[LkL]
theorem rn:∀(ps:List Pat),Yb [] ps s t=true->s∈Qa ps/\t∈Qa ps
 | [],h=>by simp[Yb]at h
 |c::cs,h=>by
  simp only[Yb]at h;rw[Jj cs (Ta c++if cb c=true then[] else[])]at h;have e:(Ta c++if cb c=true then([]:List Str) else[])=Ta c:=by by_cases hb:cb c=true<;>simp[hb]
  rw[e]at h;simp only[or_eq_true,and_eq_true,decide_eq_true_eq,not_mem_nil,decide_false,Bool.false_and,false_eq_true,false_or]at h;simp only[Qa,mem_append];rcases h with ⟨h1,h2⟩|h;exact⟨.inl (Ke c h1),.inr (Hj cs h2)⟩;obtain⟨h1,h2⟩:=rn cs h;exact⟨.inr h1,.inr h2⟩
mutual
theorem Rg {s t:Str}:∀p:Pat,LkP p s t=true->s∈Ba p/\t∈Ba p
 |.none,h=>by simp[LkP]at h
 |.one _,h=>by simp[LkP]at h
 |.row ps,h=>by
  simp only[LkP,or_eq_true]at h;simp only[Ba];rcases h with h|h;exact Vh ps h;exact rn ps h
 |.any ps,h=>by simp only[LkP]at h;simp only[Ba];exact Vh ps h
 |.wrap .maybe p,h=>by simp only[LkP]at h;simp only[Ba];exact Rg p h
 |.wrap .many p,h=>by
  simp only[LkP,or_eq_true,and_eq_true,decide_eq_true_eq]at h;simp only[Ba];rcases h with h|⟨h1,h2⟩;exact Rg p h;exact⟨Ke p h1,Yf p h2⟩
 |.wrap .some p,h=>by
  simp only[LkP,or_eq_true,and_eq_true,decide_eq_true_eq]at h;simp only[Ba];rcases h with h|⟨h1,h2⟩;exact Rg p h;exact⟨Ke p h1,Yf p h2⟩
theorem Vh {s t:Str}:∀ps:List Pat,LkL ps s t=true->s∈Qa ps/\t∈Qa ps
 | [],h=>by simp[LkL]at h
 |p::ps,h=>by
  simp only[LkL,or_eq_true]at h;simp only[Qa,mem_append];rcases h with h|h;obtain⟨h1,h2⟩:=Rg p h;exact⟨.inl h1,.inl h2⟩;obtain⟨h1,h2⟩:=Vh ps h;exact⟨.inr h1,.inr h2⟩
end
def inP (p:Pat):(LcP p).In (fun x=>x∈Ba p):=⟨fun x h=>Yf p h,fun x h=>Ke p h,fun x y h=>Rg p h⟩
def inR (ps:List Pat):(LcR ps).In (fun x=>x∈Qa ps):=⟨fun x h=>Hj ps h,fun x h=>Vm ps h,fun x y h=>by
 rcases h with h|h;exact Vh ps h;exact rn ps h⟩
def inA (ps:List Pat):(LcA ps).In (fun x=>x∈Qa ps):=⟨fun x h=>gn ps h,fun x h=>Wm ps h,fun x y h=>Vh ps h⟩
def q8z (p:Pat):LcP (.wrap .many p)=(LcP p).rep True:=by unfold LcP Lc.rep;simp[cb,Za,Ta,LkP]
def q8s (p:Pat):LcP (.wrap .some p)=(LcP p).rep (LcP p).b:=by unfold LcP Lc.rep;simp[cb,Za,Ta,LkP]
mutual
theorem Sg:∀(p:Pat),(Ba p).Nodup->∀w,RB p w↔(LcP p).has w
 |.none,_,w=>by
  cases w with
  |nil=>simp[RB,Lc.has,LcP,cb]
  |cons x r=>simp[RB,Lc.has,LcP,Za]
 |.one s,_,w=>by
  cases w with
  |nil=>simp[RB,Lc.has,LcP,cb]
  |cons x r =>
   cases r with
   |nil=>simp[RB,Lc.has,LcP,Za,Ta,lst,chN]
   |cons y r=>simp[RB,Lc.has,LcP,chN,LkP]
 |.row ps,nd,w=>by
  have e:LcP (.row ps)=LcR ps:=by
   unfold LcP LcR;simp[cb,Za,Ta,LkP]
  rw[e];exact Dt ps (by simpa[Ba] using nd) w
 |.any ps,nd,w=>by
  have e:LcP (.any ps)=LcA ps:=by
   unfold LcP LcA;simp[cb,Za,Ta,LkP]
  rw[e];exact Et ps (by simpa[Ba] using nd) w
 |.wrap .maybe p,nd,w=>by
  have ih:=Sg p (by simpa[Ba] using nd) w;simp only[RB];rw[ih];cases w with
  |nil=>simp[Lc.has,LcP,cb]
  |cons x r=>simp[Lc.has,LcP,Za,Ta,LkP]
 |.wrap .many p,nd,w=>by
  have ih:RB p=(LcP p).has:=funext fun w=>propext (Sg p (by simpa[Ba] using nd) w);simp only[RB];rw[ih,q8z,q5u]
 |.wrap .some p,nd,w=>by
  have ih:RB p=(LcP p).has:=funext fun w=>propext (Sg p (by simpa[Ba] using nd) w);simp only[RB];rw[ih,q8s,q8w]
theorem Dt:∀(ps:List Pat),(Qa ps).Nodup->∀w,Hd ps w↔(LcR ps).has w
 | [],_,w=>by
  cases w with
  |nil=>simp[Hd,Lc.has,LcR,Ob]
  |cons x r=>simp[Hd,Lc.has,LcR,Tb]
 |p::ps,nd,w=>by
  simp only[Qa]at nd;obtain⟨n1,n2,n3⟩:=nodup_append.mp nd;rw[q5q,j5w (inP p) (inR ps) (fun x h1 h2=>n3 x h1 x h2 rfl)];simp only[Hd];have i1:=Sg p n1;have i2:=Dt ps n2;simp only[i1,i2]
theorem Et:∀(ps:List Pat),(Qa ps).Nodup->∀w,Vd ps w↔(LcA ps).has w
 | [],_,w=>by
  cases w with
  |nil=>simp[Vd,Lc.has,LcA,Uf]
  |cons x r=>simp[Vd,Lc.has,LcA,cc]
 |p::ps,nd,w=>by
  simp only[Qa]at nd;obtain⟨n1,n2,n3⟩:=nodup_append.mp nd;rw[q7x,j6b (inP p) (inA ps) (fun x h1 h2=>n3 x h1 x h2 rfl)];simp only[Vd];have i1:=Sg p n1;have i2:=Et ps n2;simp only[i1,i2]
end
theorem Ft:∀(r:List Str)(x:Str),(x::r).getLast (by simp)=lst x r
 | [],x=>rfl
 |y::r,x=>by rw[List.getLast_cons (by simp)];exact Ft r y
theorem y9 (p:Pat):∀(r:List Str)(x:Str),Gd p x r=true↔chN (fun a b=>LkP p a b=true) x r
 | [],x=>by simp[Gd,chN]
 |y::r,x=>by
  simp only[Gd,chN,and_eq_true,decide_eq_true_eq,y9 p r y];constructor;rintro⟨h1,h2⟩;exact⟨(mem_filter.mp h1).2,h2⟩;rintro⟨h1,h2⟩;exact⟨mem_filter.mpr ⟨(Rg p h1).2,h1⟩,h2⟩
def x7d (p:Pat)(w:List Str):Gc p w=true↔(LcP p).has w:=by
 cases w with
 |nil=>simp[Gc,Lc.has,LcP]
 |cons x r =>
  simp only[Gc,Lc.has,LcP,and_eq_true,decide_eq_true_eq,y9,Ft,and_assoc]
def x3g(nd:(Ba p).Nodup)(w:List Str):Gc p w=true↔RB p w:=by rw[x7d,Sg p nd]
open Pap
def vn:RD:=fun δ Q=>∃ns:List Int,δ=[.ob true (.lst (ns.map .int))]/\∀(x:Int)(ms:List Int),Q false (.int x) [.ob true (.lst (ms.map .int))]
def e_pop {ns:List Int}{w:Beh Q}:vF vn Q w [.ob true (.lst (ns.map .int))] = ∀(x:Int)(ms:List Int),Q false (.int x) [.ob true (.lst (ms.map .int))] :=
 propext ⟨fun⟨_,_,h⟩=>h,fun h=>⟨ns,rfl,h⟩⟩
def wn:RD:=fun δ Q=>∃n:Int,δ=[.fz (.int n)]/\∀z:Str,z.length<=60->Q false (.str z) [.no]
def e_text {n:Int}:vF wn Q w [.fz (.int n)] = ∀z:Str,z.length<=60->Q false (.str z) [.no] :=
 propext ⟨fun⟨_,e,h⟩=>h,fun h=>⟨n,rfl,h⟩⟩
end
open Pap
local macro_rules|`(tactic| w_how)=>do
 let u<-("reduceIte j1y j0o j0a j1j q4r q0a q0t j0d q3k q4i j1d j2t j1f j1r j8b j2e j0l j2x blK_e j2w q9x x5o j0x x9h q2u x4t j9v q9v j8a j8t x8w j1m v_if j9k v_c k0q v_mv v_op j9x j9 q9q v_not j9j v_or j1t j1c j2b v_ifE v_neg j7r j2f k0g j9g v_CB v_CBV v_rev v_mt v_gN x9l q5e j0z j0s q0o q2h j0v q1p q9p v_aV v_aO x6g v_oN v_oS k0i j2v k0o v_slC j2a q2o j3c v_din j0u v_I v_Ic x9y q1d x9n x8v q0p j0b v_cat j7u j1h q9n j2n k0p q9o j2o x4y j0n j2z j3a j2c x5k q0j x4d x6j k0c y0e z9w z9x q1x j2l j0f x9q j0k v_ixC j2g j2j x9r v_scA x8h x8r x9w x5q j8z j1i v_TV j9b j0y v_2V j9t v_2O2 x5r".splitOn " ").mapM fun n=>`(Lean.Parser.Tactic.simpLemma| ↓ $(Lean.mkIdent n.toName):term);let v<-("rsl_t rsl_f outS x4m x5w x0y x0r y8l rJ rK rL rM Nat.reduceAdd rN rP rQ rR List.append_nil rT rV List.filter_cons List.filter_nil sI sK and_true true_and decide_eq_true_eq Bool.true_eq_false Bool.false_eq_true sN sO Bool.not_not Bool.not_eq_eq_eq_not decide_true decide_false if_true if_false eq_self Int.zero_add rW rX not_true_eq_false not_false_eq_true false_and and_false sL sM z9l fgt rY rZ e_pop e_text".splitOn " ").mapM fun n=>`(Lean.Parser.Tactic.simpLemma| $(Lean.mkIdent n.toName):term)
 `(tactic|try simp only[$((u++v).toArray),*])
mutual
noncomputable def pD:AB->D
 |.txt s=>.str s
 |.tup n ps=>.tup [.str n,.lst (pDs ps)]
noncomputable def pDs:List AB->List D
 | []=>[]
 |p::ps=>pD p::pDs ps
end
theorem Xc:∀ps:List AB,pDs ps=ps.map pD
 | []=>rfl
 |p::ps=>by rw[pDs,Xc ps];rfl
def Cc (ps:List AB):(pDs ps).length=ps.length:=by rw[Xc];simp
mutual
noncomputable def dp1:AB->Nat
 |.txt _=>0
 |.tup _ ps=>dpL ps+1
noncomputable def dpL:List AB->Nat
 | []=>0
 |p::ps=>max (dp1 p) (dpL ps)
end
def ue (ps qs:List AB):dpL (ps++qs)=max (dpL ps) (dpL qs):=by
 induction ps with
 |nil=>simp[dpL]
 |cons p ps ih=>simp only[dpL,ih,cons_append];exact(Nat.max_assoc _ _ _).symm
def Oe (ps qs:List AB):pDs (ps++qs)=pDs ps++pDs qs:=by simp[Xc]
def xn {ps:List AB}{k:Nat}(h:k<ps.length):atI (pDs ps) (k:Int)=some (pD ps[k]):=by refine Pd ?_;rw[Xc,getElem?_map,getElem?_eq_getElem h];rfl
def yn(h:p∈ps):dp1 p<=dpL ps:=by
 induction ps with
 |nil=>cases h
 |cons q ps ih =>
  simp only[dpL];rcases mem_cons.mp h with rfl|h
  ·lia
  have:=ih h;lia
def mF(h:p∈ps):Ga p<=xa ps:=by
 induction ps with
 |nil=>cases h
 |cons q ps ih =>
  simp only[xa];rcases mem_cons.mp h with rfl|h
  ·lia
  have:=ih h;lia
section
variable {P:Program}{w:World}{K:W.Frag}{mg:Str->Option Value}{base:Heap}{f:Addr}{fd:FuncData}
def Zf (U:AE P w base K mg):FE U CX0 1 U.u0b (spD vn):=by
 refine VL.Fun.dok (En U.u0b).F rA (by walk_at "a") (by decide) ?_;walk_at "f";obtain⟨ns,rfl,q⟩:=h;have hu:=wb hr;refine⟨_,(ka (Ja (Ti (Qi hu) rg (pv 0) (Ia ja) (Ha _)) (ma (Ea ba)) Pa)
  (ma (Ea (Uq Vq slot_list_pop type_list_pop Bi (pv 0))))),?_⟩
 w_how;refine⟨by decide,?_⟩;cases ns with
 |nil=>exact aF (q 0 [])
 |cons a r =>
  have hlt:(a::r).length - 1<(a::r).length:=by simp
  refine kB ⟨.int (a::r)[(a::r).length - 1],?_,?_⟩;rw[getElem?_map,length_map,getElem?_eq_getElem hlt];rfl;have:=q (a::r)[(a::r).length - 1] (a::r).dropLast;rwa [List.map_dropLast]at this
def Ht (U:AE P w base K mg):FE U CX0 1 U.u0h (spD wn):=by
 refine VL.Fun.dok (En U.u0h).F Qs (by walk_at "a") (by decide) ?_;walk_at "f";obtain⟨n,rfl,q⟩:=h;refine⟨_,(ka (dq 1 Qs.nd (Ia (aa Fa (aa Fa (aa Fa (aa Fa (aa Fa (aa Fa (aa Fa (aa Fa (aa Fa (aa Fa (aa Fa ja)))))))))))))
  (ma (Ea (xL 1 (za Wa Va (dv 0) (dlL 1 U.T.z_len)))))),?_⟩
 w_how;obtain⟨d,hd,e⟩:=Ye (xs:=[D.str "",D.str "x",D.str "\"",D.str "\\",D.str "a b",D.str "\\q",D.str " ",D.str "~<*#",D.str "word(\"",D.str "q\\\\\"",D.str "- | ?"]) (xb (a:=n) (b:=11) (by decide)) (yb (by decide));refine⟨by decide,by decide,d,e,?_⟩;simp only[mem_cons,not_mem_nil,or_false]at hd;rcases hd with rfl|rfl|rfl|rfl|rfl|rfl|rfl|rfl|rfl|rfl|rfl<;>exact q _ (by decide +kernel)
def j3n {lo:Int}(h:d∈sB lo n):∃k:Nat,k<n/\d=.int (lo+k):=by obtain⟨k,hk,rfl⟩:=mem_map.mp h;exact⟨k,mem_range.mp hk,rfl⟩
def zn(h:d∈sB 0 n):∃k:Nat,k<n/\d=.int k:=by obtain⟨k,hk,rfl⟩:=j3n h;exact⟨k,hk,by rw[Int.zero_add]⟩
def j6m (lo:Int)(n:Nat):(sB lo n).length=n:=by simp[sB]
def q2p:RD:=fun δ Q=>∃p:AB,δ=[.fz (pD p)]/\Q false (.str (yd p)) [.no]
def Jt (U:AE P w base K mg):FE U CX0 1 U.u1g (spD q2p):=by
 refine VL.Fun.dok (En U.u1g).F gA (by walk_at "a") (by decide) ?_;walk_at "f";obtain⟨p,rfl,q⟩:=h;refine⟨_,(ma (Ea (de_if (Mc (dII U.T.kit U.T.z_isinstance (dv 0) U.T.z_str boot_str)) (Ol rfl U.T.g_TEXT_SIGN) (xT 0 ba)))),?_⟩;cases p with
 |txt z =>
  simp only[pD];w_how;exact q
 |tup n ps =>
  simp only[pD];w_how;exact q
def q9u (n:Nat):RD:=fun δ Q=>∃ps:List AB,δ=[.fz (.lst (pDs ps))]/\dpL ps<n/\xa ps<=1000000/\Q true (.lst (pDs ps)) [.no]
def j4q (U:AE P w base K mg):∀n,FE U CX0 (n+1) U.u1c (spD (q9u n)):=by
 intro n;induction n with
 |zero=>exact Fc fun δ Q h=>by obtain⟨_,_,h,_⟩:=h;exact not_lt_zero _ h
 |succ n u2m =>
 refine VL.Fun.dok (En U.u1c).F wA (by walk_at "a") (by decide) ?_;walk_at "f";obtain⟨ps,rfl,hdp,hs,q⟩:=h;refine⟨_,(ma (Ea (Oc tg1 (fb (dv 0)) (fun _=>Vc) (fun _=>(de_if (Mc (dII U.T.kit U.T.z_isinstance (dv 0) U.T.z_str boot_str)) (dv 0) (Xa (aa (xT 0 ba) (aa (Ka u2m (En U.u1c) (aa (xT 0 ba) ja)) ja)))))))),?_⟩;have sz:=Oa;have K0:=Cc ps;have hle:=nc ps;w_how;refine Vy id (by lia) (fun d hd P hP=>?_) (by rw[map_id];exact q);rw[Xc]at hd;obtain⟨p,hp,rfl⟩:=mem_map.mp hd;have h1:=yn hp;have h2:=mF hp;cases p with
 |txt z =>
  simp only[pD]at hP ⊢;w_how;exact hP
 |tup nm qs =>
  simp only[pD]at hP ⊢;simp only[dp1]at h1;simp only[Ga]at h2;w_how;refine⟨qs,rfl,by lia,by lia,?_⟩;exact⟨by lia,hP⟩
def x8p (n:Nat):RD:=fun δ Q=>∃ps:List AB,δ=[.fz (.lst (pDs ps))]/\dpL ps<n/\Q false (.int (xa ps)) [.no]
def q7e (U:AE P w base K mg):∀n,FE U CX0 (n+1) U.u2g (spD (x8p n)):=by
 intro n;induction n with
 |zero=>exact Fc fun δ Q h=>by obtain⟨_,_,h,_⟩:=h;exact not_lt_zero _ h
 |succ n u3t =>
 refine VL.Fun.dok (En U.u2g).F Rh (by walk_at "a") (by decide) ?_;walk_at "f";obtain⟨ps,rfl,hdp,q⟩:=h;refine⟨_,(ka (dq 1 Rh.nd ba)
  (ka (dsF (fb (dv 0)) (dn 2 Rh.nd) (ka (dq 1 Rh.nd (za Fb Db (dv 1) ba))
  (ma (Ja (fe (Mc (dII U.T.kit U.T.z_isinstance (dv 2) U.T.z_str boot_str))) (ma (dq 1 Rh.nd (za Fb Db (dv 1) (Ka u3t (En U.u2g) (aa (xT 2 ba) ja))))) Pa))))
  (ma (Ea (dm 1))))),?_⟩
 w_how;refine Jb [2] (fun r δ=>∃pre l0,ps=pre++l0/\r=pDs l0/\δ=[.fz (.lst (pDs ps)),.fz (.int (xa pre)),.no]) ⟨[],ps,rfl,rfl,rfl⟩ ?_ ?_
 ·rintro d r δ ⟨pre,l0,e1,e2,rfl⟩;cases l0 with
  |nil=>cases e2
  |cons p l0 =>
   cases e2;have e5:=congrArg dpL e1;rw[ue]at e5;simp only[dpL]at e5;cases p with
   |txt z =>
    simp only[pD];w_how;refine⟨pre++[.txt z],l0,by simp[e1],rfl,?_⟩;simp[Ad,xa,Ga]
   |tup nm qs =>
    simp only[pD];simp only[dp1]at e5;w_how;refine⟨qs,rfl,by lia,?_⟩;w_how;refine⟨pre++[.tup nm qs],l0,by simp[e1],rfl,?_⟩;simp only[Ad,xa,Ga];have:((xa pre:Int)+1+(xa qs:Int))=((xa pre+(1+xa qs+0):Nat):Int):=by lia
    rw[this]
 rintro δ ⟨pre,l0,e1,e2,rfl⟩;cases l0 with
 |cons p l0=>cases e2
 |nil =>
  w_how;rw[append_nil]at e1;subst e1;exact q
def y7u (K:W.Frag):RD:=fun δ Q=>∃(ns:List Int)(t m:Nat),δ=[.sc K ns,.fz (.int t),.fz (.int m)]/\t<=1000/\m<=1000/\∀ms:List Int,ms.length=m->Q true (.lst (ms.map .int)) [.no,.no,.no]
def An {ns:List Int}{i:Int}(h0:0<=i)(h1:i<ns.length):∃x,atI (ns.map D.int) i=some (.int x):=by obtain⟨d,hd,e⟩:=Ye (xs:=ns.map D.int) h0 (by simpa using h1);obtain⟨x,_,rfl⟩:=mem_map.mp hd;exact⟨x,e⟩
def ixN_of {n:Nat}{i:Int}(h0:0<=i)(h1:i<n):∃j,ixN n i=some j/\j<n:=by unfold ixN;rw[if_pos h0,if_pos h1];exact⟨_,rfl,by lia⟩
def Bn (U:AE P w base K mg):FE U CX0 1 U.u0j (spD (y7u K)):=by
 refine VL.Fun.dok (En U.u0j).F qe (by walk_at "a") (by decide) ?_;walk_at "f";obtain⟨ns,t,m,rfl,ht,hm,q⟩:=h;refine⟨_,(ka (dq 3 qe.nd (za Sb ub (Uy (K:=K) rfl (pv 0) Bc (bc ba)) (Ia (aa (dv 1) ja))))
  (ka (dq 4 qe.nd (Ia ja))
  (ka (Ja (La gb bb (za Wa Va (za Nb Mb (xL 3 ba) ba) ba) ba (Ha _)) (ka (Nf 5 qe.nd tg1 (fb (dv 3)) (fun _=>Vc) (fun _=>(za Nb Mb (dv 0) ba)))
  (ka (dsF (ke rfl U.T.z_range (aa (za Fb Db (dv 1) (dv 2)) ja)) (dn 6 qe.nd) (ka (dq 7 qe.nd (za Wa Va (dv 6) (dlL 5 U.T.z_len)))
  (ka (Ja (La os_ge op_ge (dv 6) (dv 1) (Ha _)) (ma (Gb (dAp 4 (za Wa Va (xL 5 (dv 7)) ba)))) Pa)
  (ma (ir (pv 5) (dv 7) (za Nb Mb (xL 5 (dv 7)) ba))))))
  (ma (Ea (dm 4))))) Pa)
  (ka (dsF (ke rfl U.T.z_range (aa (dv 2) ja)) (dn 6 qe.nd) (ka (dq 8 qe.nd (za Fb Db (za de Xd (za de Xd (za Fb Db (dv 6) (dv 1)) (za Fb Db (dv 6) (dv 1))) ba) ba))
  (ka (dq 9 qe.nd (za Wa Va (za de Xd (za Fb Db (za Wa Va (xL 3 (za Wa Va (dv 6) (dlL 3 U.T.z_len))) ba) (dv 8)) ba) ba))
  (ka (dq 9 qe.nd (za Wa Va (za Fb Db (za de Xd (dv 9) (dv 9)) (za de Xd ba (dv 6))) ba))
  (ma (Gb (dAp 4 (za Wa Va (za de Xd (dv 9) (dv 9)) ba))))))))
  (ma (Ea (dm 4))))))),?_⟩
 have sz:=Oa;have ec:∃cs:List Int,oB (ns.map .int) none (some 63)=cs.map .int/\cs.length<=63:=by
  refine⟨ns.take 63,?_,by rw[length_take];lia⟩;rw[show(63:Int)=((63:Nat):Int) from rfl,Ze,map_take]
 obtain⟨cs0,ec,hcl⟩:=ec;w_how;rw[ec];have e2:List.map D.int cs0++[D.int t]=(cs0++[(t:Int)]).map .int:=by simp
 rw[e2];generalize hcs:cs0++[(t:Int)]=cs;have hcs1:0<cs.length:=by rw[<-hcs];simp
 have hcs2:cs.length<=64:=by rw[<-hcs];simp;lia
 obtain⟨c0,e0⟩:=An (ns:=cs) (i:=0) (by decide) (by lia);refine⟨by lia,by simp;lia,by lia,_,e0,?_⟩;w_how;refine⟨⟨by decide,by decide⟩,by decide,jB (fun _=>?_) fun _=>?_⟩
 ·refine comp1 (fun _ y=>∃x:Int,y=.int x) (by simp;lia) (fun d hd P hP=>?_) fun ys hys=>?_;obtain⟨x,_,rfl⟩:=mem_map.mp hd;w_how;exact⟨⟨by decide,by decide⟩,hP _ ⟨_,rfl⟩⟩;obtain⟨ls,rfl,hls⟩:∃ls:List Int,ys=ls.map .int/\ls.length=cs.length:=by
   have:∀{ds ys:List D},IB (fun _ y=>∃x:Int,y=.int x) ds ys->∃ls:List Int,ys=ls.map .int/\ls.length=ds.length:=by
    intro ds ys h;induction h with
    |nil=>exact⟨[],rfl,rfl⟩
    |cons g _ ih =>
     obtain⟨x,rfl⟩:=g;obtain⟨ls,rfl,hl⟩:=ih;exact⟨x::ls,rfl,by simp[hl]⟩
   obtain⟨ls,h1,h2⟩:=this hys;exact⟨ls,h1,by simpa using h2⟩
  w_how;refine⟨by lia,by lia,Jf [6,7] (fun i δ=>∃(fs ls:List Int),fs.length=i - t/\ls.length=cs.length/\δ=[.sc K ns,.fz (.int t),.fz (.int m),.fz (.lst (cs.map .int)),.ob false (.lst (fs.map .int)),.ob false (.lst (ls.map .int)),.no,.no,.no,.no]) ⟨[],ls,by simp,hls,rfl⟩ ?_ ?_⟩
  ·rintro i δ hi ⟨fs,ls,hf,hl,rfl⟩;w_how;have hL:((List.map D.int ls).length:Int)=cs.length:=by simp[hl]
   rw[hL];have h0:0<(cs.length:Int):=by lia
   have a1:=xb (a:=(i:Int)) h0;have a2:=yb (a:=(i:Int)) h0;generalize (i:Int) % (cs.length:Int)=k at a1 a2 ⊢;obtain⟨x,ex⟩:=An (ns:=ls) a1 (by lia);obtain⟨j,ej,hj⟩:=ixN_of (n:=(List.map D.int ls).length) a1 (by lia);have es:∀v:Int,(List.map D.int ls).set j (.int v)=(ls.set j v).map .int:=fun v=>by simp
   refine⟨h0,jB (fun hge=>⟨_,ex,?_⟩) fun hlt=>⟨_,ex,?_⟩⟩;w_how;refine⟨by decide,by simp;lia,_,ex,?_⟩;w_how;refine⟨⟨by decide,by decide⟩,j,ej,fs++[x % 2147483587],ls.set j (x / 2147483587),by simp;lia,by simp[hl],?_⟩;rw[es];simp;w_how;refine⟨⟨by decide,by decide⟩,j,ej,fs,ls.set j (x / 2147483587),by rw[hf,Nat.sub_eq_zero_of_le (by lia),Nat.sub_eq_zero_of_le (by lia)],by simp[hl],?_⟩;rw[es]
  rintro δ ⟨fs,ls,hf,hl,rfl⟩;w_how;exact q fs (by lia)
 refine⟨by lia,by lia,Jf [6,8,9] (fun i δ=>∃fs:List Int,fs.length=i/\δ=[.sc K ns,.fz (.int t),.fz (.int m),.ob false (.lst (cs.map .int)),.ob false (.lst (fs.map .int)),.no,.no,.no,.no,.no]) ⟨[],rfl,rfl⟩ ?_ ?_⟩
 ·rintro i δ hi ⟨fs,hf,rfl⟩;w_how;have hL:((List.map D.int cs).length:Int)=cs.length:=by simp
  rw[hL];have h0:0<(cs.length:Int):=by lia
  obtain⟨x,ex⟩:=An (ns:=cs) (xb (a:=(i:Int)) h0) (yb h0);refine⟨.inl ⟨by lia,by lia⟩,.inr ⟨by decide,by decide⟩,h0,_,ex,?_⟩;w_how;have b1:=xb (a:=(x % 2147483647+(((i:Int)+t) * (i+t) * 7919+104729)) * 48271) (b:=2147483647) (by decide);have b2:=yb (a:=(x % 2147483647+(((i:Int)+t) * (i+t) * 7919+104729)) * 48271) (b:=2147483647) (by decide);generalize (x % 2147483647+(((i:Int)+t) * (i+t) * 7919+104729)) * 48271 % 2147483647=y at b1 b2 ⊢;have b3:=xb (a:=y * y+69621 * (i:Int)) (b:=2147483629) (by decide);have b4:=yb (a:=y * y+69621 * (i:Int)) (b:=2147483629) (by decide);generalize (y * y+69621 * (i:Int)) % 2147483629=z at b3 b4 ⊢;refine⟨by decide,.inr ⟨by decide,by decide⟩,by decide,.inl ⟨by lia,by lia⟩,.inl ⟨by decide,by decide⟩,by decide,.inl ⟨by lia,by lia⟩,by decide,by simp;lia,fs++[z * z % 2147483587],by simp;lia,by simp⟩
 rintro δ ⟨fs,hf,rfl⟩;w_how;exact q fs (by lia)
def j0h (K:W.Frag):RD:=fun δ Q=>∃(ns:List Int)(k:Nat),δ=[.sc K ns,.fz (.int k)]/\Q false (.int (ns.getD k 0)) [.no,.no]
def j4s (U:AE P w base K mg):FE U CX0 1 U.u2d (spD (j0h K)):=by
 refine VL.Fun.dok (En U.u2d).F qA (by walk_at "a") (by decide) ?_;walk_at "f";obtain⟨ns,k,rfl,q⟩:=h;refine⟨_,(ka (Ja (La Oi xi (dv 1) (lz (K:=K) rfl rfl U.T.z_len (pv 0)) (Ha _)) (ma (Ea (jz (K:=K) rfl (pv 0) (dv 1)))) Pa)
  (ma (Ea ba))),?_⟩
 w_how;by_cases hk:(k:Int)<ns.length
 ·rw[if_pos hk];have hk':k<ns.length:=by lia
  refine⟨ns[k],Pd (by rw[getElem?_eq_getElem hk']),?_⟩;rw[getD_eq_getElem?_getD,getElem?_eq_getElem hk']at q;exact q
 rw[if_neg hk];rw[getD_eq_getElem?_getD,List.getElem?_eq_none (by lia)]at q;exact q
def q4c:RD:=fun δ Q=>∃ps:List AB,δ=[.fz (.lst (pDs ps))]/\ps.length<=1000000/\Q true (.lst ((Hb ps).map .str)) [.no]
def q6d(U:AE P w base K mg):FE U CX0 2 U.u4x (spD q4c):=by have u4y:=Jt U;refine VL.Fun.dok (En U.u4x).F iA (by walk_at "a") (by decide) ?_;walk_at "f";obtain⟨ps,rfl,hl,q⟩:=h;refine⟨_,(ma (Ea (Oc tg1 (fb (dv 0)) (fun _=>Vc) (fun _=>(Ka u4y (En U.u1g) (aa (dv 0) ja)))))),?_⟩;have sz:=Oa;w_how;rw[Xc];refine Xf pD (fun p=>.str (yd p)) ps (by lia) (fun p hp P hP=>?_) (by rw[<-show(Hb ps).map D.str=ps.map (fun p=>.str (yd p)) by simp[Hb]];rw[<-Xc];exact q);w_how;exact⟨p,rfl,hP⟩
def j1w:RD:=fun δ Q=>∃c:Int,δ=[.fz (.int c)]/\∀m:Nat,1<=m->m<=8->Q false (.int m) [.no]
def j3l (U:AE P w base K mg):FE U CX0 1 U.u2x (spD j1w):=by
 refine VL.Fun.dok (En U.u2x).F xA (by walk_at "a") (by decide) ?_;walk_at "f";obtain⟨c,rfl,q⟩:=h;refine⟨_,(ka (Ja (La gb bb (za Wa Va (za Nb Mb (dv 0) ba) ba) ba (Ha _)) (ma (Ea (za Fb Db ba (za Wa Va (za Nb Mb (dv 0) ba) ba)))) Pa)
  (ma (Ea (za Fb Db ba (za Wa Va (za Nb Mb (dv 0) ba) ba))))),?_⟩
 have key:∀b:Int,0<b->b<=8->Qd false (.int (1+c / 16 % b)) [.no]:=fun b h1 h2=>by
  have a1:=xb (a:=c / 16) h1;have a2:=yb (a:=c / 16) h1;have e:(1+c / 16 % b)=(((1+c / 16 % b).toNat:Nat):Int):=by lia
  rw[e];exact q _ (by lia) (by lia)
 w_how;exact⟨⟨by decide,by decide⟩,by decide,jB (fun _=>⟨⟨by decide,by decide⟩,by decide,key 8 (by decide) (by decide)⟩) fun _=>⟨⟨by decide,by decide⟩,by decide,key 4 (by decide) (by decide)⟩⟩
mutual
noncomputable def st1:AB->Nat
 |.txt _=>0
 |.tup n ps=>(if n = "*" then 1 else 0)+stL ps
noncomputable def stL:List AB->Nat
 | []=>0
 |p::ps=>st1 p+stL ps
end
mutual
noncomputable def gf:AB->List AB
 |.txt s=>[.txt s]
 |.tup n ps=>.tup n ps::Hc ps
noncomputable def Hc:List AB->List AB
 | []=>[]
 |p::ps=>gf p++Hc ps
end
def x1a (ps qs:List AB):Hc (ps++qs)=Hc ps++Hc qs:=by
 induction ps with
 |nil=>rfl
 |cons p ps ih=>simp[Hc,ih]
mutual
theorem q1q:∀p:AB,(gf p).length=Ga p
 |.txt _=>rfl
 |.tup _ ps=>by simp[gf,Ga,Wh ps];lia
theorem Wh:∀ps:List AB,(Hc ps).length=xa ps
 | []=>rfl
 |p::ps=>by simp[Hc,xa,q1q p,Wh ps]
end
mutual
theorem x7e:∀p:AB,((gf p).filter fun q=>decide (yd q = "*")).length=st1 p
 |.txt z=>by
  have:decide (yd (.txt z) = "*")=false:=(show decide (("#":Str) = "*")=false by decide +kernel);simp[gf,st1,filter_cons,this]
 |.tup n ps=>by
  have:=Cn ps;have e:yd (.tup n ps)=n:=rfl;simp only[gf,st1,filter_cons,e];by_cases h:n = "*";simp only[h,decide_true,if_true,length_cons,this];lia;simp only[h,decide_false,if_false,false_eq_true,this];lia
theorem Cn:∀ps:List AB,((Hc ps).filter fun q=>decide (yd q = "*")).length=stL ps
 | []=>rfl
 |p::ps=>by simp[Hc,stL,filter_append,x7e p,Cn ps]
end
def Ug (ps qs:List AB):stL (ps++qs)=stL ps+stL qs:=by
 induction ps with
 |nil=>simp[stL]
 |cons p ps ih=>simp[stL,ih];lia
def TB (z:Str):Prop:=z ≠ "*"
def TB.ne(h:TB z):z ≠ "*":=h
def MC:Nat->List AB->Prop
 |0,ps=>ps.length<=3/\∀p∈ps,∃z:Str,p=.txt z
 |d+1,ps=>ps.length<=3/\∀p∈ps,(∃z:Str,p=.txt z) \/ ∃n qs,p=.tup n qs/\TB n/\MC d qs
noncomputable def szQ:Nat->Nat
 |0=>3
 |d+1=>3 * (1+szQ d)
theorem Dn {f:AB->Nat}:∀ps:List AB,(∀p∈ps,f p<=B)->(ps.map f).sum<=ps.length * B
 | [],_=>by simp
 |p::ps,h=>by
  have h1:=h p mem_cons_self;have h2:=Dn ps fun q hq=>h q (mem_cons_of_mem _ hq);simp only[map_cons,sum_cons,length_cons,add_mul,Nat.one_mul]
  lia
theorem Enz:∀ps:List AB,xa ps=(ps.map Ga).sum
 | []=>rfl
 |p::ps=>by simp[xa,Enz ps]
theorem Gn:∀ps:List AB,(∀p∈ps,st1 p=0)->stL ps=0
 | [],_=>rfl
 |p::ps,h=>by simp[stL,h p mem_cons_self,Gn ps fun q hq=>h q (mem_cons_of_mem _ hq)]
theorem Hn:∀ps:List AB,(∀p∈ps,dp1 p<=B)->dpL ps<=B
 | [],_=>zero_le _
 |p::ps,h=>by
  have h1:=h p mem_cons_self;have h2:=Hn ps fun q hq=>h q (mem_cons_of_mem _ hq);simp only[dpL];lia
theorem MC.all:∀(d:Nat)(ps:List AB),MC d ps->xa ps<=szQ d/\stL ps=0/\dpL ps<=d
 |0,ps,⟨h1,h2⟩=>by
  have key:∀p∈ps,Ga p<=1/\st1 p=0/\dp1 p<=0:=fun p hp=>by obtain⟨z,rfl⟩:=h2 p hp;exact⟨le_refl _,rfl,le_refl _⟩
  refine⟨?_,Gn ps fun p hp=>(key p hp).2.1,Hn ps fun p hp=>(key p hp).2.2⟩;have:=Dn (f:=Ga) (B:=1) ps fun p hp=>(key p hp).1;rw[Enz];simp only[szQ];lia
 |d+1,ps,⟨h1,h2⟩=>by
  have key:∀p∈ps,Ga p<=1+szQ d/\st1 p=0/\dp1 p<=d+1:=fun p hp=>by
   rcases h2 p hp with ⟨z,rfl⟩|⟨n,qs,rfl,hn,hq⟩;exact⟨by simp only[Ga];lia,rfl,zero_le _⟩;obtain⟨a,b,c⟩:=MC.all d qs hq;simp[Ga,st1,dp1,hn.ne,b];lia
  refine⟨?_,Gn ps fun p hp=>(key p hp).2.1,Hn ps fun p hp=>(key p hp).2.2⟩;have h3:=Dn (f:=Ga) (B:=1+szQ d) ps fun p hp=>(key p hp).1;have h4:ps.length * (1+szQ d)<=3 * (1+szQ d):=mul_le_mul_right _ h1;rw[Enz];simp only[szQ];lia
def Kt (n:Nat):RD:=fun δ Q=>∃(zs:List Str)(ns:List Int)(dp:Nat),δ=[.fz (.lst (zs.map .str)),.ob true (.lst (ns.map .int)),.fz (.int dp)]/\dp<n/\0<zs.length/\(∀z∈zs,TB z) /\
 ∀(ps:List AB)(ms:List Int),MC dp ps->Q true (.lst (pDs ps)) [.no,.ob true (.lst (ms.map .int)),.no]
def Mt{zs:List Str}{ns:List Int}{dp:Int}(j:Nat)(hj:dp=j)(hn:j<n)(hz:0<zs.length)(ok:∀z∈zs,TB z)(h:∀(ps:List AB)(ms:List Int),MC j ps->Q true (.lst (pDs ps)) [.no,.ob true (.lst (ms.map .int)),.no]) :
  Kt n [.fz (.lst (zs.map .str)),.ob true (.lst (ns.map .int)),.fz (.int dp)] Q:=⟨zs,ns,j,by rw[hj],hn,hz,ok,h⟩
def q7i(U:AE P w base K mg):∀n,FE U CX0 (n+2) U.u0z (spD (Kt n)):=by
 have u0g:=Zf U;have u4h:=Ht U;intro n;induction n with
 |zero=>exact Fc fun δ Q h=>by obtain⟨_,_,_,_,h,_⟩:=h;exact not_lt_zero _ h
 |succ n u3u =>
 refine VL.Fun.dok (En U.u0z).F xj (by walk_at "a") (by decide) ?_;walk_at "f";obtain⟨zs,ns,dp,rfl,hdp,hz,ok,q⟩:=h;refine⟨_,(ka (dq 3 xj.nd (Ia ja))
  (ka (dsF (ke rfl U.T.z_range (aa (za Wa Va (Xb (i:=1) u0g (En U.u0b) (kD (pv 1) Wb)) ba) ja)) (dn 4 xj.nd) (ka (dq 5 xj.nd (Xb (i:=1) u0g (En U.u0b) (kD (pv 1) Wb)))
  (ma (Ja (aG (Eh (La gb bb (za Wa Va (dv 5) ba) ba (Ha _)) (Dh (La gb bb (dv 2) ba (Ha _))))) (ma (Gb (dAp 3 (Ka u4h (En U.u0h) (aa (za Nb Mb (dv 5) ba) ja))))) (ma (Gb (dAp 3 (Xa (aa (xL 0 (za Wa Va (za Nb Mb (dv 5) ba) (dlL 0 U.T.z_len))) (aa (Xb (i:=1) u3u (En U.u0z) (bG (dv 0) (kD (pv 1) (bG (za zh Zg (dv 2) ba) Wb)))) ja))))))))))
  (ma (Ea (dm 3))))),?_⟩
 have sz:=Oa;w_how;refine⟨by decide,fun x ms=>?_⟩;have m1:=xb (a:=x) (b:=4) (by decide);have m2:=yb (a:=x) (b:=4) (by decide);refine⟨by decide,by lia,by lia,Jf [4,5] (fun i δ=>∃ms ps,ps.length=i/\(∀p∈ps,(∃z:Str,p=.txt z) \/ ∃n qs,p=.tup n qs/\TB n/\∃d,dp=d+1/\MC d qs)/\δ=[.fz (.lst (zs.map .str)),.ob true (.lst (ms.map .int)),.fz (.int dp),.ob false (.lst (pDs ps)),.no,.no]) ⟨ms,[],rfl,fun p h=>(by cases h),rfl⟩ ?_ ?_⟩
 ·rintro i δ hi ⟨ms,ps,hl,hp,rfl⟩;w_how;intro x ms;have K0:=Cc ps;have txt:∀z:Str,z.length<=60->(pDs ps).length<sizeLine/\∃(ms_1:List Int)(ps_1:List AB),ps_1.length=i+1/\(∀p∈ps_1,(∃z:Str,p=AB.txt z) \/ ∃n qs,p=AB.tup n qs/\TB n/\∃d,dp=d+1/\MC d qs) /\
    ([.fz (.lst (zs.map .str)),.ob true (.lst (ms.map .int)),.fz (.int dp),.ob false (.lst (pDs ps++[.str z])),.no,.no]:List VL.Slot)=[.fz (.lst (zs.map .str)),.ob true (.lst (ms_1.map .int)),.fz (.int dp),.ob false (.lst (pDs ps_1)),.no,.no]:=fun z hz=>by
   refine⟨by lia,ms,ps++[.txt z],by simp[hl],fun p hq=>?_,by rw[Oe];rfl⟩;rcases mem_append.mp hq with hq|hq;exact hp p hq;exact .inl ⟨z,by simpa using hq⟩
  refine⟨by decide,jB (fun _=>⟨⟨by decide,by decide⟩,txt⟩) fun _=>jB (fun _=>⟨⟨by decide,by decide⟩,txt⟩) fun hd=>?_⟩;have h0:(0:Int)<((List.map D.str zs).length:Int):=by rw[length_map];lia
  obtain⟨d,hd1,e⟩:=Ye (xs:=List.map D.str zs) (i:=x / 3 % ((List.map D.str zs).length:Int)) (xb h0) (yb h0);obtain⟨nm,hnm,rfl⟩:=mem_map.mp hd1;obtain⟨d',rfl⟩:∃d',dp=d' + 1:=⟨dp - 1,by lia⟩;refine⟨⟨by decide,by decide⟩,h0,_,e,Mt d' (by lia) (by lia) hz ok fun qs ms2 hq=>?_⟩;w_how;refine⟨by decide,by lia,ms2,ps++[.tup nm qs],by simp[hl],fun p hq'=>?_,by rw[Oe];rfl⟩;rcases mem_append.mp hq' with hq' | hq';exact hp p hq';exact .inr ⟨nm,qs,by simpa using hq',ok nm hnm,d',rfl,hq⟩
 rintro δ ⟨ms,ps,hl,hp,rfl⟩;w_how;refine q ps ms ?_;cases dp with
 |zero =>
  refine⟨by lia,fun p hq=>?_⟩;rcases hp p hq with h|⟨_,_,_,_,d,h,_⟩;exact h;cases h
 |succ d =>
  refine⟨by lia,fun p hq=>?_⟩;rcases hp p hq with h|⟨n,qs,h1,h2,d',h3,h4⟩;exact .inl h;cases h3;exact .inr ⟨n,qs,h1,h2,h4⟩
noncomputable def abc:List Nat:=("abcdefghijklmnopqrstuvwxyz":Str).cps.toList
def abcOk:∀c∈abc,97<=c/\c<=122:=by decide +kernel
def Xh:abc.length=26:=by decide +kernel
def j4a:∀i,i<26->∀j,j<26->abc[i]? = abc[j]?->i=j:=by decide +kernel
noncomputable def aD (i:Int):Nat:=abc.getD (i % 26).toNat 0
def Nt (i:Int):atI abc (i % 26)=some (aD i):=by
 have h1:=xb (a:=i) (b:=26) (by decide);have h2:=yb (a:=i) (b:=26) (by decide);have e:(i % 26)=(((i % 26).toNat:Nat):Int):=by lia
 have hl:(i % 26).toNat<abc.length:=by rw[Xh];lia
 rw[e,Pd (getElem?_eq_getElem hl)];unfold aD;rw[getD_eq_getElem?_getD,getElem?_eq_getElem hl];rfl
def Ot (i:Int):97<=aD i/\aD i<=122:=by
 have h1:=xb (a:=i) (b:=26) (by decide);have h2:=yb (a:=i) (b:=26) (by decide);have hl:(i % 26).toNat<abc.length:=by rw[Xh];lia
 unfold aD;rw[getD_eq_getElem?_getD,getElem?_eq_getElem hl];exact abcOk _ (getElem_mem hl)
def q6n {i j:Int}(h:aD i=aD j):i % 26=j % 26:=by
 have a1:=xb (a:=i) (b:=26) (by decide);have a2:=yb (a:=i) (b:=26) (by decide);have b1:=xb (a:=j) (b:=26) (by decide);have b2:=yb (a:=j) (b:=26) (by decide);have hl:(i % 26).toNat<abc.length:=by rw[Xh];lia
 have hm:(j % 26).toNat<abc.length:=by rw[Xh];lia
 have:=j4a (i % 26).toNat (by lia) (j % 26).toNat (by lia) (by
  unfold aD at h;rw[getD_eq_getElem?_getD,getD_eq_getElem?_getD,getElem?_eq_getElem hl,getElem?_eq_getElem hm]at h;rw[getElem?_eq_getElem hl,getElem?_eq_getElem hm];exact congrArg some h)
 lia
noncomputable def Pb (n:Int):Str:=join "" ((range (n % 11).toNat).map fun(k:Nat)=>(⟨#[aD (n / 150+(k:Int) * k)]⟩:Str))
noncomputable def atF (n:Int):Int:=n / 11 % ((Pb n).length+1)
noncomputable def Ic (k n:Int):Str:=Txt.slice (Pb n) none (some (atF n))++⟨#[aD (k+n)]⟩++Txt.slice (Pb n) (some (atF n)) none
def Kj (k n:Int):(Ic k n).cps.toList=(Txt.slice (Pb n) none (some (atF n))).cps.toList++aD (k+n)::(Txt.slice (Pb n) (some (atF n)) none).cps.toList:=by show(((Txt.slice (Pb n) none (some (atF n))).cps++#[aD (k+n)])++(Txt.slice (Pb n) (some (atF n)) none).cps).toList=_;simp
def q1u {i j n:Int}(h:Ic i n=Ic j n):(i+n) % 26=(j+n) % 26:=by have e:=congrArg (fun z:Str=>z.cps.toList) h;simp only[Kj]at e;have e2:=List.append_cancel_left e;exact q6n (List.cons.inj e2).1
def q7z (k n:Int):Ic k n ≠ "#":=fun h=>by
 have e:=congrArg (fun z:Str=>z.cps.toList) h;simp only[Kj]at e;have m:aD (k+n)∈("#":Str).cps.toList:=by rw[<-e];simp
 have:=Ot (k+n);have e3:("#":Str).cps.toList=[35]:=by decide +kernel
 rw[e3]at m;simp at m
 lia
def x6m (k n:Int):Ic k n ≠ "*":=fun h=>by
 have e:=congrArg (fun z:Str=>z.cps.toList) h;simp only[Kj]at e;have m:aD (k+n)∈("*":Str).cps.toList:=by rw[<-e];simp
 have:=Ot (k+n);have e3:("*":Str).cps.toList=[42]:=by decide +kernel
 rw[e3]at m;simp at m
 lia
def q4m (n:Int):(Pb n).length<=10:=by
 have m1:=xb (a:=n) (b:=11) (by decide);have m2:=yb (a:=n) (b:=11) (by decide);have hj:=W.KT.join_ones ((range (n % 11).toNat).map fun(k:Nat)=>(⟨#[aD (n / 150+(k:Int) * k)]⟩:Str)) (fun t ht=>by
  obtain⟨k,_,rfl⟩:=mem_map.mp ht;rfl)
 show(join (Str.ofString "") _).length<=10;simp only[length_map,List.length_range]at hj
 lia
def q6o (k n:Int):Ic k n ≠ "zzzzzzzzzzzz":=fun h=>by
 have e:=congrArg (fun z:Str=>z.cps.toList.length) h;simp only[Kj,length_append,length_cons]at e;have hb:=q4m n;have h0:(0:Int)<((Pb n).length:Int)+1:=by lia
 have a1:=xb (a:=n / 11) h0;have a2:=yb (a:=n / 11) h0;have c1:=PyProof.Rows.slice_sn_cases (Pb n) (atF n) a1;have c2:=PyProof.Rows.slice_ns_cases (Pb n) (atF n) a1;have e1:(Txt.slice (Pb n) none (some (atF n))).cps.toList.length=(Txt.slice (Pb n) none (some (atF n))).length:=rfl;have e2:(Txt.slice (Pb n) (some (atF n)) none).cps.toList.length=(Txt.slice (Pb n) (some (atF n)) none).length:=rfl;have e3:("zzzzzzzzzzzz":Str).cps.toList.length=12:=by decide +kernel
 lia
def Pt (n:Nat):sB 0 n=(range n).map fun(k:Nat)=>D.int (k:Int):=by simp[sB]
def q6m (g:Nat->Nat)(l:List Nat):((l.map fun(k:Nat)=>(⟨#[g k]⟩:Str)).map (·.length)).sum=l.length:=by
 induction l with
 |nil=>rfl
 |cons a r ih=>simp only[map_cons,sum_cons,ih,length_cons];show 1+_=_;lia
def q2z:RD:=fun δ Q=>∃k n:Int,δ=[.fz (.int k),.fz (.int n)]/\Q false (.str (Ic k n)) [.no,.no]
theorem Str.len_app (a b:Str):(a++b).length=a.length+b.length:=by show(a.cps++b.cps).size=_;rw[Array.size_append];rfl
def j3f (U:AE P w base K mg):FE U CX0 1 U.u2z (spD q2z):=by
 refine VL.Fun.dok (En U.u2z).F uj (by walk_at "a") (by decide) ?_;walk_at "f";obtain⟨kk,n,rfl,q⟩:=h;refine⟨_,(ka (Ue (i:=2) uj.nd rfl (Or.inr rfl) Fa)
  (ka (dq 3 uj.nd (Oy Fa (Oc tg1 (ke rfl U.T.z_range (aa (za Wa Va (dv 1) ba) ja)) (fun _=>Vc) (fun _=>(Ni Mq Tp (pv 3) (za Wa Va (za Fb Db (za Nb Mb (dv 2) ba) (za de Xd (dv 0) (dv 0))) ba) (fun _ _=>rfl))))))
  (ka (dq 4 uj.nd (za Wa Va (za Nb Mb (dv 1) ba) (za Fb Db (Rq Px ww rfl U.T.z_len PySem.boot_len (pv 3)) ba)))
  (ma (Ea (za Lq Gp (za Lq Gp (Br (dv 3) Bc (bc (dv 4))) (Ni Mq Tp (pv 2) (za Wa Va (za Fb Db (dv 0) (dv 1)) ba) (fun _ _=>rfl))) (Br (dv 3) (bc (dv 4)) Bc))))))),?_⟩
 have hLL:("abcdefghijklmnopqrstuvwxyz":Str).cps.toList=abc:=rfl;have hll:("abcdefghijklmnopqrstuvwxyz":Str).length=26:=Xh;generalize ("abcdefghijklmnopqrstuvwxyz":Str)=letters at hLL hll ⊢;have sz:=Oa;have m1:=xb (a:=n) (b:=11) (by decide);have m2:=yb (a:=n) (b:=11) (by decide);w_how;rw[Pt];refine⟨by decide,by lia,by lia,Xf (fun k:Nat=>D.int (k:Int)) (fun k:Nat=>.str (⟨#[aD (n / 150+(k:Int) * k)]⟩:Str)) (range (n % 11).toNat) (by simp;lia) (fun k hk P hP=>?_) ?_⟩;have hk':=mem_range.mp hk;w_how;refine⟨⟨by decide,by decide⟩,.inl ⟨by lia,by lia⟩,by decide,by lia,_,by rw[hLL];exact Nt _,hP⟩;refine⟨(range (n % 11).toNat).map fun(k:Nat)=>(⟨#[aD (n / 150+(k:Int) * k)]⟩:Str),by simp,PyProof.Rows.joinOk_of_weight ?_ (by decide),?_⟩
 ·have:=q6m (fun k=>aD (n / 150+(k:Int) * k)) (range (n % 11).toNat);rw[this];simp
  lia
 have hb:(Pb n).length<=10:=by
  have:=W.KT.join_ones ((range (n % 11).toNat).map fun(k:Nat)=>(⟨#[aD (n / 150+(k:Int) * k)]⟩:Str)) (fun t ht=>by obtain⟨k,_,rfl⟩:=mem_map.mp ht;rfl);have e:(Pb n).length=_:=this;simp at e
  lia
 show _;rw[show join (Str.ofString "") ((range (n % 11).toNat).map fun(k:Nat)=>(⟨#[aD (n / 150+(k:Int) * k)]⟩:Str))=Pb n from rfl];w_how;have g1:=slice_le (Pb n) none (some (atF n));have g2:=slice_le (Pb n) (some (atF n)) none;have l1:(⟨#[aD (kk+n)]⟩:Str).length=1:=rfl;have l2:=Str.len_app (Txt.slice (Pb n) none (some (atF n))) ⟨#[aD (kk+n)]⟩;have l3:=Str.len_app (Txt.slice (Pb n) none (some (atF n))++⟨#[aD (kk+n)]⟩) (Txt.slice (Pb n) (some (atF n)) none);rw[show n / 11 % (((Pb n).length:Int)+1)=atF n from rfl];exact⟨⟨by decide,by decide⟩,by lia,by lia,by lia,by decide,by lia,_,by rw[hLL];exact Nt _,by lia,by lia,by lia,q⟩
mutual
noncomputable def nC:Pat->Nat
 |.none=>0
 |.one _=>1
 |.row ps=>jb ps
 |.any ps=>jb ps
 |.wrap _ p=>3 * nC p
noncomputable def jb:List Pat->Nat
 | []=>0
 |p::ps=>nC p+jb ps
end
theorem ag:∀ps qs:List Pat,jb (ps++qs)=jb ps+jb qs
 | [],qs=>by simp[jb]
 |p::ps,qs=>by simp only[cons_append,jb,ag ps qs];lia
theorem Yh:∀ps qs:List Pat,yB (ps++qs)=max (yB ps) (yB qs)
 | [],qs=>by simp[yB]
 |p::ps,qs=>by simp only[cons_append,yB,Yh ps qs];exact(Nat.max_assoc _ _ _).symm
def j3z (xs:List D)(h:a+b<=xs.length):oB xs (some (a:Int)) (some ((a:Int)+b))=(xs.drop a).take b:=by
 have e:(a:Int)+(b:Int)=((a+b:Nat):Int):=by lia
 rw[e];unfold oB;rw[HT.sIx_nat,HT.sIx_nat,min_eq_left h,min_eq_left (by lia)];congr 1
 lia
mutual
noncomputable def okP:Pat->Bool
 |.none=>true
 |.one _=>true
 |.row ps=>jE ps
 |.any ps=>!ps.isEmpty&&jE ps
 |.wrap _ p=>okP p
noncomputable def jE:List Pat->Bool
 | []=>true
 |p::ps=>okP p&&jE ps
end
theorem Zh:∀ps qs:List Pat,jE (ps++qs)=(jE ps&&jE qs)
 | [],qs=>by simp[jE]
 |p::ps,qs=>by simp only[cons_append,jE,Zh ps qs,Bool.and_assoc]
theorem Jn:∀{ps:List Pat},c∈ps->jE ps=true->okP c=true
 |q::ps,h,ho=>by
  simp only[jE,and_eq_true]at ho;rcases mem_cons.mp h with rfl|h;exact ho.1;exact Jn h ho.2
structure YC (p q:Pat):Prop where
 sg:Ba q=Ba p
 sz:szP q<=szP p+2
 dp:dpP q<=dpP p+1
 ln:nC q<=3 * nC p
 ok:okP p=true->okP q=true
def Qt:RD:=fun δ Q=>∃(p:Pat)(n:Int),δ=[.fz (bB p),.fz (.int n)]/\∀q:Pat,YC p q->Q false (bB q) [.no,.no]
def x7t (U:AE P w base K mg):FE U CX0 1 U.u0k (spD Qt):=by
 refine VL.Fun.dok (En U.u0k).F sA (by walk_at "a") (by decide) ?_;walk_at "f";obtain⟨p,n,rfl,q⟩:=h;refine⟨_,(ka (Ja (La gb bb (za Wa Va (dv 1) ba) ba (Ha _)) (ma (Ea (Xa (aa Fa (aa (Ia (aa (dv 0) (aa (Xa (aa Fa ja)) ja))) ja))))) Pa)
  (ka (Ja (La gb bb (za Wa Va (dv 1) ba) ba (Ha _)) (ma (Ea (Xa (aa Fa (aa (Ia (aa (Xa (aa Fa ja)) (aa (dv 0) ja))) ja))))) Pa)
  (ka (Ja (La Oi xi (za Wa Va (dv 1) ba) ba (Ha _)) (ma (Ea (Xa (aa (Ce Af Ae (Ia (aa Fa (aa Fa (aa Fa ja)))) (za zh Zg (za Wa Va (dv 1) ba) ba) (fun _ _=>rfl)) (aa (dv 0) ja))))) Pa)
  (ma (Ea (dm 0)))))),?_⟩
 have sz:=Oa;have m1:=xb (a:=n) (b:=9) (by decide);have m2:=yb (a:=n) (b:=9) (by decide);w_how;refine⟨by decide,jB (fun h0=>?_) fun h0=>?_⟩;exact⟨by lia,by lia,by lia,q (.any [p,.none]) ⟨by simp[Ba,Qa],by simp[szP,dB];lia,by simp[dpP,yB],by simp[nC,jb];lia,fun h=>by simp[okP,jE,h]⟩⟩;refine⟨by decide,jB (fun h1=>?_) fun h1=>?_⟩;exact⟨by lia,by lia,by lia,q (.row [.none,p]) ⟨by simp[Ba,Qa],by simp[szP,dB];lia,by simp[dpP,yB],by simp[nC,jb];lia,fun h=>by simp[okP,jE,h]⟩⟩;refine⟨by decide,jB (fun h2=>?_) fun h2=>?_⟩
 ·have e:n % 9=2\/n % 9=3\/n % 9=4:=by lia
  have ok:∀k,YC p (.wrap k p):=fun k=>⟨rfl,by simp only[szP];lia,by simp only[dpP];lia,by simp only[nC];lia,fun h=>h⟩;rcases e with e|e|e<;>rw[e];exact⟨by lia,by decide,_,aC,by lia,q _ (ok .maybe)⟩;exact⟨by lia,by decide,_,tF,by lia,q _ (ok .many)⟩;exact⟨by lia,by decide,_,atI2,by lia,q _ (ok .some)⟩
 exact q p ⟨rfl,by lia,by lia,by lia,fun h=>h⟩
def y9h:RD:=fun δ Q=>∃(sg:List Str)(ns:List Int),δ=[.fz (.lst (sg.map .str)),.ob true (.lst (ns.map .int))]/\sg.length<=9 /\
 ∀(p:Pat)(ms:List Int),Ba p=sg->szP p<=50->dpP p<=20->nC p<=200000->okP p=true->Q false (bB p) [.no,.ob true (.lst (ms.map .int))]
structure IC (sg:List Str)(row:List Pat):Prop where
 si:Qa row=sg
 sz:dB row+3 * row.length<=4 * sg.length
 dp:yB row+2 * row.length<=2 * sg.length
 ln:jb row * 3 ^ row.length<=sg.length * 3 ^ sg.length
 ok:jE row=true
theorem Rt:∀sg:List Str,jE (sg.map .one)=true
 | []=>rfl
 |s::r=>by simp[jE,okP,Rt r]
theorem Tt:∀sg:List Str,Qa (sg.map .one)=sg/\dB (sg.map .one)=sg.length/\yB (sg.map .one)=0/\jb (sg.map .one)=sg.length
 | []=>⟨rfl,rfl,rfl,rfl⟩
 |s::r=>by
  obtain⟨h1,h2,h3,h4⟩:=Tt r;simp only[map_cons,Qa,Ba,dB,szP,yB,dpP,jb,nC,h1,h2,h3,h4,length_cons];exact⟨rfl,by lia,by lia,by lia⟩
def IC.start (sg:List Str):IC sg (sg.map .one):=by obtain⟨h1,h2,h3,h4⟩:=Tt sg;refine⟨h1,?_,?_,?_,Rt sg⟩;rw[h2,length_map];lia;rw[h3,length_map];lia;rw[h4,length_map];exact le_refl _
def IC.step(h:IC sg row)(hm:2<=m)(hl:a+m<=row.length){k:List Pat->Pat}(hk:k=.row\/k=.any)(hq:YC (k ((row.drop a).take m)) q) :
  IC sg (row.take a++[q]++row.drop (a+m)):=by
 have e:row=row.take a++((row.drop a).take m++row.drop (a+m)):=by
  rw[<-List.drop_drop,take_append_drop,take_append_drop]
 have e1:Qa row=Qa (row.take a)++(Qa ((row.drop a).take m)++Qa (row.drop (a+m))):=by rw[<-Pg,<-Pg,<-e]
 have e2:dB row=dB (row.take a)+(dB ((row.drop a).take m)+dB (row.drop (a+m))):=by rw[<-wc,<-wc,<-e]
 have e3:yB row=max (yB (row.take a)) (max (yB ((row.drop a).take m)) (yB (row.drop (a+m)))):=by rw[<-Yh,<-Yh,<-e]
 have e4:jb row=jb (row.take a)+(jb ((row.drop a).take m)+jb (row.drop (a+m))):=by rw[<-ag,<-ag,<-e]
 have k1:Ba (k ((row.drop a).take m))=Qa ((row.drop a).take m):=by rcases hk with rfl|rfl<;>rfl
 have k2:szP (k ((row.drop a).take m))=1+dB ((row.drop a).take m):=by rcases hk with rfl|rfl<;>rfl
 have k3:dpP (k ((row.drop a).take m))=yB ((row.drop a).take m)+1:=by rcases hk with rfl|rfl<;>rfl
 have k4:nC (k ((row.drop a).take m))=jb ((row.drop a).take m):=by rcases hk with rfl|rfl<;>rfl
 obtain⟨r,hr⟩:=Nat.exists_eq_add_of_le hl;have len:(row.take a++[q]++row.drop (a+m)).length=a+r+1:=by
  rw[length_append,length_append,length_take,length_drop,hr,Nat.add_sub_cancel_left,add_assoc a m,min_eq_left (le_add_right _ _)];exact Nat.add_right_comm _ _ _
 obtain⟨s1,s2,s3,s4,s5⟩:=hq;refine⟨?_,?_,?_,?_,?_⟩;rw[Pg,Pg];simp only[Qa,append_nil];rw[s1,k1,<-h.si,e1,append_assoc]
 ·rw[len,wc,wc];simp only[dB];have:=h.sz;clear e3
  lia
 rw[len,Yh,Yh];simp only[yB];have d0:=h.dp;have a1:=mxA e3;have a2:=mxB e3;have a3:=mxC e3;clear e1 e2 e3 e4;exact le_trans (add_le_add_right (mx3 (d:=yB row+2) (by lia) (by lia) (by lia)) _) (by lia)
 ·rw[len,ag,ag];simp only[jb];have h1:jb (row.take a)+(nC q+0)+jb (row.drop (a+m))<=3 * jb row:=by clear e2 e3;lia
  calc _<=(3 * jb row) * 3 ^ (a+r+1):=mul_le_mul_right _ h1
   _=jb row * 3 ^ (a+r+2):=by rw[Nat.pow_succ 3 (a+r+1),Nat.mul_comm 3,Nat.mul_assoc,Nat.mul_comm 3]
   _<=jb row * 3 ^ row.length:=mul_le_mul_left _ (Nat.pow_le_pow_right (by decide) (by clear e2 e3 e4 h1;lia))
   _<=_:=h.ln
 have h0:=h.ok;rw[e,Zh,Zh,and_eq_true,and_eq_true]at h0;have h1:okP (k ((row.drop a).take m))=true:=by
  rcases hk with rfl|rfl;exact h0.2.1;have:((row.drop a).take m).isEmpty=false:=by
   rw[List.isEmpty_eq_false_iff];intro z;have:=congrArg List.length z;rw[length_take,length_drop]at this;simp at this
   lia
  simp[okP,this,h0.2.1]
 rw[Zh,Zh];simp[jE,h0.1,h0.2.2,s5 h1]
def pw9:∀n:Nat,n<=9->n * 3 ^ n<=177147:=by decide
def x7i(U:AE P w base K mg):FE U CX0 2 U.u1j (spD y9h):=by
 have u0g:=Zf U;have u4b:=x7t U;refine VL.Fun.dok (En U.u1j).F Pf (by walk_at "a") (by decide) ?_;walk_at "f";obtain⟨sg,ns,rfl,hl,q⟩:=h;have hu:=wb hr;refine⟨_,(ka (Nf 2 Pf.nd tg1 (fb (dv 0)) (fun _=>Vc) (fun _=>(Xa (aa Fa (aa (dv 0) ja)))))
  (ka (El PassesOwn.never (La Ah ng (dlL 2 U.T.z_len) ba (Ha _)) (ka (dq 3 Pf.nd (Xb (i:=1) u0g (En U.u0b) (kD (pv 1) Wb)))
  (ka (dq 4 Pf.nd (za Fb Db ba (za de Xd (za Wa Va (dv 3) ba) (zg cs_int Xv rfl U.T.z_int boot_int (aa (yh Ah ng (dlL 2 U.T.z_len) ba (Ha _)) ja)))))
  (ka (dq 5 Pf.nd (za Wa Va (za Nb Mb (dv 3) ba) (za Fb Db (za zh Zg (dlL 2 U.T.z_len) (dv 4)) ba)))
  (ka (dq 6 Pf.nd (Xa (aa (Ce Af Ae (Ia (aa Fa (aa Fa ja))) (za Wa Va (za Nb Mb (dv 3) ba) ba) (fun _ _=>rfl)) (aa (Nc (pv 2) (bc (dv 5)) (bc (za Fb Db (dv 5) (dv 4)))) ja))))
  (ma (dq 2 Pf.nd (za Sb ub (za Sb ub (Nc (pv 2) Bc (bc (dv 5))) (Ia (aa (Ka u4b (En U.u0k) (aa (dv 6) (aa (za Nb Mb (dv 3) ba) ja))) ja))) (Nc (pv 2) (bc (za Fb Db (dv 5) (dv 4))) Bc)))))))))
  (ka (Ja (Ti (Qi hu) rg (pv 2) (Ia ja) (Ha _)) (ma (Gb (dAp 2 (Xa (aa Fa ja))))) Pa)
  (ma (Ea (Ka u4b (En U.u0k) (aa (xL 2 ba) (aa (Xb (i:=1) u0g (En U.u0b) (kD (pv 1) Wb)) ja)))))))),?_⟩
 have sz:=Oa;w_how;refine Xf D.str (fun s=>bB (.one s)) sg (by lia) (fun s hs P hP=>?_) ?_;w_how;exact⟨by lia,hP⟩;w_how;refine⟨[3,4,5,6],fun δ=>∃(row:List Pat)(ms:List Int),IC sg row/\δ=[.fz (.lst (sg.map .str)),.ob true (.lst (ms.map .int)),.ob false (.lst (Ma row)),.no,.no,.no,.no],fun δ=>match δ with | [_,_,.ob _ (.lst xs),_,_,_,_]=>xs.length|_=>0,⟨sg.map .one,ns,.start sg,by rw[Cd,map_map];rfl⟩,?_⟩;rintro δ ⟨row,ms,ok,rfl⟩;have hrl:=Mg row;have hrs:=Je row;have ksz:=ok.sz;have kdp:=ok.dp;have kln:=ok.ln;w_how;refine jB (fun h1 x ms=>?_) fun h1=>?_
 ·have x1:=xb (a:=x) (b:=2) (by decide);have x2:=yb (a:=x) (b:=2) (by decide);obtain⟨m,em,hm2,hml⟩:∃m:Nat,(2+x % 2 * if 2<((Ma row).length:Int) then 1 else 0)=(m:Int)/\2<=m/\m<=row.length:=by
   split;exact⟨(2+x % 2 * 1).toNat,by lia,by lia,by lia⟩;exact⟨2,by lia,by lia,by lia⟩
  have cm:UC (x % 2) (if 2<((Ma row).length:Int) then 1 else 0):=.inl ⟨by lia,by lia⟩;rw[em];have hp:(0:Int)<((Ma row).length:Int) - m+1:=by lia
  have y1:=xb (a:=x / 2) hp;have y2:=yb (a:=x / 2) hp;obtain⟨a,ea⟩:=Int.eq_ofNat_of_zero_le y1;have hal:a+m<=row.length:=by
   rw[ea]at y2;clear em y1 h1 cm hp x1 x2 kln kdp ksz hrs sz hm2 hml ea
   lia
  rw[ea,j3z _ (by lia),Ze];have z1:=xb (a:=x / 32) (b:=2) (by decide);have z2:=yb (a:=x / 32) (b:=2) (by decide);have fin:∀(nm:Str)(k:List Pat->Pat),(k=.row\/k=.any)->bB (k ((row.drop a).take m))=.tup [.str nm,.lst (Ma ((row.drop a).take m))]->vF Qt
    (fun b d_1 x_1=>1<=sizeLine/\cH (D.lst ((Ma row).take a)) (D.lst [d_1]) fun b d_2=>Pl 2 (doS (dOp (fI fun i j=>D.int (i+j)) (jD 5) (jD 4))) doN
     [Slot.fz (D.lst (List.map D.str sg)),Slot.ob true (D.lst (List.map D.int ms)),Slot.ob false (D.lst (Ma row)),Slot.fz (D.int x),Slot.fz (D.int m),Slot.fz (D.int a),Slot.fz (D.tup [.str nm,D.lst (((Ma row).drop a).take m)])]
     fun x y δ2=>cH d_2 y fun b d=>zF 2 (rsl b d) δ2 fun δ2 =>
      (∃row ms,IC sg row/\(((δ2.set 3 Slot.no).set 4 Slot.no).set 5 Slot.no).set 6 Slot.no=[Slot.fz (D.lst (List.map D.str sg)),Slot.ob true (D.lst (List.map D.int ms)),Slot.ob false (D.lst (Ma row)),Slot.no,Slot.no,Slot.no,Slot.no]) /\
       (match (((δ2.set 3 Slot.no).set 4 Slot.no).set 5 Slot.no).set 6 Slot.no with
        | [_,_,Slot.ob _ (D.lst xs),_,_,_,_]=>xs.length
        |_=>0)<(Ma row).length) Beh.mk [Slot.fz (D.tup [.str nm,D.lst (((Ma row).drop a).take m)]),Slot.fz (D.int (x / 64))]:=by
   intro nm k hk ek;clear em y1 y2 ea cm hp x1 x2 z1 z2 h1;obtain⟨r,hr⟩:=Nat.exists_eq_add_of_le hal;have ed:((Ma row).drop a).take m=Ma ((row.drop a).take m):=by rw[Cd,Cd,map_take,map_drop]
   rw[ed,<-ek];refine⟨_,x / 64,rfl,fun q hq=>?_⟩;w_how;rw[show((a:Int)+m)=((a+m:Nat):Int) by lia,Fg];have tl:(take a (Ma row)).length=a:=by rw[length_take];lia
   have tl2:(take a (Ma row)++[bB q]++drop (a+m) (Ma row)).length=a+1+r:=by rw[length_append,length_append,tl,length_drop,hrl,hr,Nat.add_sub_cancel_left];rfl
   refine⟨by lia,by lia,by rw[<-length_append,tl2];lia,⟨row.take a++[q]++row.drop (a+m),ms,ok.step hm2 hal hk hq,?_⟩,by rw[tl2];lia⟩;rw[Dj,Dj];simp[Cd,map_take,map_drop]
  rcases(show x / 32 % 2=0\/x / 32 % 2=1 by lia) with e|e<;>rw[e];exact⟨by decide,cm,⟨by decide,by decide⟩,hp,by lia,⟨by decide,by decide⟩,by decide,_,aC,by lia,⟨by decide,by decide⟩,fin _ .row (.inl rfl) rfl⟩;exact⟨by decide,cm,⟨by decide,by decide⟩,hp,by lia,⟨by decide,by decide⟩,by decide,_,tF,by lia,⟨by decide,by decide⟩,fin _ .any (.inr rfl) rfl⟩
 refine⟨by lia,?_⟩;cases row with
 |nil =>
  refine aF ⟨by lia,by simp[Ma];lia,_,aC,fun x ms=>⟨.none,x,rfl,fun q' hq=>?_⟩⟩;obtain⟨s1,s2,s3,s4,s5⟩:=hq;exact q q' ms (by rw[s1];exact ok.si) (by simp only[szP]at s2;lia) (by simp only[dpP]at s3;lia) (by simp only[nC]at s4;lia) (s5 rfl)
 |cons p r =>
  have er:r=[]:=by
   have:(p::r).length<=1:=by lia
   simpa using this
  subst er;refine kB ⟨_,aC,fun x ms=>⟨p,x,rfl,fun q' hq=>?_⟩⟩;obtain⟨s1,s2,s3,s4,s5⟩:=hq;have e1:=ok.si;have b9:=pw9 sg.length hl;simp only[Qa,append_nil]at e1;simp only[dB,length_cons,length_nil]at ksz;simp only[yB,length_cons,length_nil]at kdp;simp only[jb,length_cons,length_nil]at kln;exact q q' ms (by rw[s1];exact e1) (by lia) (by lia) (by lia) (s5 (by simpa[jE] using ok.ok))
def x6a:RD:=fun δ Q=>∃(zs:List Str)(n:Int),δ=[.fz (.lst (zs.map .str)),.fz (.int n)]/\zs.length<=8/\zs.Nodup/\("#":Str)∉zs /\
 ∀us:List Str,us.Nodup->us.length<=9->(∀u∈us,u = "#" \/ u∈zs)->∀b,Q b (.lst (us.map .str)) [.no,.no]
def q4d (U:AE P w base K mg):FE U CX0 1 U.u1z (spD x6a):=by
 refine VL.Fun.dok (En U.u1z).F vj (by walk_at "a") (by decide) ?_;walk_at "f";obtain⟨zs,n,rfl,hl,nd,nh,q⟩:=h;refine⟨_,(ka (Nf 2 vj.nd tg2 (Qr rfl U.T.z_enumerate (aa (dv 0) ja)) (fun _=>(Ee (La Oi xi (za Wa Va (za Nb Mb (dv 3) (za Fb Db (dv 0) ba)) ba) ba (Ha _)))) (fun _=>(dv 1)))
  (ka (Ja (La gb bb (za Wa Va (za Nb Mb (dv 1) ba) ba) ba (Ha _)) (ma (Gb (dAp 2 Fa))) Pa)
  (ka (dq 3 vj.nd (za Wa Va (za Nb Mb (dv 1) ba) (za Fb Db (dlL 2 U.T.z_len) ba)))
  (ka (dq 2 vj.nd (za Sb ub (Nc (pv 2) (bc (dv 3)) Bc) (Nc (pv 2) Bc (bc (dv 3)))))
  (ka (Ja (La gb bb (za Wa Va (za Nb Mb (dv 1) ba) ba) ba (Ha _)) (ma (Ea (Cz (dv 2)))) Pa)
  (ma (Ea (dm 2)))))))),?_⟩
 have sz:=Oa;w_how;refine⟨fun r n0 δ1=>δ1=[.fz (.lst (zs.map .str)),.fz (.int n),.no,.no]/\∃pre l0 us,zs=pre++l0/\r=wd pre.length (l0.map .str)/\n0=us.map D.str/\us.Sublist pre,⟨rfl,[],zs,[],rfl,rfl,rfl,.refl _⟩,?_,?_⟩
 ·rintro d r n0 δ1 ⟨rfl,pre,l0,us,e1,e2,rfl,e3⟩;cases l0 with
  |nil=>cases e2
  |cons z l0 =>
   cases e2;w_how;have K0:pre.length<8:=by rw[e1]at hl;simp at hl;lia
   have hus:us.length<=pre.length:=e3.length_le;refine⟨⟨by lia,lt_of_le_of_lt (Nat.log2_le_self _) (by lia)⟩,by decide,jB (fun _=>⟨by simp;lia,pre++[z],l0,us++[z],by simp[e1],by simp,by simp,e3.append (.refl _)⟩) fun _=>⟨pre++[z],l0,us,by simp[e1],by simp,rfl,e3.trans (List.sublist_append_left _ _)⟩⟩
 rintro n0 δ1 ⟨rfl,pre,l0,us,e1,e2,rfl,e3⟩;cases l0 with
 |cons z l0=>cases e2
 |nil =>
  rw[append_nil]at e1;subst e1;have fin:∀vs:List Str,vs.Nodup->vs.length<=9->(∀u∈vs,u = "#" \/ u∈zs)->((0:Int)<14/\(natAbs 14).log2<9000) /\
   0<((vs.map D.str).length:Int)+1 /\
    (oB (vs.map D.str) (some (n / 14 % (((vs.map D.str).length:Int)+1))) none).length+(oB (vs.map D.str) none (some (n / 14 % (((vs.map D.str).length:Int)+1)))).length<=sizeLine /\
     ((0:Int)<1009/\(natAbs 1009).log2<9000)/\(0:Int)<2 /\
       if n / 1009 % 2=0 then Qd true (D.lst (oB (vs.map D.str) (some (n / 14 % (((vs.map D.str).length:Int)+1))) none++oB (vs.map D.str) none (some (n / 14 % (((vs.map D.str).length:Int)+1)))).reverse) [Slot.no,Slot.no]
       else Qd true (D.lst (oB (vs.map D.str) (some (n / 14 % (((vs.map D.str).length:Int)+1))) none++oB (vs.map D.str) none (some (n / 14 % (((vs.map D.str).length:Int)+1))))) [Slot.no,Slot.no]:=by
   intro vs h1 h2 h3;have hp:(0:Int)<((vs.map D.str).length:Int)+1:=by lia
   have y1:=xb (a:=n / 14) hp;have y2:=yb (a:=n / 14) hp;obtain⟨a,ea⟩:∃a:Nat,n / 14 % (((vs.map D.str).length:Int)+1)=(a:Int):=⟨_,(Int.toNat_of_nonneg y1).symm⟩;rw[ea,Fg,Ze,<-map_drop,<-map_take,<-map_append,<-map_reverse];have hn:(vs.drop a++vs.take a).Nodup:=by rw[List.perm_append_comm.nodup_iff,take_append_drop];exact h1
   have hlen:(vs.drop a++vs.take a).length<=9:=by rw[length_append,length_drop,length_take];exact le_trans (sbm _ _) h2
   have hm:∀u∈vs.drop a++vs.take a,u = "#" \/ u∈zs:=fun u hu=>h3 u (by
    rcases mem_append.mp hu with z|z;exact List.mem_of_mem_drop z;exact List.mem_of_mem_take z)
   refine⟨⟨by decide,by decide⟩,hp,by rw[length_map,length_map,<-length_append];clear y1 y2 ea;lia,⟨by decide,by decide⟩,by decide,jB (fun _=>?_) fun _=>?_⟩;exact q _ ((List.reverse_perm _).nodup_iff.mpr hn) (by rw[length_reverse];exact hlen) (fun u hu=>hm u (List.mem_reverse.mp hu)) _;exact q _ hn hlen hm _
  w_how;have hus:=e3.length_le;have und:=e3.nodup nd;have usub:=e3.subset;refine⟨⟨by decide,by decide⟩,by decide,jB (fun _=>⟨by simp;lia,?_⟩) fun _=>?_⟩
  ·have:=fin (us++[("#":Str)]) (by
    rw[nodup_append];exact⟨und,by simp,fun a ha b hb=>by simp at hb;subst hb;intro z;subst z;exact nh (usub ha)⟩) (by simp;lia) (fun u hu=>by
    rcases mem_append.mp hu with z|z;exact .inr (usub z);exact .inl (by simpa using z))
   rw[map_append]at this;exact this
  exact fin us und (by lia) fun u hu=>.inr (usub hu)
noncomputable def kb (T0:Str) (R0:List (Str×Pat)):D:=.tup [.str T0,.lst (R0.map fun r=>.tup [.str r.1,bB r.2])]
structure PatOk (zs:List Str)(p:Pat):Prop where
 nd:(Ba p).Nodup
 sg:∀s∈Ba p,s = "#" \/ s∈zs
 sz:szP p<=50
 dp:dpP p<=20
 ln:nC p<=200000
 ok:okP p=true
structure LB (T0:Str)(R0:List (Str×Pat)):Prop where
 len:R0.length<=8
 nd:(R0.map (·.1)).Nodup
 T0:T0∈R0.map (·.1)
 ns:∀s:Str,s∈R0.map (·.1)->s ≠ "*"/\s ≠ "zzzzzzzzzzzz"
 pat:∀r∈R0,PatOk (R0.map (·.1)) r.2
def j0t (K:W.Frag):RD:=fun δ Q=>∃(ns:List Int)(t m:Nat),δ=[.sc K ns,.fz (.int t),.fz (.int m)]/\t<=500/\1<=m/\m<=8/\∀T0 R0,LB T0 R0->Q false (kb T0 R0) [.no,.no,.no]
def j5y(U:AE P w base K mg) :
  FE U CX0 3 U.u2y (spD (j0t K)):=by
 have u0g:=Zf U;have u5a:=x7i U;have u2t:=Bn U;have u5p:=j3f U;have u5h:=q4d U;refine VL.Fun.dok (En U.u2y).F Qf (by walk_at "a") (by decide) ?_;walk_at "f";obtain⟨ns,t,m,rfl,ht,hm1,hm2,q⟩:=h;refine⟨_,(ka (dq 3 Qf.nd (Lh u2t (En U.u0j) (pv 0) (aa (dv 1) (aa (za Fb Db (za de Xd ba (dv 2)) ba) ja))))
  (ka (Ue (i:=4) Qf.nd rfl (Or.inr rfl) (Xb (i:=3) u0g (En U.u0b) (kD (pv 3) Wb)))
  (ka (Nf 5 Qf.nd tg1 (ke rfl U.T.z_range (aa (dv 2) ja)) (fun _=>Vc) (fun _=>(Ka u5p (En U.u2z) (aa (dv 0) (aa (dv 5) ja)))))
  (ka (dq 6 Qf.nd (Ia ja))
  (ka (dsF (fb (dv 5)) (dn 7 Qf.nd) (ma (Gb (dAp 6 (Xa (aa (dv 7) (aa (Xb (i:=3) u5a (En U.u1j) (bG (Ka u5h (En U.u1z) (aa (dv 5) (aa (Xb (i:=3) u0g (En U.u0b) (kD (pv 3) Wb)) ja))) (kD (pv 3) Wb))) ja)))))))
  (ka (dq 8 Qf.nd (za Wa Va (za Nb Mb (dv 4) ba) (dv 2)))
  (ma (Ea (Xa (aa (xL 5 (za Wa Va (Xb (i:=3) u0g (En U.u0b) (kD (pv 3) Wb)) (dv 2))) (aa (za Sb ub (Nc (pv 6) (bc (dv 8)) Bc) (Nc (pv 6) Bc (bc (dv 8)))) ja))))))))))),?_⟩
 have sz:=Oa;w_how;refine⟨.inl ⟨by decide,by decide⟩,ns,t,14 * m+2,by congr 3,by lia,by lia,fun ms hms=>?_⟩;w_how;intro x ms1;refine⟨by lia,by lia,?_⟩;rw[toNat_natCast,Pt];refine Xf (fun k:Nat=>D.int (k:Int)) (fun k:Nat=>.str (Ic k x)) (range m) (by simp;lia) (fun k hk P hP=>?_) ?_;w_how;exact⟨_,_,rfl,hP⟩;have ez:(range m).map (fun k:Nat=>D.str (Ic k x))=((range m).map fun k:Nat=>Ic k x).map D.str:=by rw[map_map];rfl
 rw[ez];have hz1:((range m).map fun k:Nat=>Ic k x).length=m:=by simp
 have hz2:((range m).map fun k:Nat=>Ic k x).Nodup:=by
  unfold List.Nodup;rw[List.pairwise_map];refine List.Pairwise.imp_of_mem (fun {a b} ha hb hne e=>hne ?_) List.nodup_range;have h1:=q1u e;have h2:=mem_range.mp ha;have h3:=mem_range.mp hb
  lia
 have hz3:("#":Str)∉(range m).map fun k:Nat=>Ic k x:=fun h=>by
  obtain⟨k,_,e⟩:=mem_map.mp h;exact q7z _ _ e
 have hz4:∀s:Str,s∈((range m).map fun k:Nat=>Ic k x)->s ≠ "*"/\s ≠ "zzzzzzzzzzzz":=fun s h=>by
  obtain⟨k,_,rfl⟩:=mem_map.mp h;exact⟨x6m _ _,q6o _ _⟩
 generalize (range m).map (fun k:Nat=>Ic k x)=zs at hz1 hz2 hz3 hz4 ⊢;w_how;refine⟨by lia,Jb [7] (fun r δ=>∃(pre l0:List Str)(R0:List (Str×Pat))(ms:List Int),zs=pre++l0/\r=l0.map .str/\R0.map (·.1)=pre/\(∀r∈R0,PatOk zs r.2) /\
  δ=[.sc K ns,.fz (.int t),.fz (.int m),.ob false (.lst (ms.map .int)),.fz (.int x),.fz (.lst (zs.map .str)),.ob false (.lst (R0.map fun r=>.tup [.str r.1,bB r.2])),.no,.no]) ⟨[],zs,[],ms1,rfl,rfl,rfl,(fun r hr=>by cases hr),rfl⟩ ?_ ?_⟩
 ·rintro d r δ ⟨pre,l0,R0,ms2,e1,e2,e3,ok,rfl⟩;cases l0 with
  |nil=>cases e2
  |cons z l0 =>
   cases e2;w_how;intro x1 ms3;refine⟨zs,x1,rfl,by lia,hz2,hz3,fun us u1 u2 u3 b=>?_⟩;w_how;refine⟨us,ms3,rfl,u2,fun p ms4 p1 p2 p3 p4 p5=>?_⟩;w_how;have hlr:R0.length<=8:=by
    have:=congrArg List.length e3;rw[length_map]at this;rw[e1,length_append]at hz1
    lia
   refine⟨by lia,by simp;lia,pre++[z],l0,R0++[(z,p)],ms4,by simp[e1],rfl,by simp[e3],fun r hr=>?_,by simp⟩;rcases mem_append.mp hr with h|h;exact ok r h;simp at h;subst h;exact⟨by rw[p1];exact u1,fun s hs=>u3 s (by rw[<-p1];exact hs),p2,p3,p4,p5⟩
 rintro δ ⟨pre,l0,R0,ms2,e1,e2,e3,ok,rfl⟩;cases l0 with
 |cons z l0=>cases e2
 |nil =>
  rw[append_nil]at e1;subst e1;w_how;have hm0:(0:Int)<(m:Int):=by lia
  refine⟨⟨by decide,by decide⟩,hm0,fun x1 ms3=>⟨hm0,?_⟩⟩;have y1:=xb (a:=x / 7) hm0;have y2:=yb (a:=x / 7) hm0;obtain⟨a,ea⟩:∃a:Nat,x / 7 % (m:Int)=(a:Int):=⟨_,(Int.toNat_of_nonneg y1).symm⟩;rw[ea,Fg,Ze,<-map_drop,<-map_take,<-map_append];have hlr:R0.length=zs.length:=by rw[<-e3,length_map]
  obtain⟨d,hd,ed⟩:=Ye (xs:=zs.map D.str) (xb (a:=x1) hm0) (by rw[length_map,hz1];exact yb hm0);obtain⟨T0,hr,rfl⟩:=mem_map.mp hd;have pm:(R0.drop a++R0.take a).Perm R0:=by
   have:=List.perm_append_comm (l₁:=R0.drop a) (l₂:=R0.take a);rwa [take_append_drop]at this
  refine⟨_,ed,by rw[length_map,length_map,length_drop,length_take];exact le_trans (sbm _ _) (by lia),by lia,q T0 _ ⟨by rw[pm.length_eq];lia,?_,?_,fun s hs=>hz4 s (by rw[<-e3];exact((pm.map _).mem_iff.mp hs)),fun r hr=>?_⟩⟩;rw[(pm.map _).nodup_iff,e3];exact hz2;rw[(pm.map _).mem_iff,e3];exact hr;have o:=ok r (pm.mem_iff.mp hr);refine⟨o.nd,fun s hs=>?_,o.sz,o.dp,o.ln,o.ok⟩;rw[(pm.map _).mem_iff,e3];exact o.sg s hs
theorem Kn:∀{ps:List Pat},p∈ps->nC p<=jb ps
 |q::ps,h=>by
  rcases mem_cons.mp h with rfl|h;simp only[jb];lia;have:=Kn h;simp only[jb];lia
def fst1:∀m,m<1->([("maybe":Str),"many","some"]:List Str)[m]? ≠ some ("many":Str):=fun m h=>by
 have:m=0:=by lia
 subst this;decide
def fst2:∀m,m<2->([("maybe":Str),"many","some"]:List Str)[m]? ≠ some ("some":Str):=fun m h=>by
 have:m=0\/m=1:=by lia
 rcases this with rfl|rfl<;>decide
theorem Ln:∀{ps:List Pat},p∈ps->s∈Ba p->s∈Qa ps
 |q::ps,h,hs=>by
  rw[Qa];rcases mem_cons.mp h with rfl|h;exact mem_append_left _ hs;exact mem_append_right _ (Ln h hs)
def Mn (n:Nat):RD:=fun δ Q=>∃(p:Pat)(ns:List Int),δ=[.fz (bB p),.ob true (.lst (ns.map .int))]/\dpP p<n/\okP p=true/\nC p<=1000000/\("*":Str)∉Ba p /\
 ∀(ws:List Str)(ms:List Int),ws.length<=nC p->("*":Str)∉ws->Q true (.lst (ws.map .str)) [.no,.ob true (.lst (ms.map .int))]
def q7p{ns:List Int}{x:Int}(hd:yB ps<n)(ho:jE ps=true)(hs:jb ps<=1000000)(I0:("*":Str)∉Qa ps)
  (h:∀(ws:List Str)(ms:List Int),ws.length<=jb ps->("*":Str)∉ws->E.nx [.fz dP,.ob true (.lst (ms.map .int)),.fz (.int x),.ob false (.lst (ws.map .str)),.no,.no,.no]) :
  Hf (Ma ps) (dgN 4) (lG 3 (dOp cH (jD 3) (De (Mn n) 1 (daV (jD 4) (daO Fh))))) E [.fz dP,.ob true (.lst (ns.map .int)),.fz (.int x),.ob false (.lst []),.no,.no,.no]:=by
 have sz:=Oa;refine Jb [4] (fun r δ=>∃pre l0 ws ms,ps=pre++l0/\r=Ma l0/\ws.length<=jb pre/\("*":Str)∉ws/\δ=[.fz dP,.ob true (.lst (ms.map .int)),.fz (.int x),.ob false (.lst (ws.map .str)),.no,.no,.no]) ⟨[],ps,[],ns,rfl,rfl,by simp,by simp,rfl⟩ ?_ ?_
 ·rintro d r δ ⟨pre,l0,ws,ms,e1,e2,h2,hw,rfl⟩;cases l0 with
  |nil=>cases e2
  |cons c l0 =>
   cases e2;w_how;have hc:c∈ps:=by rw[e1];simp
   have d1:=Ud hc;have z1:=Kn hc;have z2:=congrArg jb e1;rw[ag,jb]at z2;refine⟨c,ms,rfl,by lia,Jn hc ho,by lia,fun z=>I0 (Ln hc z),fun vs ms2 k2 k3=>?_⟩;w_how;refine⟨by simp;lia,pre++[c],l0,ws++vs,ms2,by simp[e1],rfl,?_,by simp[hw,k3],by simp⟩;rw[length_append,ag];simp only[jb]
   lia
 rintro δ ⟨pre,l0,ws,ms,e1,e2,h2,hw,rfl⟩;cases l0 with
 |cons c l0=>cases e2
 |nil =>
  rw[append_nil]at e1;subst e1;exact h ws ms h2 hw
def Nn{ns:List Int}{x:Int}(hd:dpP p<n)(ho:okP p=true)(hs:nC p<=1000000)(I0:("*":Str)∉Ba p)(hm:m<=3)(y:D)
  (h:∀(ws:List Str)(ms:List Int),ws.length<=3 * nC p->("*":Str)∉ws->E.nx [.fz (.tup [k,bB p]),.ob true (.lst (ms.map .int)),.fz (.int x),.ob false (.lst (ws.map .str)),.no,.fz y,.no]) :
  Hf (sB 0 m) (dgN 6) (lG 3 (dOp cH (jD 3) (De (Mn n) 1 (daV (dG pG 0 (dC (.int 1))) (daO Fh))))) E [.fz (.tup [k,bB p]),.ob true (.lst (ns.map .int)),.fz (.int x),.ob false (.lst []),.no,.fz y,.no]:=by
 have sz:=Oa;refine Jf [6] (fun i δ=>∃ws ms,ws.length<=i * nC p/\("*":Str)∉ws/\δ=[.fz (.tup [k,bB p]),.ob true (.lst (ms.map .int)),.fz (.int x),.ob false (.lst (ws.map .str)),.no,.fz y,.no]) ⟨[],ns,by simp,by simp,rfl⟩ ?_ ?_
 ·rintro i δ hi ⟨ws,ms,h2,hw,rfl⟩;w_how;refine⟨p,ms,rfl,by lia,ho,by lia,I0,fun vs ms2 k2 k3=>?_⟩;w_how;have b1:ws.length<=3 * nC p:=le_trans h2 (Nat.mul_le_mul (by lia) (le_refl _));refine⟨by simp;lia,ws++vs,ms2,?_,by simp[hw,k3],by simp⟩;rw[length_append,Nat.succ_mul]
  lia
 rintro δ ⟨ws,ms,h2,hw,rfl⟩;exact h ws ms (le_trans h2 (Nat.mul_le_mul hm (le_refl _))) hw
def q8n(U:AE P w base K mg):∀n,FE U CX0 (n+1) U.u0w (spD (Mn n)):=by
 intro n;induction n with
 |zero=>exact Fc fun δ Q h=>by obtain⟨_,_,_,h,_⟩:=h;exact not_lt_zero _ h
 |succ n u3a =>
 have u0g:=Zf U;refine VL.Fun.dok (En U.u0w).F He (by walk_at "a") (by decide) ?_;walk_at "f";obtain⟨p,ns,rfl,hdp,hok,hln,I0,q⟩:=h;have hu:=wb hr;refine⟨_,(ka (dq 2 He.nd (Xb (i:=1) u0g (En U.u0b) (kD (pv 1) Wb)))
  (ka (Ja (La gb bb (xT 0 ba) Fa (Ha _)) (ma (Ea (Ia ja))) Pa)
  (ka (Ja (La gb bb (xT 0 ba) Fa (Ha _)) (ma (Ea (Ia (aa (xT 0 ba) ja)))) Pa)
  (ka (Ja (La gb bb (xT 0 ba) Fa (Ha _)) (ma (Ea (Xb (i:=1) u3a (En U.u0w) (bG (Ce Af Ae (xT 0 ba) (za Wa Va (dv 2) (yg Vi oh rfl U.T.z_len PySem.boot_len (aa (xT 0 ba) ja))) (fun _ _=>rfl)) (kD (pv 1) Wb))))) Pa)
  (ka (Ja (La gb bb (xT 0 ba) Fa (Ha _)) (ka (dq 3 He.nd (Ia ja))
  (ka (dsF (fb (xT 0 ba)) (dn 4 He.nd) (ma (dq 3 He.nd (za Sb ub (dv 3) (Xb (i:=1) u3a (En U.u0w) (bG (dv 4) (kD (pv 1) Wb)))))))
  (ma (Ea (dm 3))))) Pa)
  (ka (dq 3 He.nd (Ia ja))
  (ka (dq 5 He.nd (Ce Af Ae (Ia (aa (za Wa Va (dv 2) ba) (aa (za Wa Va (dv 2) ba) (aa (za Fb Db ba (za Wa Va (dv 2) ba)) ja)))) (mz (Ia (aa Fa (aa Fa (aa Fa ja)))) (xT 0 ba)) (fun _ _=>rfl)))
  (ka (dsF (ke rfl U.T.z_range (aa (dv 5) ja)) (dn 6 He.nd) (ma (dq 3 He.nd (za Sb ub (dv 3) (Xb (i:=1) u3a (En U.u0w) (bG (xT 0 ba) (kD (pv 1) Wb)))))))
  (ma (Ea (dm 3))))))))))),?_⟩
 have sz:=Oa;cases p with
 |none =>
  simp only[bB];w_how;intro x ms;exact⟨by lia,q [] ms (by simp) (by simp)⟩
 |one s =>
  simp only[bB];w_how;intro x ms;rw[if_neg (by decide)];exact⟨by lia,q [s] ms (by simp[nC]) I0⟩
 |row ps =>
  simp only[bB];simp only[dpP,okP,nC,Ba]at hdp hok hln I0 q;w_how;intro x ms;rw[if_neg (by decide),if_neg (by decide),if_neg (by decide)];refine⟨by lia,q7p (by lia) hok (by lia) I0 fun ws ms2 h2 h3=>?_⟩;w_how;exact q ws ms2 h2 h3
 |any ps =>
  simp only[bB];simp only[dpP,okP,nC,Ba,and_eq_true]at hdp hok hln I0 q;w_how;intro x ms;rw[if_neg (by decide),if_neg (by decide)];have K0:0<ps.length:=List.length_pos_iff.mpr (by simpa using hok.1);have hp0:(0:Int)<((Ma ps).length:Int):=by rw[Mg];lia
  obtain⟨c,hc,ea⟩:∃c∈ps,atI (Ma ps) (x % ((Ma ps).length:Int))=some (bB c):=by
   obtain⟨d,hd,e⟩:=Ye (xs:=Ma ps) (i:=x % ((Ma ps).length:Int)) (xb hp0) (yb hp0);rw[Cd]at hd;obtain⟨c,hc,rfl⟩:=mem_map.mp hd;exact⟨c,hc,e⟩
  have d1:=Ud hc;have z1:=Kn hc;refine⟨hp0,_,ea,c,ms,rfl,by lia,Jn hc hok.2,by lia,fun z=>I0 (Ln hc z),fun ws ms2 h2 h3=>?_⟩;w_how;exact q ws ms2 (by lia) h3
 |wrap k p =>
  simp only[bB];simp only[dpP,okP,nC,Ba]at hdp hok hln I0 q;cases k
  all_goals
   simp only[Wk.str];w_how;intro x ms;have x1:=xb (a:=x) (b:=2) (by decide);have x2:=yb (a:=x) (b:=2) (by decide);have x3:=xb (a:=x) (b:=3) (by decide);have x4:=yb (a:=x) (b:=3) (by decide);rw[if_neg (by decide),if_neg (by decide),if_neg (by decide),if_neg (by decide)]
  refine⟨by lia,by decide,by decide,by decide,by lia,by lia,["maybe","many","some"],rfl,"maybe",0,rfl,rfl,(fun m h=>absurd h (by lia)),_,Pd rfl,?_⟩;w_how;refine⟨by lia,by lia,Nn (by lia) hok (by lia) I0 (by lia) _ fun ws ms2 h2 h3=>?_⟩;w_how;exact q ws ms2 h2 h3;refine⟨by lia,by decide,by decide,by decide,by lia,by lia,["maybe","many","some"],rfl,"many",1,rfl,rfl,fst1,_,Pd rfl,?_⟩;w_how;refine⟨by lia,by lia,Nn (by lia) hok (by lia) I0 (by lia) _ fun ws ms2 h2 h3=>?_⟩;w_how;exact q ws ms2 h2 h3;refine⟨by lia,by decide,by decide,by decide,by lia,by lia,["maybe","many","some"],rfl,"some",2,rfl,rfl,fst2,_,Pd rfl,?_⟩;w_how;refine⟨by lia,by lia,Nn (by lia) hok (by lia) I0 (by lia) _ fun ws ms2 h2 h3=>?_⟩;w_how;exact q ws ms2 h2 h3
def j7 (tab:List (Key×D)):Prop:=∀s d,eB tab s=some d->∃p,d=bB p/\dpP p<=20/\okP p=true/\nC p<=200000/\("*":Str)∉Ba p
def Ut (n:Nat):RD:=fun δ Q=>∃(tab:List (Key×D))(nm:Str)(ns:List Int)(left:Int)(dp:Nat),δ=[.fz (.dct tab),.fz (.str nm),.ob true (.lst (ns.map .int)),.ob true (.lst [.int left]),.fz (.int dp)]/\j7 tab/\dp<n/\left<=1000 /\
 ∀(ps:List AB)(ms:List Int),xa ps<=left.toNat+200000->dpL ps<=dp+1->stL ps=0->Q false (pD (.tup nm ps)) [.no,.no,.ob true (.lst (ms.map .int)),.ob true (.lst [.int (left - xa ps)]),.no]
def glA{a b c s:Nat}{l:Int}(h1:0<l - a+b - s)(k:c<=(l - a+b - s).toNat+200000)(h:b<=a):a+s+(1+c)<=l.toNat+200000+b+1:=by lia
def Vt{ws:List Str}{ns:List Int}{left:Int}(tk:j7 tab)(hdp:dp<n+1)(hl:left<=1000)(hw:ws.length<=200000)(I0:("*":Str)∉ws)
  (h:∀(ps:List AB)(ms:List Int),xa ps<=left.toNat+200000->dpL ps<=dp+1->stL ps=0->E.nx [.fz (.dct tab),.fz (.str nm),.ob true (.lst (ms.map .int)),.ob true (.lst [.int (left - xa ps)]),.fz (.int dp),.fz (.lst (ws.map .str)),.ob false (.lst (pDs ps)),.no]) :
  Hf (ws.map .str) (dgN 7) (wH (Kc (dOp fEq (jD 7) (dC (D.str (Str.ofString "#")))))
    (Bg (dMt Ag 6 (kc (Ff wn (kc (De vn 2 (daO Fh)) mE)) mE)))
    (wH (dAnd (Kc (dOp (fI fun i j=>D.bl (decide (j<i))) (dG uH 3 (dC (D.int 0))) (dC (D.int 0)))) (Kc (dOp (fI fun i j=>D.bl (decide (j<i))) (jD 4) (dC (D.int 0)))))
     (Bg (dMt Ag 6 (kc (xm (Ut n) 2 3 (d2V (jD 0) (d2V (jD 7) (d2O1 (d2O2 (d2V (dOp (fI fun i j=>D.int (i - j)) (jD 4) (dC (D.int 1))) tm)))))) mE)))
     (Bg (dMt Ag 6 (kc (dTup (kc (jD 7) (kc (dLst mE) mE))) mE)))))
   E [.fz (.dct tab),.fz (.str nm),.ob true (.lst (ns.map .int)),.ob true (.lst [.int (left - ws.length)]),.fz (.int dp),.fz (.lst (ws.map .str)),.ob false (.lst []),.no]:=by
 have sz:=Oa;refine Jb [7] (fun r δ=>∃(pre l0:List Str)(ps:List AB)(ms:List Int),ws=pre++l0/\r=l0.map .str/\ps.length=pre.length/\ws.length+xa ps<=left.toNat+200000+ps.length/\dpL ps<=dp+1/\stL ps=0 /\
  δ=[.fz (.dct tab),.fz (.str nm),.ob true (.lst (ms.map .int)),.ob true (.lst [.int (left - ws.length+ps.length - xa ps)]),.fz (.int dp),.fz (.lst (ws.map .str)),.ob false (.lst (pDs ps)),.no])
  ⟨[],ws,[],ns,rfl,rfl,rfl,by simp[xa];lia,by simp[dpL],rfl,by simp[xa,pDs,fgt]⟩ ?_ ?_
 ·rintro d r δ ⟨pre,l0,ps,ms,e1,e2,hlen,htot,hdl,hsl,rfl⟩;cases l0 with
  |nil=>cases e2
  |cons z l0 =>
   cases e2;have K0:pre.length<ws.length:=by rw[e1];simp
   have hle:=nc ps;have hpd:=Cc ps;have hzs:z ≠ "*":=fun e=>I0 (by rw[e1,e];simp);have put:∀(p:AB)(ms':List Int)(l':Int),dp1 p<=dp+1->st1 p=0->ws.length+xa ps+Ga p<=left.toNat+200000+ps.length+1->l' = left - ws.length+ps.length - xa ps - (Ga p - 1:Int) ->
     (∃(pre' suf':List Str)(ps':List AB)(ms'':List Int),ws=pre'++suf'/\l0.map D.str=suf'.map D.str/\ps'.length=pre'.length/\ws.length+xa ps' <= left.toNat+200000+ps'.length/\dpL ps' <= dp+1/\stL ps' = 0 /\
      [Slot.fz (.dct tab),.fz (.str nm),.ob true (.lst (ms'.map .int)),.ob true (.lst [.int l']),.fz (.int dp),.fz (.lst (ws.map .str)),.ob false (.lst (pDs ps++[pD p])),.no]=[.fz (.dct tab),.fz (.str nm),.ob true (.lst (ms''.map .int)),.ob true (.lst [.int (left - ws.length+ps'.length - xa ps')]),.fz (.int dp),.fz (.lst (ws.map .str)),.ob false (.lst (pDs ps')),.no]):=by
    intro p ms' l' k1 k0 k2 k3;have es:xa (ps++[p])=xa ps+Ga p:=by rw[Ad];simp[xa]
    refine⟨pre++[z],l0,ps++[p],ms',by simp[e1],rfl,by simp[hlen],by rw[es,length_append];simp;lia,by rw[ue];simp[dpL];lia,by rw[Ug];simp[stL,hsl,k0],?_⟩;have e3:pDs ps++[pD p]=pDs (ps++[p]):=by rw[Oe];rfl
    have e4:l' = left - ws.length+(ps++[p]).length - xa (ps++[p]):=by rw[es,length_append];simp;lia
    rw[e3,<-e4]
   w_how;refine jB (fun hz=>fun x ms2 y hy=>⟨by lia,?_⟩) fun hz=>⟨_,aC,?_⟩;exact put (.txt y) ms2 _ (by simp[dp1]) rfl (by simp[Ga];lia) (by simp[Ga]);w_how;have leaf:0<=sizeLine/\2<=sizeLine/\(pDs ps).length<sizeLine/\(∃(pre' suf':List Str)(ps':List AB)(ms'':List Int),ws=pre'++suf'/\l0.map D.str=suf'.map D.str/\ps'.length=pre'.length/\ws.length+xa ps' <= left.toNat+200000+ps'.length/\dpL ps' <= dp+1/\stL ps' = 0 /\
     [Slot.fz (.dct tab),.fz (.str nm),.ob true (.lst (ms.map .int)),.ob true (.lst [.int (left - ws.length+ps.length - xa ps)]),.fz (.int dp),.fz (.lst (ws.map .str)),.ob false (.lst (pDs ps++[D.tup [D.str z,D.lst []]])),.no]=[.fz (.dct tab),.fz (.str nm),.ob true (.lst (ms''.map .int)),.ob true (.lst [.int (left - ws.length+ps'.length - xa ps')]),.fz (.int dp),.fz (.lst (ws.map .str)),.ob false (.lst (pDs ps')),.no]) :=
    ⟨by lia,by lia,by lia,put (.tup z []) ms _ (by simp[dp1,dpL]) (by simp[st1,stL,hzs]) (by simp[Ga,xa];lia) (by simp[Ga,xa])⟩
   refine jB (fun h1=>jB (fun h2=>⟨rfl,rfl,?_⟩) fun h2=>leaf) fun h1=>leaf;w_how;refine⟨_,_,_,_,rfl,rfl,by decide,rfl,rfl,?_⟩;refine⟨tab,z,ms,left - ws.length+ps.length - xa ps,dp - 1,?_,tk,by lia,by lia,fun ps2 ms2 k1 k2 k0=>?_⟩;simp only[map_cons,map_nil,Gg];rw[show((dp - 1:Nat):Int)=(dp:Int) - 1 by lia];refine⟨_,_,rfl,rfl,?_⟩;w_how;refine⟨by lia,put (.tup z ps2) ms2 _ (by simp only[dp1];lia) (by simp[st1,hzs,k0]) (by simp only[Ga];exact glA h1 k1 (by rw[hlen];exact le_of_lt K0)) (by simp only[Ga];lia)⟩
 rintro δ ⟨pre,l0,ps,ms,e1,e2,hlen,htot,hdl,hsl,rfl⟩;cases l0 with
 |cons z l0=>cases e2
 |nil =>
  rw[append_nil]at e1;subst e1;have:=h ps ms (by lia) hdl hsl;rw[show left - (ws.length:Int)+ps.length - xa ps=left - xa ps by lia];exact this
def q2a(U:AE P w base K mg):∀n,FE U CX0 (n+23) U.u0p (spD (Ut n)):=by
 intro n;induction n with
 |zero=>exact Fc fun δ Q h=>by obtain⟨_,_,_,_,_,_,_,h,_⟩:=h;exact not_lt_zero _ h
 |succ n u3v =>
 have u0g:=Zf U;have u3a:=q8n U 21;have u4h:=Ht U;refine VL.Fun.dok (En U.u0p).F Nh (by walk_at "a") (by decide) ?_;walk_at "f";obtain⟨tab,nm,ns,left,dp,rfl,tk,hdp,hl,q⟩:=h;have hu:=wb hr;refine⟨_,(ka (dq 5 Nh.nd (Ia ja))
  (ka (Ja (Dr hu (dv 1) (pv 0)) (ma (dq 5 Nh.nd (Xb (i:=2) u3a (En U.u0w) (bG (gj hu (pv 0) (dv 1)) (kD (pv 2) Wb))))) Pa)
  (ka (ir (pv 3) ba (za zh Zg (xL 3 ba) (dlL 5 U.T.z_len)))
  (ka (dq 6 Nh.nd (Ia ja))
  (ka (dsF (fb (dv 5)) (dn 7 Nh.nd) (ma (Ja (La gb bb (dv 7) Fa (Ha _)) (ma (Gb (dAp 6 (Ka u4h (En U.u0h) (aa (Xb (i:=2) u0g (En U.u0b) (kD (pv 2) Wb)) ja))))) (ma (Ja (aG (Cf (La Ah ng (xL 3 ba) ba (Ha _)) (Bf (La Ah ng (dv 4) ba (Ha _))))) (ma (Gb (dAp 6 (Gz (i:=2) (j:=3) u3v (hr.mono (by lia)) rfl (En U.u0p).g (En U.u0p).F.kp (En U.u0p).b tf (d2_v (dv 0) (d2_v (dv 7) (d2_o1 (pv 2) (d2_o2 (pv 3) (d2_v (za zh Zg (dv 4) ba) d2_nil))))))))) (ma (Gb (dAp 6 (Xa (aa (dv 7) (aa (Ia ja) ja)))))))))))
  (ma (Ea (Xa (aa (dv 1) (aa (dv 6) ja)))))))))),?_⟩
 have sz:=Oa;w_how;refine⟨by lia,jB (fun hs=>?_) fun hs=>⟨_,aC,?_⟩⟩;obtain⟨d,hd⟩:=isSome_iff_exists.mp hs;obtain⟨p,rfl,p1,p2,p3,p4⟩:=tk _ _ hd;refine⟨_,hd,p,ns,rfl,by lia,p2,by lia,p4,fun ws ms h1 h3=>?_⟩;w_how;refine⟨_,aC,?_⟩;w_how;refine⟨0,rfl,by lia,?_⟩;rw[length_map];refine Vt tk hdp hl (by lia) h3 fun ps ms2 k1 k2 k0=>?_;w_how;exact⟨by lia,q ps ms2 k1 k2 k0⟩;w_how;refine⟨0,rfl,by lia,?_⟩;refine Vt (ws:=[]) tk hdp hl (by simp) (by simp) fun ps ms2 k1 k2 k0=>?_;w_how;exact⟨by lia,q ps ms2 k1 k2 k0⟩
noncomputable def qD (R0:List (Str×Pat)):List (Key×D):=R0.foldl (fun n0 r=>uB n0 r.1 (bB r.2)) []
noncomputable def uc:List (Str×Pat)->Str->Option Pat
 | [],_=>none
 |r::rs,s=>if r.1=s then some r.2 else uc rs s
theorem x2t (r:Str×Pat)(rs:List (Str×Pat))(s:Str):uc (r::rs) s=if r.1=s then some r.2 else uc rs s:=rfl
theorem Pn:∀{R0:List (Str×Pat)},uc R0 s=some p->(s,p)∈R0
 |r::rs,h=>by
  unfold uc at h;split at h;rename_i e;cases h;subst e;exact mem_cons_self;exact mem_cons_of_mem _ (Pn h)
theorem Qn:∀{R0:List (Str×Pat)},s∉R0.map (·.1)->uc R0 s=none
 | [],_=>rfl
 |r::rs,h=>by
  simp at h;unfold uc;rw[if_neg (fun e=>h.1 e.symm)];exact Qn (by simpa using h.2)
theorem Wt:∀{R0:List (Str×Pat)},s∈R0.map (·.1)->∃p,uc R0 s=some p
 |r::rs,h=>by
  unfold uc;by_cases e:r.1=s;exact⟨_,if_pos e⟩;rw[if_neg e];exact Wt (by
   rcases mem_cons.mp (show s∈r.1::rs.map (·.1) from h) with z|z;exact absurd z.symm e;exact z)
theorem Rn (s:Str)(g:Pat->D):∀(R0:List (Str×Pat))(n0:List (Key×D)),(R0.map (·.1)).Nodup->eB (R0.foldl (fun n0 r=>uB n0 r.1 (g r.2)) n0) s=match uc R0 s with|some p=>some (g p)|none=>eB n0 s
 | [],n0,_=>rfl
 |r::rs,n0,nd=>by
  rw[map_cons,nodup_cons]at nd;rw[foldl_cons,Rn s g rs _ nd.2,x2t];by_cases e:r.1=s;subst e;rw[if_pos rfl,Qn nd.1,Gj,if_pos rfl];rw[if_neg e];cases uc rs s with
  |some p=>rfl
  |none=>simp only;rw[Gj,if_neg (fun z=>e z.symm)]
theorem Lj(nd:(R0.map (·.1)).Nodup)(s:Str):eB (qD R0) s=(uc R0 s).map bB:=by unfold qD;rw[Rn s bB R0 [] nd];cases uc R0 s<;>rfl
theorem Sn (g:Pat->D):∀(R0:List (Str×Pat))(n0:List (Key×D)),(R0.foldl (fun n0 r=>uB n0 r.1 (g r.2)) n0).length<=n0.length+R0.length
 | [],n0=>le_refl _
 |r::rs,n0=>by
  rw[foldl_cons];have h1:=Sn g rs (uB n0 r.1 (g r.2));have h2:=bn n0 r.1 (g r.2);rw[length_cons]
  lia
def Xt (R0:List (Str×Pat)):(qD R0).length<=R0.length:=by have:=Sn bB R0 [];simpa[qD] using this
def LB.tab {T0:Str}(h:LB T0 R0):j7 (qD R0):=fun s d e=>by
 rw[Lj h.nd]at e;obtain⟨p,ep,rfl⟩:=map_eq_some_iff.mp e;have o:=h.pat _ (Pn ep);refine⟨p,rfl,o.dp,o.ok,o.ln,fun z=>?_⟩;rcases o.sg _ z with e|e;exact absurd e (by decide +kernel);exact(h.ns _ e).1 rfl
def q2s (K:W.Frag):RD:=fun δ Q=>∃(T0:Str)(R0:List (Str×Pat))(ns:List Int)(t:Nat),δ=[.fz (kb T0 R0),.sc K ns,.fz (.int t),.fz (.int 30)]/\LB T0 R0/\t<=500 /\
 ∀ps:List AB,xa ps<=200030->dpL ps<=9->stL ps=0->Q false (pD (.tup T0 ps)) [.no,.no,.no,.no]
def q7s(U:AE P w base K mg) :
  FE U CX0 33 U.u2a (spD (q2s K)):=by
 have u3v:=q2a U 9;have u2t:=Bn U;refine VL.Fun.dok (En U.u2a).F Qh (by walk_at "a") (by decide) ?_;walk_at "f";obtain⟨T0,R0,ns,t,rfl,ok,ht,q⟩:=h;have hu:=wb hr;refine⟨_,(ka (dq 4 Qh.nd (Lh u2t (En U.u0j) (pv 1) (aa (dv 2) (aa ba ja))))
  (ka (dq 5 Qh.nd Jh)
  (ka (dsF (fb (xT 0 ba)) (We (n:=2) rfl (Ac (dn 6 Qh.nd) (Ac (dn 7 Qh.nd) Ve))) (ma (Kh hu (pv 5) (dv 6) (dv 7))))
  (ma (Ea (Hz (i:=4) u3v (hr.mono (by lia)) rfl (En U.u0p).g (En U.u0p).F.kp (En U.u0p).b tf (dT_v (dv 5) (dT_v (xT 0 ba) (dT_o1 (pv 4) (Ez (Ia (aa (dv 3) ja)))))))))))),?_⟩
 have sz:=Oa;have hlen:=ok.len;simp only[kb];w_how;refine⟨ns,t,90,rfl,by lia,by lia,fun ms _=>?_⟩;w_how;refine Jb [6,7] (fun r δ=>∃(pre l0:List (Str×Pat)),R0=pre++l0/\r=l0.map (fun r=>.tup [.str r.1,bB r.2])/\δ=[.fz (kb T0 R0),.sc K ns,.fz (.int t),.fz (.int 30),.ob false (.lst (ms.map .int)),.ob false (.dct (qD pre)),.no,.no]) ⟨[],R0,rfl,rfl,rfl⟩ ?_ ?_
 ·rintro d r δ ⟨pre,l0,e1,e2,rfl⟩;cases l0 with
  |nil=>cases e2
  |cons z l0 =>
   cases e2;w_how;have:=Xt pre;have e1':=congrArg List.length e1;simp at e1';refine⟨by lia,pre++[z],l0,by simp[e1],rfl,?_⟩;simp[qD]
 rintro δ ⟨pre,l0,e1,e2,rfl⟩;cases l0 with
 |cons z l0=>cases e2
 |nil =>
  rw[append_nil]at e1;subst e1;simp only[kb];w_how;refine⟨rfl,?_⟩;w_how;refine⟨by lia,_,_,rfl,rfl,rfl,?_⟩;refine⟨qD R0,T0,ms,30,8,rfl,ok.tab,by lia,by lia,fun ps ms2 k1 k2 k0=>?_⟩;exact⟨_,_,rfl,rfl,q ps (by simpa using k1) (by lia) k0⟩
noncomputable def gc (r:Str×Pat):D:=.tup [.str r.1,bB r.2]
theorem q7a (T0:Str)(R0:List (Str×Pat)):kb T0 R0=.tup [.str T0,.lst (R0.map gc)]:=rfl
theorem Yt:∀(l n0:List Str),(n0++l).Nodup->l.foldl Fe n0=n0++l
 | [],n0,_=>by simp
 |x::l,n0,nd=>by
  have hx:x∉n0:=fun h=>by
   rw[nodup_append]at nd;exact nd.2.2 x h x mem_cons_self rfl
  rw[foldl_cons];have e:Fe n0 x=n0++[x]:=by unfold Fe;rw[if_neg hx]
  rw[e,Yt l (n0++[x]) (by simpa using nd)];simp
def x7k (ks:List Str):(range ks.length).map (fun i=>ks.getD i "")=ks:=by apply List.ext_getElem;simp;intro i h1 h2;simp;rw[getElem?_eq_getElem h2];rfl
def q9h {ks:List Str}(nd:ks.Nodup):(bD (fun i=>ks.getD i "") ks.length).length=ks.length:=by unfold bD;rw[x7k,Yt ks [] (by simpa using nd)];simp
def Tn{xs:List α}{a b:α->D}(f:α->D)(hl:xs.length<=sizeLine)
  (h:∀x∈xs,∀P:D->List VL.Slot->Prop,P (f x) (.fz (a x)::.fz (b x)::δ)->te (.fz (a x)::.fz (b x)::δ) fun _ y δ'=>P y δ')(q:Q true (.lst (xs.map f)) δ):Xe 2 (xs.map fun x=>.tup [a x,b x]) (Ef 2 (je (dgN 0) (je (dgN 1) Df))) eG te Q δ:=by
 refine⟨fun r n0 δ1=>δ1=δ/\∃pre l0,xs=pre++l0/\r=l0.map (fun x=>.tup [a x,b x])/\n0=pre.map f,⟨rfl,[],xs,rfl,rfl,rfl⟩,?_,?_⟩
 ·rintro d r n0 δ1 ⟨rfl,pre,l0,e,er,rfl⟩;cases l0 with
  |nil=>cases er
  |cons x l0 =>
   cases er;have hm:x∈xs:=by rw[e];simp
   have hlen:pre.length<sizeLine:=by rw[e]at hl;simp at hl;lia
   unfold eG;dsimp only;simp only[↓reduceIte];exact h x hm (fun y δ'=>(pre.map f).length<sizeLine/\δ'.drop 2=δ1/\∃pre' suf',xs=pre'++suf'/\l0.map (fun x=>D.tup [a x,b x])=suf'.map (fun x=>.tup [a x,b x])/\pre.map f++[y]=pre'.map f) ⟨by simpa using hlen,rfl,pre++[x],l0,by simp[e],rfl,by simp⟩
 rintro n0 δ1 ⟨rfl,pre,l0,e,er,rfl⟩;cases l0 with
 |cons x l0=>cases er
 |nil =>
  rw[append_nil]at e;subst e;exact q
def Zt (n:Nat):RD:=fun δ Q=>∃p:Pat,δ=[.fz (bB p)]/\dpP p<n/\szP p<=1000/\Q false (bB p) [.no]
def j6p (U:AE P w base K mg):∀n,FE U CX0 (n+1) U.u0c (spD (Zt n)):=by
 intro n;induction n with
 |zero=>exact Fc fun δ Q h=>by obtain⟨_,_,h,_⟩:=h;exact not_lt_zero _ h
 |succ n u1r =>
 refine VL.Fun.dok (En U.u0c).F uA (by walk_at "a") (by decide) ?_;walk_at "f";obtain⟨p,rfl,hdp,hsz,q⟩:=h;refine⟨_,(ka (Ja (La Si ph (xT 0 ba) (Xa (aa Fa (aa Fa ja))) rfl) (ma (Ea (Xa (aa (xT 0 ba) (aa (Oc tg1 (fb (xT 0 ba)) (fun _=>Vc) (fun _=>(Ka u1r (En U.u0c) (aa (dv 0) ja)))) ja))))) Pa)
  (ka (Ja (La Si ph (xT 0 ba) (Xa (aa Fa (aa Fa (aa Fa ja)))) rfl) (ma (Ea (Xa (aa (xT 0 ba) (aa (Ka u1r (En U.u0c) (aa (xT 0 ba) ja)) ja))))) Pa)
  (ma (Ea (dm 0))))),?_⟩
 have sz:=Oa;have comp:∀(ps:List Pat)(z:Str)(Q:Bool->D->List VL.Slot->Prop),yB ps<n->dB ps<=1000->Q true (.lst (Ma ps)) [.fz (.tup [.str z,.lst (Ma ps)])] ->
   Xe 1 (Ma ps) (dgN 0) eG (Ff (Zt n) (kc (jD 0) mE)) Q [.fz (.tup [.str z,.lst (Ma ps)])]:=by
  intro ps z Q h1 h2 h3;have hl:=Je ps;have e:=Cd ps;rw[e]at h3 ⊢;refine Xf bB bB ps (by lia) (fun c hc P hP=>?_) h3;have d1:=Ud hc;have d2:=Tf hc;w_how;exact⟨c,rfl,by lia,by lia,hP⟩
 cases p with
 |none =>
  simp only[bB];w_how;refine⟨by lia,?_⟩;rw[if_neg (by decide)];refine⟨by lia,?_⟩;rw[if_neg (by decide)];exact q
 |one s =>
  simp only[bB];w_how;refine⟨by lia,?_⟩;rw[if_neg (by decide)];refine⟨by lia,?_⟩;rw[if_neg (by decide)];exact q
 |row ps =>
  simp only[bB];simp only[dpP,szP]at hdp hsz;w_how;refine⟨by lia,?_⟩;rw[if_pos (.inl trivial)];refine comp ps _ _ (by lia) (by lia) ⟨by lia,q⟩
 |any ps =>
  simp only[bB];simp only[dpP,szP]at hdp hsz;w_how;refine⟨by lia,?_⟩;rw[if_pos (.inr trivial)];refine comp ps _ _ (by lia) (by lia) ⟨by lia,q⟩
 |wrap k p =>
  simp only[dpP,szP]at hdp hsz;cases k<;>simp only[bB,Wk.str]<;>w_how<;>refine⟨by lia,?_⟩<;>rw[if_neg (by decide)]<;>refine⟨by lia,?_⟩;rw[if_pos (.inl trivial)];exact⟨p,rfl,by lia,by lia,by lia,q⟩;rw[if_pos (.inr (.inl trivial))];exact⟨p,rfl,by lia,by lia,by lia,q⟩;rw[if_pos (.inr (.inr trivial))];exact⟨p,rfl,by lia,by lia,by lia,q⟩
def q4u:RD:=fun δ Q=>∃(T0:Str)(R0:List (Str×Pat)),δ=[.fz (kb T0 R0)]/\LB T0 R0/\Q false (kb T0 R0) [.no]
def q8l(U:AE P w base K mg):FE U CX0 23 U.u1u (spD q4u):=by have u1r:=j6p U 21;refine VL.Fun.dok (En U.u1u).F vA (by walk_at "a") (by decide) ?_;walk_at "f";obtain⟨T0,R0,rfl,ok,q⟩:=h;refine⟨_,(ma (Ea (Xa (aa (xT 0 ba) (aa (Oc tg2 (fb (xT 0 ba)) (fun _=>Vc) (fun _=>(Xa (aa (dv 0) (aa (Ka u1r (En U.u0c) (aa (dv 1) ja)) ja))))) ja))))),?_⟩;have sz:=Oa;have hl:=ok.len;simp only[kb]at q ⊢;w_how;refine Tn (fun r=>.tup [.str r.1,bB r.2]) (by lia) (fun r hr P hP=>?_) ⟨by lia,q⟩;have o:=ok.pat r hr;have o1:=o.dp;have o2:=o.sz;w_how;exact⟨r.2,rfl,by lia,by lia,by lia,hP⟩
def y5y:RD:=fun δ Q=>∃(T0:Str)(R0:List (Str×Pat)),δ=[.fz (.lst (R0.map gc))]/\LB T0 R0/\Q false .non [.no]
def au(U:AE P w base K mg):FE U CX0 24 U.u0t (spD y5y):=by
 have u4e:=Qm U 21;refine VL.Fun.dok (En U.u0t).F Mh (by walk_at "a") (by decide) ?_;walk_at "f";obtain⟨T0,R0,rfl,ok,q⟩:=h;have hu:=wb hr;refine⟨_,(ka (dq 1 Mh.nd Jh)
  (ma (dsF (fb (dv 0)) (We (n:=2) rfl (Ac (dn 2 Mh.nd) (Ac (dn 3 Mh.nd) Ve))) (ka (dq 4 Mh.nd (Ka u4e (En U.u0v) (aa (dv 3) ja)))
  (ka (Ja (aG (Eh (Dr hu (dv 2) (pv 1)) (Dh (La Oi xi (Bz rfl rfl U.T.z_len rfl U.T.z_set (dv 4)) (dlL 4 U.T.z_len) (Ha _))))) (ma Bl) Pa)
  (ma (Kh hu (pv 1) (dv 2) Te))))))),?_⟩
 have sz:=Oa;have hl:=ok.len;w_how;refine Jb [2,3,4] (fun r δ=>∃(pre l0:List (Str×Pat))(tb:List (Key×D)),R0=pre++l0/\r=l0.map gc/\tb.length<=pre.length/\(∀s,(eB tb s).isSome=true->s∈pre.map (·.1))/\δ=[.fz (.lst (R0.map gc)),.ob false (.dct tb),.no,.no,.no]) ⟨[],R0,[],rfl,rfl,le_refl _,(fun s h=>by cases h),rfl⟩ ?_ ?_
 ·rintro d r δ ⟨pre,l0,tb,e1,e2,ht,hk,rfl⟩;cases l0 with
  |nil=>cases e2
  |cons z l0 =>
   cases e2;have hz:z∈R0:=by rw[e1];simp
   have o:=ok.pat z hz;have o1:=o.dp;have o2:=o.sz;simp only[gc];w_how;refine⟨z.2,rfl,by lia,by lia,?_⟩;w_how;have hn:z.1∉pre.map (·.1):=fun h=>by
    have nd:=ok.nd;rw[e1,map_append,nodup_append]at nd;exact nd.2.2 _ h z.1 (by simp) rfl
   have sl:=Qg z.2;have e1':=congrArg List.length e1;simp at e1';rw[if_neg (fun h=>hn (hk _ h))];refine⟨Ba z.2,rfl,by lia,?_⟩;rw[q9h o.nd,if_neg (by simp)];have pl:=bn tb z.1 (D.bl true);refine⟨by lia,pre++[z],l0,_,by simp[e1],rfl,by rw[length_append];simp;lia,fun s h=>?_,rfl⟩;rw[Gj]at h;rw[map_append];split at h;rename_i e;subst e;simp;exact mem_append_left _ (hk s h)
 rintro δ ⟨pre,l0,tb,e1,e2,ht,hk,rfl⟩;cases l0 with
 |cons z l0=>cases e2
 |nil =>
  w_how;exact q
def x6l:RD:=fun δ Q=>∃(T0:Str)(R0:List (Str×Pat)),δ=[.fz (.str T0),.fz (.lst (R0.map gc))]/\LB T0 R0/\Q false .non [.no,.no]
def q1k(U:AE P w base K mg):FE U CX0 24 U.u0e (spD x6l):=by
 have u4e:=Qm U 21;refine VL.Fun.dok (En U.u0e).F Kg (by walk_at "a") (by decide) ?_;walk_at "f";obtain⟨T0,R0,rfl,ok,q⟩:=h;have hu:=wb hr;refine⟨_,(ka (dq 2 Kg.nd (zg Ry (Nl rfl) rfl U.T.z_dict boot_dict (aa (dv 1) ja)))
  (ka (Ja (Ul hu (dv 0) (pv 2)) (ma Bl) Pa)
  (ma (dsF (fb (dv 1)) (dn 3 Kg.nd) (ma (dsF (fb (Ka u4e (En U.u0v) (aa (xT 3 ba) ja))) (dn 4 Kg.nd) (ma (Ja (aG (Cf (La wg lf (dv 4) (Ol rfl U.T.g_TEXT_SIGN) (Ha _)) (Bf (Ul hu (dv 4) (pv 2))))) (ma Bl) Pa)))))))),?_⟩
 have sz:=Oa;have hl:=ok.len;w_how;refine⟨R0.map fun r=>(r.1,bB r.2),by rw[map_map];rfl,?_⟩;rw[List.foldl_map,show R0.foldl (fun n0 r=>uB n0 r.1 (bB r.2)) []=qD R0 from rfl];have kn:∀s,s∈R0.map (·.1)->(eB (qD R0) s).isSome=true:=fun s hs=>by
  obtain⟨p,hp⟩:=Wt hs;rw[Lj ok.nd,hp];rfl
 w_how;rw[if_neg (by rw[kn _ ok.T0];simp)];refine Jb [3,4] (fun r δ=>∃(pre l0:List (Str×Pat)),R0=pre++l0/\r=l0.map gc/\δ=[.fz (.str T0),.fz (.lst (R0.map gc)),.ob false (.dct (qD R0)),.no,.no]) ⟨[],R0,rfl,rfl,rfl⟩ ?_ ?_
 ·rintro d r δ ⟨pre,l0,e1,e2,rfl⟩;cases l0 with
  |nil=>cases e2
  |cons z l0 =>
   cases e2;have hz:z∈R0:=by rw[e1];simp
   have o:=ok.pat z hz;have o1:=o.dp;have o2:=o.sz;simp only[gc];w_how;refine⟨z.2,rfl,by lia,by lia,?_⟩;w_how;refine Jb [4] (fun r δ=>∃(ss:List Str),r=ss.map .str/\(∀s∈ss,s = "#" \/ s∈R0.map (·.1))/\δ=[.fz (.str T0),.fz (.lst (R0.map gc)),.ob false (.dct (qD R0)),.fz (.tup [.str z.1,bB z.2]),.no]) ⟨Ba z.2,rfl,o.sg,rfl⟩ ?_ ?_
   ·rintro d r δ ⟨ss,e3,hs,rfl⟩;cases ss with
    |nil=>cases e3
    |cons y ss =>
     cases e3;w_how;have go:∃(ss':List Str),ss.map D.str=ss'.map D.str/\(∀s∈ss',s = "#" \/ s∈R0.map (·.1))/\[Slot.fz (.str T0),.fz (.lst (R0.map gc)),.ob false (.dct (qD R0)),.fz (.tup [.str z.1,bB z.2]),.no]=[Slot.fz (.str T0),.fz (.lst (R0.map gc)),.ob false (.dct (qD R0)),.fz (.tup [.str z.1,bB z.2]),.no]:=⟨ss,rfl,fun s h=>hs s (mem_cons_of_mem _ h),rfl⟩;rcases hs y mem_cons_self with h|h;rw[if_neg (by simpa using h)];simpa using go;refine jB (fun _=>?_) fun _=>by simpa using go
     rw[if_neg (by rw[kn _ h];simp)];simpa using go
   rintro δ ⟨ss,e3,hs,rfl⟩;cases ss with
   |cons y ss=>cases e3
   |nil =>
    w_how;exact⟨pre++[z],l0,by simp[e1],rfl⟩
 rintro δ ⟨pre,l0,e1,e2,rfl⟩;cases l0 with
 |cons z l0=>cases e2
 |nil =>
  w_how;exact q
noncomputable def Pe (R0:List (Str×Pat)):List (Key×D):=R0.foldl (fun n0 r=>uB n0 r.1 (iH r.2)) []
theorem q3f(nd:(R0.map (·.1)).Nodup)(s:Str):eB (Pe R0) s=(uc R0 s).map iH:=by unfold Pe;rw[Rn s iH R0 [] nd];cases uc R0 s<;>rfl
def bu:RD:=fun δ Q=>∃(T0:Str)(R0:List (Str×Pat)),δ=[.fz (.lst (R0.map gc))]/\LB T0 R0/\Q true (.dct (Pe R0)) [.no]
def q1e(U:AE P w base K mg) :
  FE U CX0 29 U.u3m (spD bu):=by
 have u8o:=q8t U 21;refine VL.Fun.dok (En U.u3m).F rj (by walk_at "a") (by decide) ?_;walk_at "f";obtain⟨T0,R0,rfl,ok,q⟩:=h;have hu:=wb hr;refine⟨_,(ka (dq 1 rj.nd Jh)
  (ka (dsF (fb (dv 0)) (We (n:=2) rfl (Ac (dn 2 rj.nd) (Ac (dn 3 rj.nd) Ve))) (ma (Kh hu (pv 1) (dv 2) (Ka u8o (En U.u4g) (aa (dv 3) ja)))))
  (ma (Ea (dm 1))))),?_⟩
 have sz:=Oa;have hl:=ok.len;w_how;refine Jb [2,3] (fun r δ=>∃(pre l0:List (Str×Pat)),R0=pre++l0/\r=l0.map gc/\δ=[.fz (.lst (R0.map gc)),.ob false (.dct (Pe pre)),.no,.no]) ⟨[],R0,rfl,rfl,rfl⟩ ?_ ?_
 ·rintro d r δ ⟨pre,l0,e1,e2,rfl⟩;cases l0 with
  |nil=>cases e2
  |cons z l0 =>
   cases e2;have hz:z∈R0:=by rw[e1];simp
   have o:=ok.pat z hz;have o1:=o.dp;have o2:=o.sz;have e1':=congrArg List.length e1;simp at e1';have tl:=Sn iH pre [];simp only[gc];w_how;refine⟨z.2,rfl,by lia,by lia,?_⟩;w_how;refine⟨by unfold Pe;simp at tl;lia,pre++[z],l0,by simp[e1],rfl,?_⟩;simp[Pe]
 rintro δ ⟨pre,l0,e1,e2,rfl⟩;cases l0 with
 |cons z l0=>cases e2
 |nil =>
  rw[append_nil]at e1;subst e1;w_how;exact q
noncomputable def okN (R0:List (Str×Pat)) (n:Str) (ws:List Str):Bool:=match uc R0 n with|some p=>Gc p ws|none=>false
def ai:RD:=fun δ Q=>∃(R0:List (Str×Pat))(n:Str)(ps:List AB),δ=[.fz (pD (.tup n ps)),.fz (.dct (Pe R0))]/\(R0.map (·.1)).Nodup/\ps.length<=1000000/\Q false (.bl (okN R0 n (Hb ps))) [.no,.no]
def q8h(U:AE P w base K mg):FE U CX0 3 U.u4i (spD ai):=by
 have u7g:=q2t U;have u9n:=q6d U;refine VL.Fun.dok (En U.u4i).F lA (by walk_at "a") (by decide) ?_;walk_at "f";obtain⟨R0,n,ps,rfl,nd,hl,q⟩:=h;have hu:=wb hr;refine⟨_,(ma (Ea (Ui (Py hu (xT 0 ba) (pv 1)) (Zk (Ka u7g (En U.u3l) (aa (gj hu (pv 1) (xT 0 ba)) (aa (Ka u9n (En U.u4x) (aa (xT 0 ba) ja)) ja))))))),?_⟩;have sz:=Oa;simp only[pD];w_how;rw[q3f nd];unfold okN at q;cases hp:uc R0 n with
 |none =>
  rw[hp]at q;rw[if_neg (by simp)];exact q
 |some p =>
  rw[hp]at q;rw[if_pos (by simp)];refine⟨_,rfl,ps,rfl,hl,?_⟩;w_how;exact⟨p,Hb ps,rfl,by simp[Hb];lia,q⟩
def Vn:RD:=fun δ Q=>∃(T0:Str)(R0:List (Str×Pat)),δ=[.fz (kb T0 R0)]/\LB T0 R0/\Q false .non [.no]
def j4x(U:AE P w base K mg):FE U CX0 25 U.u2n (spD Vn):=by
 have u3w:=au U;have u5i:=q1k U;refine VL.Fun.dok (En U.u2n).F Os (by walk_at "a") (by decide) ?_;walk_at "f";obtain⟨T0,R0,rfl,ok,q⟩:=h;refine⟨_,(ka (Gb (Ka u3w (En U.u0t) (aa (xT 0 ba) ja)))
  (ma (Gb (Ka u5i (En U.u0e) (aa (xT 0 ba) (aa (xT 0 ba) ja)))))),?_⟩
 rw[q7a];w_how;refine⟨T0,R0,rfl,ok,?_⟩;w_how;exact⟨T0,R0,rfl,ok,q⟩
noncomputable def seg (ws:List Str) (a e:Nat):List Str:=(ws.drop a).take (e - a)
def bi(h:e<=ws.length):(seg ws a e).length=e - a:=by unfold seg;rw[length_take,length_drop];exact min_eq_left (Nat.sub_le_sub_right h _)
def Wn(h1:a<=m)(h2:m<=e):seg ws a e=seg ws a m++seg ws m e:=by
 unfold seg;have e1:e - a=(m - a)+(e - m):=by lia
 rw[e1,List.take_add,List.drop_drop];congr 3
 lia
def cu(h1:a<=e)(h2:e<=ws.length)(h:seg ws a e=u++v):a+u.length<=e/\u=seg ws a (a+u.length)/\v=seg ws (a+u.length) e:=by
 have hl:=congrArg List.length h;rw[bi h2,length_append]at hl;have hm:a+u.length<=e:=by lia
 have e2:=Wn (ws:=ws) (a:=a) (m:=a+u.length) (e:=e) (by lia) hm;rw[h]at e2;have l1:u.length=(seg ws a (a+u.length)).length:=by rw[bi (by lia)];lia
 obtain⟨k1,k2⟩:=List.append_inj e2 l1;exact⟨hm,k1,k2⟩
def Rl (A:List Str->Prop)(ws:List Str)(a e:Nat):Prop:=a<=e/\e<=ws.length/\A (seg ws a e)
def Vg(ha:a<=ws.length):Rl (fun w=>w=[]) ws a e↔e=a:=by
 constructor
 ·rintro⟨h1,h2,h3⟩;have:=bi (ws:=ws) (a:=a) h2;rw[h3]at this;simp at this
  lia
 rintro rfl;exact⟨le_refl _,ha,by simp[seg]⟩
def rl_one:Rl (fun w=>w=[s]) ws a e↔e=a+1/\(ws.drop a).take 1=[s]:=by
 constructor
 ·rintro⟨h1,h2,h3⟩;have:=bi (ws:=ws) (a:=a) h2;rw[h3]at this;simp at this;have e1:e=a+1:=by lia
  subst e1;refine⟨rfl,?_⟩;unfold seg at h3;rwa [show a+1 - a=1 by lia]at h3
 rintro⟨rfl,h⟩;have:=congrArg List.length h;rw[length_take,length_drop]at this;simp at this;refine⟨by lia,by lia,?_⟩;unfold seg;rwa [show a+1 - a=1 by lia]
def pH:Rl (fun w=>∃u v,w=u++v/\A u/\B v) ws a e↔∃m,Rl A ws a m/\Rl B ws m e:=by constructor;rintro⟨h1,h2,u,v,h3,hu,hv⟩;obtain⟨k1,k2,k3⟩:=cu h1 h2 h3;exact⟨a+u.length,⟨by lia,by lia,k2 ▸ hu⟩,k1,h2,k3 ▸ hv⟩;rintro⟨m,⟨h1,h2,h3⟩,k1,k2,k3⟩;exact⟨by lia,k2,_,_,Wn h1 k1,h3,k3⟩
inductive Rch (A:List Str->Prop)(ws:List Str):Nat->Nat->Prop
 |refl (a:Nat):Rch A ws a a
 |step {a m e:Nat}:Rl A ws a m->Rch A ws m e->Rch A ws a e
def Rch.le(h:Rch A ws a e):a<=ws.length->a<=e/\e<=ws.length:=by
 induction h with
 |refl a=>exact fun h=>⟨le_refl _,h⟩
 |step r _ ih=>intro _;obtain⟨h1,h2⟩:=ih r.2.1;exact⟨by have:=r.1;lia,h2⟩
def Rch.snoc(h:Rch A ws a m)(h':Rl A ws m e):Rch A ws a e:=by
 induction h with
 |refl a=>exact .step h' (.refl _)
 |step r _ ih=>exact .step r (ih h')
def q6i{ws w:List Str}(h:CC A w):∀a e,a<=e->e<=ws.length->seg ws a e=w->Rch A ws a e:=by
 induction h with
 |nil =>
  intro a e h1 h2 h3;have:=bi (ws:=ws) (a:=a) h2;rw[h3]at this;simp at this;have e1:e=a:=by lia
  subst e1;exact .refl _
 | @app u v hu _ ih =>
  intro a e h1 h2 h3;obtain⟨k1,k2,k3⟩:=cu h1 h2 h3;exact .step ⟨by lia,by lia,k2 ▸ hu⟩ (ih (a+u.length) e k1 h2 k3.symm)
def q9e(h:Rch A ws a e):a<=ws.length->CC A (seg ws a e):=by
 induction h with
 |refl a=>intro _;simp only[seg,Nat.sub_self,take_zero];exact .nil
 |step r h ih =>
  intro _;obtain⟨k1,k2⟩:=h.le r.2.1;rw[Wn r.1 k1];exact .app r.2.2 (ih r.2.1)
def Mj(ha:a<=ws.length):Rl (CC A) ws a e↔Rch A ws a e :=
 ⟨fun⟨h1,h2,h3⟩=>q6i h3 a e h1 h2 rfl,fun h=>⟨(h.le ha).1,(h.le ha).2,q9e h ha⟩⟩
def rH:Rl (fun w=>∃u v,w=u++v/\A u/\CC A v) ws a e↔∃m,Rl A ws a m/\Rch A ws m e:=by rw[pH];constructor;rintro⟨m,h1,h2⟩;exact⟨m,h1,(Mj h1.2.1).mp h2⟩;rintro⟨m,h1,h2⟩;exact⟨m,h1,(Mj h1.2.1).mpr h2⟩
theorem Xn:∀(n:Nat)(l:List Nat),l.Nodup->(∀x∈l,x<n)->l.length<=n
 |0,l,_,h=>by
  cases l with
  |nil=>exact le_refl _
  |cons a r=>exact absurd (h a mem_cons_self) (not_lt_zero _)
 |n+1,l,nd,h=>by
  have h1:=Xn n (l.filter (· ≠ n)) (nd.sublist filter_sublist) fun x hx=>by
   obtain⟨k1,k2⟩:=mem_filter.mp hx;have:=h x k1;simp at k2
   lia
  have h2:l.length<=(l.filter (· ≠ n)).length+1:=by
   clear h h1;induction l with
   |nil=>simp
   |cons a r ih =>
    obtain⟨na,nr⟩:=nodup_cons.mp nd;by_cases e:a=n
    ·subst e;have ef:r.filter (fun x=>!decide (x=a))=r:=List.filter_eq_self.mpr fun x hx=>by
      simp;intro z;subst z;exact na hx
     simp[ef]
    have:=ih nr;simp[e]at this ⊢
    lia
  lia
def XB (A:List Str->Prop)(ws:List Str)(as es:List Nat):Prop:=es.Nodup/\∀e,e∈es↔∃a∈as,Rl A ws a e
def XB.le(h:XB A ws as es):∀e∈es,e<=ws.length:=fun e he=>by
 obtain⟨a,_,r⟩:=(h.2 e).mp he;exact r.2.1
noncomputable def qB (as:List Nat):List D:=as.map fun(a:Nat)=>D.int (a:Int)
noncomputable def nl (as:List Nat):List Int:=as.map fun(a:Nat)=>(a:Int)
def Nj (as:List Nat):qB as=(nl as).map .int:=by simp[qB,nl]
def Yn {a:Nat}:(a:Int)∈nl as↔a∈as:=by
 unfold nl;rw[mem_map];constructor
 ·rintro⟨x,h,e⟩;have:x=a:=by lia
  exact this ▸ h
 intro h;exact⟨a,h,rfl⟩
def Wg (as:List Nat):(qB as).length=as.length:=by simp[qB]
def Oj(f g:α->D)(c:α->Bool)(xs:List α)(hl:xs.length<=sizeLine)
  (hc:∀x∈xs,∀P:Bool->List VL.Slot->Prop,P (c x) (.fz (f x)::δ)->tc (.fz (f x)::δ) P)
  (h:∀x∈xs,c x=true->∀P:D->List VL.Slot->Prop,P (g x) (.fz (f x)::δ)->te (.fz (f x)::δ) fun _ y δ'=>P y δ')(q:Q true (.lst ((xs.filter c).map g)) δ):Xe 1 (xs.map f) (dgN 0) tc te Q δ:=by
 refine⟨fun r n0 δ1=>δ1=δ/\∃pre l0,xs=pre++l0/\r=l0.map f/\n0=(pre.filter c).map g,⟨rfl,[],xs,rfl,rfl,rfl⟩,?_,?_⟩
 ·rintro d r n0 δ1 ⟨rfl,pre,l0,e,er,rfl⟩;cases l0 with
  |nil=>cases er
  |cons x l0 =>
   cases er;have hx:x∈xs:=by rw[e];simp
   have hlen:pre.length<sizeLine:=by rw[e]at hl;simp at hl;lia
   refine hc x hx _ ?_;cases hcx:c x with
   |false =>
    rw[if_neg Bool.false_ne_true];exact⟨rfl,pre++[x],l0,by rw[e];simp,rfl,by simp[filter_append,hcx]⟩
   |true =>
    rw[if_pos rfl];refine h x hx hcx _ ⟨?_,rfl,pre++[x],l0,by rw[e];simp,rfl,by simp[filter_append,hcx]⟩;have:=length_filter_le c pre;simp;lia
 rintro n0 δ1 ⟨rfl,pre,l0,e,er,rfl⟩;have es:l0=[]:=by simpa using er.symm
 subst es;simp at e;subst e;exact q
theorem du:∀(ps:List Pat)(c:Pat)(u v:List Str),Hd ps u->RB c v->Hd (ps++[c]) (u++v)
 | [],c,u,v,h,h'=>by
  cases(show u=[] from h);exact⟨v,[],by simp,h',rfl⟩
 |p::ps,c,u,v,h,h'=>by
  obtain⟨u1,u2,rfl,h1,h2⟩:=h;exact⟨u1,u2++v,by simp,h1,du ps c u2 v h2 h'⟩
def j5r {ws:List Str}(h:a<=ws.length):oB (ws.map .str) (some (a:Int)) (some ((a:Int)+1))=((ws.drop a).take 1).map .str:=by
 have e:((a:Int)+1)=((a+1:Nat):Int):=by lia
 rw[e];unfold oB;rw[HT.sIx_nat,HT.sIx_nat,length_map,min_eq_left h,<-map_drop,<-map_take];by_cases hl:a+1<=ws.length;rw[min_eq_left hl,show a+1 - a=1 by lia];have:ws.drop a=[]:=drop_of_length_le (by lia);rw[this];simp
def fu (ps:List Pat)(c:Pat):Hd (ps++[c])=fun w=>∃u v,w=u++v/\Hd ps u/\RB c v:=by
 funext w;apply propext;constructor
 ·intro h;induction ps generalizing w with
  |nil =>
   obtain⟨u,v,rfl,h1,h2⟩:=h;cases(show v=[] from h2);exact⟨[],u,by simp,rfl,h1⟩
  |cons p ps ih =>
   obtain⟨u,v,rfl,h1,h2⟩:=h;obtain⟨u',v',rfl,k1,k2⟩:=ih v h2;exact⟨u++u',v',by simp,⟨u,u',rfl,h1,k1⟩,k2⟩
 rintro⟨u,v,rfl,h1,h2⟩;exact du ps c u v h1 h2
theorem Pj (c:Pat)(w:List Str):∀ps:List Pat,Vd (ps++[c]) w↔Vd ps w\/RB c w
 | []=>by simp[Vd]
 |p::ps=>by simp only[cons_append,Vd,Pj c w ps,or_assoc]
noncomputable def mG (es fs:List Nat):List Nat:=es++fs.filter (fun a=>!decide (a∈es))
def Zn(h1:es.Nodup)(h2:fs.Nodup):(mG es fs).Nodup:=by refine nodup_append.mpr ⟨h1,h2.sublist filter_sublist,fun a ha b hb e=>?_⟩;have:=(mem_filter.mp hb).2;rw[<-e]at this;simp at this;exact this ha
def zB:e∈mG es fs↔e∈es\/e∈fs:=by unfold mG;rw[mem_append,mem_filter];by_cases h:e∈es<;>simp[h]
def ao (es fs:List Nat):qB es++List.map (fun(a:Nat)=>D.int (a:Int)) (filter (fun a=>!decide (a∈es)) fs)=qB (mG es fs):=by simp[qB,mG]
def gu (n:Nat):RD:=fun δ Q=>∃(p:Pat)(ws:List Str)(as:List Nat),δ=[.fz (bB p),.fz (.lst (ws.map .str)),.fz (.lst (qB as))]/\dpP p<n/\szP p<=100/\ws.length<=1000000/\as.Nodup/\(∀a∈as,a<=ws.length) /\
 ∀(b:Bool)(es:List Nat),XB (RB p) ws as es->Q b (.lst (qB es)) [.no,.no,.no]
def notInN (x:Nat)(l:List Nat)(h:Q false (.bl (!decide (x∈l)))):km (.int (x:Int)) (.lst (qB l)) Q:=⟨_,nl l,rfl,by rw[Nj],by
 have e:decide ((x:Int)∈nl l)=decide (x∈l):=by rw[Bool.eq_iff_iff];simp[Yn]
 rw[e];exact h⟩
noncomputable def lenS:VL.Slot->Nat
 |.fz (.lst xs)=>xs.length
 |.ob _ (.lst xs)=>xs.length
 |_=>0
theorem j8j:lenS (.fz (.lst xs))=xs.length:=rfl
theorem lenS_o:lenS (.ob b (.lst xs))=xs.length:=rfl
noncomputable def muE (δ:List VL.Slot):Nat:=2 * (1000002 - lenS (δ.getD 3 .no))+(if lenS (δ.getD 4 .no)=0 then 0 else 1)
structure Cl (A:List Str->Prop)(ws:List Str)(f1 o0 later:List Nat):Prop where
 nd:o0.Nodup
 le:∀x∈o0,x<=ws.length
 nl:later.Nodup
 sub:∀x∈later,x∈o0
 st:∀x∈f1,x∈o0
 sd:∀e∈o0,∃s∈f1,Rch A ws s e
 cl:∀x∈o0,x∉later->∀e,Rl A ws x e->e∈o0
def Cl.step {A:List Str->Prop}{ws:List Str}{f1 o0 later ms:List Nat}(h:Cl A ws f1 o0 later)(hm:XB A ws later ms):Cl A ws f1 (mG o0 ms) (ms.filter fun a=>!decide (a∈o0)) where
 nd:=Zn h.nd hm.1
 le:=fun x hx=>by
  rcases zB.mp hx with hx|hx;exact h.le x hx;exact hm.le x hx
 nl:=hm.1.sublist filter_sublist
 sub:=fun x hx=>zB.mpr (.inr (mem_filter.mp hx).1)
 st:=fun x hx=>zB.mpr (.inl (h.st x hx))
 sd:=fun e he=>by
  rcases zB.mp he with he|he;exact h.sd e he;obtain⟨x,hx,r⟩:=(hm.2 e).mp he;obtain⟨s,hs,rs⟩:=h.sd x (h.sub x hx);exact⟨s,hs,rs.snoc r⟩
 cl:=fun x hx hn e r=>by
  have hx':x∈o0:=by
   rcases zB.mp hx with hx|hx;exact hx;by_cases z:x∈o0;exact z;exact absurd (mem_filter.mpr ⟨hx,by simpa using z⟩) hn
  by_cases z:x∈later;exact zB.mpr (.inr ((hm.2 e).mpr ⟨x,z,r⟩));exact zB.mpr (.inl (h.cl x hx' z e r))
def Cl.fin(h:Cl A ws f1 o0 [])(e:Nat):e∈o0↔∃s∈f1,Rch A ws s e:=by
 refine⟨h.sd e,?_⟩;rintro⟨s,hs,r⟩;have key:∀{s e:Nat},Rch A ws s e->s∈o0->e∈o0:=fun r=>by
  induction r with
  |refl a=>exact id
  |step r _ ih=>exact fun hs=>ih (h.cl _ hs (by simp) _ r)
 exact key r (h.st s hs)
def j1e (n:Nat):RD:=fun δ Q=>∃(p:Pat)(ws:List Str)(f1:List Nat),δ=[.fz (bB p),.fz (.lst (ws.map .str)),.fz (.lst (qB f1))]/\dpP p<n/\szP p<=100/\ws.length<=1000000/\f1.Nodup/\(∀a∈f1,a<=ws.length) /\
 ∀(b:Bool)(es:List Nat),es.Nodup->(∀e,e∈es↔∃s∈f1,Rch (RB p) ws s e)->Q b (.lst (qB es)) [.no,.no,.no]
def j6c(U:AE P w base K mg)(u1s:FE U CX0 (2 * n+1) U.u0d (spD (gu n))):FE U CX0 (2 * n+2) U.u0o (spD (j1e n)):=by
 refine VL.Fun.dok (En U.u0o).F Oh (by walk_at "a") (by decide) ?_;walk_at "f";obtain⟨p,ws,U.u0d.choose,rfl,hdp,hsz,hws,h1,h2,h⟩:=h;have hu:=wb hr;refine⟨_,(ka (Ue (i:=3) Oh.nd rfl (Or.inr rfl) (zg Xi Hi rfl U.T.z_list boot_list (aa (dv 2) ja)))
  (ka (dq 4 Oh.nd (zg Xi Hi rfl U.T.z_list boot_list (aa (dv 2) ja)))
  (ka (El PassesOwn.never (Ti (Bh hu) Ji (pv 4) (Ia ja) (Ha _)) (ka (Nf 4 Oh.nd tg1 (fb (Ka u1s (En U.u0d) (aa (dv 0) (aa (dv 1) (aa (dv 4) ja))))) (fun _=>(Ee (Vk lm wf (dv 0) (pv 4) rfl))) (fun _=>(dv 0)))
  (ma (Ue (i:=3) Oh.nd rfl (Or.inr rfl) (za Sb ub (dv 3) (dv 4))))))
  (ma (Ea (dm 3)))))),?_⟩
 have sz:=Oa;have lb:∀l:List Nat,l.Nodup->(∀x∈l,x<=ws.length)->l.length<=1000001:=fun l h1 h2=>by
  have:=Xn (ws.length+1) l h1 fun x hx=>by have:=h2 x hx;lia
  lia
 w_how;refine⟨[],fun δ=>∃b b2 o0 later,Cl (RB p) ws U.u0d.choose o0 later/\δ=[.fz (bB p),.fz (.lst (ws.map .str)),.fz (.lst (qB U.u0d.choose)),rsl b (.lst (qB o0)),rsl b2 (.lst (qB later))],muE,⟨true,true,U.u0d.choose,U.u0d.choose,⟨h1,h2,h1,fun _ h=>h,fun _ h=>h,fun e he=>⟨e,he,.refl _⟩,fun x hx hn=>absurd hx hn⟩,rfl⟩,?_⟩;rintro δ ⟨b,b2,o0,later,hc,rfl⟩;have fl:=lb o0 hc.nd hc.le;have ll:=lb later hc.nl fun x hx=>hc.le x (hc.sub x hx);cases b<;>cases b2<;>w_how<;>refine⟨by lia,?_⟩
 all_goals
  by_cases hl:later=[]
  ·subst hl;rw[if_neg (by simp[qB])]
   first|exact h false o0 hc.nd hc.fin|exact h true o0 hc.nd hc.fin
  rw[if_pos (by cases later with|nil=>exact absurd rfl hl|cons a r=>rfl)];refine⟨p,ws,later,rfl,hdp,hsz,hws,hc.nl,fun x hx=>hc.le x (hc.sub x hx),fun b ms hm=>?_⟩;w_how;have ml:=lb ms hm.1 hm.le;have nw:=hc.step hm;have nwl:=lb _ nw.nd nw.le;have mfl:=length_filter_le (fun a=>!decide (a∈o0)) ms;have al:(mG o0 ms).length=o0.length+(ms.filter fun a=>!decide (a∈o0)).length:=by simp[mG]
  refine Oj (fun(a:Nat)=>D.int (a:Int)) (fun(a:Nat)=>D.int (a:Int)) (fun a=>!decide (a∈o0)) ms (by lia) (fun a ha Pq hP=>?_) (fun a ha _ Pq hP=>?_) ?_;w_how;refine notInN _ _ ?_;w_how;exact hP;w_how;exact hP;w_how;refine⟨by rw[Wg,length_map];lia,⟨true,false,mG o0 ms,ms.filter fun a=>!decide (a∈o0),nw,by rw[ao];rfl⟩,?_⟩;have hl0:later.length≠0:=fun z=>hl (length_eq_zero_iff.mp z);simp only[muE,getD_cons_succ,List.getD_cons_zero,j8j,lenS_o,length_append,Wg,length_map];rw[if_neg hl0];split;exact Nat.lt_succ_of_le (mul_le_mul_left 2 (Nat.sub_le_sub_left (le_add_right _ _) _));rename_i hz;exact Nat.succ_lt_succ ((Nat.mul_lt_mul_left (by decide)).mpr (Nat.sub_lt_sub_left (by lia) (Nat.lt_add_of_pos_right (Nat.pos_of_ne_zero hz))))
def j3e(U:AE P w base K mg):∀n,FE U CX0 (2 * n+1) U.u0d (spD (gu n)):=by
 intro n;induction n with
 |zero=>exact Fc fun δ Q h=>by obtain⟨_,_,_,_,h,_⟩:=h;exact not_lt_zero _ h
 |succ n u1s =>
 have u4z:=j6c U u1s;rw[show 2 * (n+1)+1=(2 * n+2)+1 by lia];refine VL.Fun.dok (En U.u0d).F Rf (by walk_at "a") (by decide) ?_;walk_at "f";obtain⟨p,ws,as,rfl,hdp,hsz,hws,nd,ale,q⟩:=h;have hu:=wb hr;refine⟨_,(ka (Ja (La gb bb (xT 0 ba) Fa (Ha _)) (ma (Ea (zg Xi Hi rfl U.T.z_list boot_list (aa (dv 2) ja)))) Pa)
  (ka (Ja (La gb bb (xT 0 ba) Fa (Ha _)) (ma (Ea (Oc tg1 (fb (dv 2)) (fun _=>(Ee (La (Kr hu) Jr (Nc (pv 2) (bc (dv 0)) (bc (za Fb Db (dv 0) ba))) (Ia (aa (xT 1 ba) ja)) (Ha _)))) (fun _=>(za Fb Db (dv 0) ba))))) Pa)
  (ka (Ja (La gb bb (xT 0 ba) Fa (Ha _)) (ka (dsF (fb (xT 0 ba)) (dn 3 Rf.nd) (ma (dq 2 Rf.nd (Ka u1s (En U.u0d) (aa (dv 3) (aa (dv 1) (aa (dv 2) ja)))))))
  (ma (Ea (dm 2)))) Pa)
  (ka (Ja (La gb bb (xT 0 ba) Fa (Ha _)) (ka (Ue (i:=4) Rf.nd rfl (Or.inr rfl) (Ia ja))
  (ka (dsF (fb (xT 0 ba)) (dn 3 Rf.nd) (ma (Ue (i:=4) Rf.nd rfl (Or.inr rfl) (za Sb ub (dv 4) (Oc tg1 (fb (Ka u1s (En U.u0d) (aa (dv 3) (aa (dv 1) (aa (dv 2) ja))))) (fun _=>(Ee (Vk lm wf (dv 0) (pv 5) rfl))) (fun _=>(dv 0)))))))
  (ma (Ea (dm 4))))) Pa)
  (ka (Ja (La gb bb (xT 0 ba) Fa (Ha _)) (ka (Ue (i:=4) Rf.nd rfl (Or.inr rfl) (Ka u1s (En U.u0d) (aa (xT 0 ba) (aa (dv 1) (aa (dv 2) ja)))))
  (ma (Ea (za Sb ub (dv 4) (Oc tg1 (fb (dv 2)) (fun _=>(Ee (Vk lm wf (dv 0) (pv 5) rfl))) (fun _=>(dv 0))))))) Pa)
  (ka (Ja (La gb bb (xT 0 ba) Fa (Ha _)) (ma (Ea (Ka u4z (En U.u0o) (aa (xT 0 ba) (aa (dv 1) (aa (dv 2) ja)))))) Pa)
  (ma (Ea (Ka u4z (En U.u0o) (aa (xT 0 ba) (aa (dv 1) (aa (Ka u1s (En U.u0d) (aa (xT 0 ba) (aa (dv 1) (aa (dv 2) ja)))) ja)))))))))))),?_⟩
 have sz:=Oa;have lb:∀l:List Nat,l.Nodup->(∀x∈l,x<=ws.length)->l.length<=1000001:=fun l h1 h2=>by
  have:=Xn (ws.length+1) l h1 fun x hx=>by have:=h2 x hx;lia
  lia
 have al:=lb as nd ale;have notIn:∀(x:Nat)(l:List Nat){Q:Bool->D->Prop},Q false (.bl (!decide (x∈l)))->km (.int (x:Int)) (.lst (qB l)) Q:=fun x l Q h=>⟨_,nl l,rfl,by rw[Nj],by
  have e:decide ((x:Int)∈nl l)=decide (x∈l):=by rw[Bool.eq_iff_iff];simp[Yn]
  rw[e];exact h⟩
 cases p with
 |none =>
  simp only[bB];w_how;refine q _ as ⟨nd,fun e=>?_⟩;constructor;intro h;exact⟨e,h,(Vg (ale e h)).mpr rfl⟩;rintro⟨a,h,r⟩;rw[(Vg (ale a h)).mp r];exact h
 |one s =>
  simp only[bB];w_how;rw[if_neg (by decide)];refine Oj (fun(a:Nat)=>D.int (a:Int)) (fun(a:Nat)=>D.int ((a:Int)+1)) (fun a=>decide ((ws.drop a).take 1=[s])) as (by lia) (fun a ha Pq hP=>?_) (fun a ha _ Pq hP=>?_) ?_;w_how;rw[j5r (ale a ha)];exact⟨by lia,_,[s],rfl,rfl,hP⟩;w_how;exact hP;w_how;have e:List.map (fun(a:Nat)=>D.int ((a:Int)+1)) (filter (fun a=>decide (take 1 (drop a ws)=[s])) as)=qB ((as.filter fun a=>decide (take 1 (drop a ws)=[s])).map (· + 1)):=by simp[qB]
  rw[e];refine q _ _ ⟨?_,fun e=>?_⟩;exact(List.Pairwise.map _ (fun a b h=>by lia) (nd.sublist filter_sublist));rw[mem_map];constructor;rintro⟨a,h,rfl⟩;obtain⟨h1,h2⟩:=mem_filter.mp h;exact⟨a,h1,rl_one.mpr ⟨rfl,by simpa using h2⟩⟩;rintro⟨a,h,r⟩;obtain⟨k1,k2⟩:=rl_one.mp r;exact⟨a,mem_filter.mpr ⟨h,by simpa using k2⟩,k1.symm⟩
 |row ps =>
  simp only[bB];simp only[dpP,szP]at hdp hsz;have pl:=Je ps;w_how;rw[if_neg (by decide),if_neg (by decide)];refine Jb [3] (fun r δ=>∃pre l0 es b,ps=pre++l0/\r=Ma l0/\XB (Hd pre) ws as es/\δ=[.fz (.tup [.str "row",.lst (Ma ps)]),.fz (.lst (ws.map .str)),rsl b (.lst (qB es)),.no,.no]) ⟨[],ps,as,false,rfl,rfl,⟨nd,fun e=>?_⟩,rfl⟩ ?_ ?_
  ·constructor;intro h;exact⟨e,h,(Vg (ale e h)).mpr rfl⟩;rintro⟨a,h,r⟩;rw[(Vg (ale a h)).mp r];exact h
  ·rintro d r δ ⟨pre,l0,es,b,e1,e2,he,rfl⟩;cases l0 with
   |nil=>cases e2
   |cons c l0 =>
    cases e2;have hc:c∈ps:=by rw[e1];simp
    have d1:=Ud hc;have z1:=Tf hc;have key:∀fs,XB (RB c) ws es fs->XB (Hd (pre++[c])) ws as fs:=fun fs hf=>⟨hf.1,fun e=>by
     rw[hf.2];constructor;rintro⟨m,hm,rm⟩;obtain⟨a,ha,ra⟩:=(he.2 m).mp hm;refine⟨a,ha,?_⟩;rw[fu];exact pH.mpr ⟨m,ra,rm⟩;rintro⟨a,ha,ra⟩;rw[fu]at ra;obtain⟨m,r1,r2⟩:=pH.mp ra;exact⟨m,(he.2 m).mpr ⟨a,ha,r1⟩,r2⟩⟩
    cases b<;>w_how
    all_goals
     refine⟨c,ws,es,rfl,by lia,by lia,hws,he.1,he.le,fun b fs hf=>?_⟩;w_how;exact⟨pre++[c],l0,fs,b,by simp[e1],rfl,key fs hf,rfl⟩
  rintro δ ⟨pre,l0,es,b,e1,e2,he,rfl⟩;cases l0 with
  |cons c l0=>cases e2
  |nil =>
   rw[append_nil]at e1;subst e1;cases b<;>w_how<;>exact q _ es he
 |any ps =>
  simp only[bB];simp only[dpP,szP]at hdp hsz;w_how;rw[if_neg (by decide),if_neg (by decide),if_neg (by decide)];refine⟨by lia,Jb [3] (fun r δ=>∃pre l0 es,ps=pre++l0/\r=Ma l0/\XB (Vd pre) ws as es/\δ=[.fz (.tup [.str "any",.lst (Ma ps)]),.fz (.lst (ws.map .str)),.fz (.lst (qB as)),.no,.ob false (.lst (qB es))]) ⟨[],ps,[],rfl,rfl,⟨nodup_nil,fun e=>?_⟩,rfl⟩ ?_ ?_⟩
  ·constructor;intro h;cases h;rintro⟨a,_,_,_,z⟩;exact z.elim
  ·rintro d r δ ⟨pre,l0,es,e1,e2,he,rfl⟩;cases l0 with
   |nil=>cases e2
   |cons c l0 =>
    cases e2;have hc:c∈ps:=by rw[e1];simp
    have d1:=Ud hc;have z1:=Tf hc;w_how;refine⟨c,ws,as,rfl,by lia,by lia,hws,nd,ale,fun b fs hf=>?_⟩;cases b<;>w_how
    all_goals
     have fl:=lb fs hf.1 hf.le;have el:=lb es he.1 he.le;refine Oj (fun(a:Nat)=>D.int (a:Int)) (fun(a:Nat)=>D.int (a:Int)) (fun a=>!decide (a∈es)) fs (by lia) (fun a ha Pq hP=>?_) (fun a ha _ Pq hP=>?_) ?_;w_how;refine notIn _ _ ?_;w_how;exact hP;w_how;exact hP;w_how;have fl2:=length_filter_le (fun a=>!decide (a∈es)) fs;refine⟨by rw[Wg,length_map];lia,pre++[c],l0,mG es fs,by simp[e1],rfl,⟨Zn he.1 hf.1,fun e=>?_⟩,by rw[ao]⟩;rw[zB,he.2,hf.2];constructor
     ·rintro(⟨a,ha,h1,h2,h3⟩|⟨a,ha,h1,h2,h3⟩);exact⟨a,ha,h1,h2,(Pj c _ pre).mpr (.inl h3)⟩;exact⟨a,ha,h1,h2,(Pj c _ pre).mpr (.inr h3)⟩
     rintro⟨a,ha,h1,h2,h3⟩;rcases(Pj c _ pre).mp h3 with h3|h3;exact .inl ⟨a,ha,h1,h2,h3⟩;exact .inr ⟨a,ha,h1,h2,h3⟩
  rintro δ ⟨pre,l0,es,e1,e2,he,rfl⟩;cases l0 with
  |cons c l0=>cases e2
  |nil =>
   w_how;rw[append_nil]at e1;subst e1;exact q _ es he
 |wrap k p =>
  simp only[dpP,szP]at hdp hsz;cases k with
  |maybe =>
   simp only[bB,Wk.str];w_how;rw[if_neg (by decide),if_neg (by decide),if_neg (by decide),if_neg (by decide)];refine⟨p,ws,as,rfl,by lia,by lia,hws,nd,ale,fun b0 fs hf=>?_⟩;cases b0<;>w_how
   all_goals
    have fl:=lb fs hf.1 hf.le;refine Oj (fun(a:Nat)=>D.int (a:Int)) (fun(a:Nat)=>D.int (a:Int)) (fun a=>!decide (a∈fs)) as (by lia) (fun a ha Pq hP=>?_) (fun a ha _ Pq hP=>?_) ?_;w_how;refine notIn _ _ ?_;w_how;exact hP;w_how;exact hP;w_how;have fl2:=length_filter_le (fun a=>!decide (a∈fs)) as;rw[ao];refine⟨by rw[Wg,length_map];lia,q _ _ ⟨Zn hf.1 nd,fun e=>?_⟩⟩;rw[zB,hf.2];constructor
    ·rintro(⟨a,ha,h1,h2,h3⟩|h);exact⟨a,ha,h1,h2,.inr h3⟩;obtain⟨k1,k2,k3⟩:=(Vg (ale e h)).mpr rfl;exact⟨e,h,k1,k2,.inl k3⟩
    rintro⟨a,ha,h1,h2,h3⟩;rcases h3 with h3|h3;exact .inr ((Vg (ale a ha)).mp ⟨h1,h2,h3⟩ ▸ ha);exact .inl ⟨a,ha,h1,h2,h3⟩
  |many =>
   simp only[bB,Wk.str];w_how;rw[if_neg (by decide),if_neg (by decide),if_neg (by decide),if_neg (by decide),if_neg (by decide)];refine⟨p,ws,as,rfl,by lia,by lia,hws,nd,ale,fun b es h1 h2=>?_⟩;refine q _ es ⟨h1,fun e=>?_⟩;rw[h2];constructor;rintro⟨s,hs,r⟩;exact⟨s,hs,(Mj (ale s hs)).mpr r⟩;rintro⟨a,ha,ra⟩;exact⟨a,ha,(Mj (ale a ha)).mp ra⟩
  |some =>
   simp only[bB,Wk.str];w_how;rw[if_neg (by decide),if_neg (by decide),if_neg (by decide),if_neg (by decide),if_neg (by decide),if_neg (by decide)];refine⟨p,ws,as,rfl,by lia,by lia,hws,nd,ale,fun b0 fs hf=>?_⟩;refine⟨p,ws,fs,rfl,by lia,by lia,hws,hf.1,hf.le,fun b es h1 h2=>?_⟩;refine q _ es ⟨h1,fun e=>?_⟩;rw[h2];constructor;rintro⟨s,hs,r⟩;obtain⟨a,ha,ra⟩:=(hf.2 s).mp hs;exact⟨a,ha,rH.mpr ⟨s,ra,r⟩⟩;rintro⟨a,ha,ra⟩;obtain⟨m,r1,r2⟩:=rH.mp ra;exact⟨m,(hf.2 m).mpr ⟨a,ha,r1⟩,r2⟩
mutual
noncomputable def rD (R0:List (Str×Pat)) (i0:List Nat):AB->List (List Nat)
 |.txt _=>[]
 |.tup n ps=>(if okN R0 n (Hb ps)=true then[] else[i0])++tD R0 i0 0 ps
noncomputable def tD (R0:List (Str×Pat)) (i0:List Nat) (k:Nat):List AB->List (List Nat)
 | []=>[]
 |p::ps=>rD R0 (i0++[k]) p++tD R0 i0 (k+1) ps
end
theorem iu (R0:List (Str×Pat))(i0:List Nat)(p:AB):∀(ps:List AB)(k:Nat),tD R0 i0 k (ps++[p])=tD R0 i0 k ps++rD R0 (i0++[k+ps.length]) p
 | [],k=>by simp[tD]
 |q::ps,k=>by
  simp only[cons_append,tD,iu R0 i0 p ps (k+1),append_assoc,length_cons];rw[show k+1+ps.length=k+(ps.length+1) by lia]
mutual
theorem bo (R0:List (Str×Pat)):∀(p:AB)(i0:List Nat),(rD R0 i0 p).length<=Ga p
 |.txt _,_=>by simp[rD]
 |.tup n ps,i0=>by
  have:=jo R0 ps i0 0;simp only[rD,Ga,length_append];split<;>simp<;>lia
theorem jo (R0:List (Str×Pat)):∀(ps:List AB)(i0:List Nat)(k:Nat),(tD R0 i0 k ps).length<=xa ps
 | [],_,_=>by simp[tD]
 |p::ps,i0,k=>by
  have h1:=bo R0 p (i0++[k]);have h2:=jo R0 ps i0 (k+1);simp only[tD,xa,length_append]
  lia
end
noncomputable def we (q:List Nat):D:=.lst (qB q)
noncomputable def Yc (qs:List (List Nat)):List D:=qs.map we
def ju (ws:List Str):seg ws 0 ws.length=ws:=by simp[seg]
def ci (ps:List AB):(Hb ps).length=ps.length:=by simp[Hb]
structure NC (R0:List (Str×Pat)):Prop where
 nd:(R0.map (·.1)).Nodup
 pat:∀r∈R0,(Ba r.2).Nodup/\szP r.2<=50/\dpP r.2<=20
theorem LB.R0 {T0:Str}{R0:List (Str×Pat)}(h:LB T0 R0):NC R0:=⟨h.nd,fun r hr=>⟨(h.pat r hr).nd,(h.pat r hr).sz,(h.pat r hr).dp⟩⟩
def inN (x:Nat)(l:List Nat)(h:Q false (.bl (decide (x∈l)))):fInI (.int (x:Int)) (.lst (qB l)) Q:=⟨_,nl l,rfl,by rw[Nj],by
 have e:decide ((x:Int)∈nl l)=decide (x∈l):=by rw[Bool.eq_iff_iff];simp[Yn]
 rw[e];exact h⟩
def q5j:RD:=fun δ Q=>∃(p:Pat)(ps:List AB),δ=[.fz (bB p),.fz (.lst (pDs ps))]/\(Ba p).Nodup/\szP p<=50/\dpP p<=20/\ps.length<=1000000/\Q false (.bl (Gc p (Hb ps))) [.no,.no]
def q8y(U:AE P w base K mg):FE U CX0 44 U.u1t (spD q5j):=by
 have u1s:=j3e U 21;refine VL.Fun.dok (En U.u1t).F Hm (by walk_at "a") (by decide) ?_;walk_at "f";obtain⟨p,ps,rfl,nd,hsz,hdp,hl,q⟩:=h;have hu:=wb hr;refine⟨_,(ka (dq 2 Hm.nd (Ia ja))
  (ka (dsF (fb (dv 1)) (dn 3 Hm.nd) (ma (Ja (Mc (dII U.T.kit U.T.z_isinstance (dv 3) U.T.z_str boot_str)) (ma (Gb (dAp 2 Fa))) (ma (Gb (dAp 2 (xT 3 ba)))))))
  (ma (Ea (yh os_inI Ww (dlL 1 U.T.z_len) (Ka u1s (En U.u0d) (aa (dv 0) (aa (dv 2) (aa (Ia (aa ba ja)) ja)))) rfl))))),?_⟩
 have sz:=Oa;w_how;refine⟨by lia,Jb [3] (fun r δ=>∃pre l0,ps=pre++l0/\r=pDs l0/\δ=[.fz (bB p),.fz (.lst (pDs ps)),.ob false (.lst ((Hb pre).map .str)),.no]) ⟨[],ps,rfl,rfl,rfl⟩ ?_ ?_⟩
 ·rintro d r δ ⟨pre,l0,e1,e2,rfl⟩;cases l0 with
  |nil=>cases e2
  |cons c l0 =>
   cases e2;have e1':=congrArg List.length e1;simp at e1';have hh:=ci pre;cases c with
   |txt z =>
    simp only[pD];w_how;refine⟨by simp;lia,pre++[.txt z],l0,by simp[e1],rfl,by simp[Hb,yd]⟩
   |tup n is =>
    simp only[pD];w_how;refine⟨by simp;lia,pre++[.tup n is],l0,by simp[e1],rfl,by simp[Hb,yd]⟩
 rintro δ ⟨pre,l0,e1,e2,rfl⟩;cases l0 with
 |cons c l0=>cases e2
 |nil =>
  rw[append_nil]at e1;subst e1;w_how;refine⟨by lia,p,Hb ps,[0],rfl,by lia,by lia,by rw[ci];lia,by simp,(fun a ha=>by simp at ha;lia),fun b es he=>?_⟩;rw[Cc];refine inN _ _ ?_;have e:decide (ps.length∈es)=Gc p (Hb ps):=by
   rw[Bool.eq_iff_iff,decide_eq_true_eq,x3g nd,he.2];constructor;rintro⟨a,ha,h1,h2,h3⟩;simp at ha;subst ha;rw[<-ci ps,ju]at h3;exact h3;intro h;refine⟨0,by simp,by lia,by rw[ci];lia,?_⟩;rw[<-ci ps,ju];exact h
  rw[e];exact q
def nu (n:Nat):RD:=fun δ Q=>∃(R0:List (Str×Pat))(nm:Str)(ps:List AB)(i0:List Nat),δ=[.fz (.dct (qD R0)),.fz (pD (.tup nm ps)),.fz (we i0)]/\NC R0/\dpL ps<n/\xa ps<=1000000/\i0.length+n<=1000 /\
 Q true (.lst (Yc (rD R0 i0 (.tup nm ps)))) [.no,.no,.no]
def ko(ok:NC R0)(hdp:dpL ps<n+1)(hs:xa ps<=1000000)(hpa:i0.length+(n+1)<=1000)(hf:fs0.length<=1)
  (h:E.nx [.fz (.dct (qD R0)),.fz (.tup [.str nm,.lst (pDs ps)]),.fz (.lst (qB i0)),.ob false (.lst (Yc (fs0++tD R0 i0 0 ps))),.no]) :
  Hf (sB 0 ps.length) (dgN 4) (wH (dNot (Kc (dCB vH (kc (dOp uH (dG pG 1 (dC (D.int 1))) (jD 4)) (kc (dC (D.ty "str")) mE)))))
   (lG 3 (dOp cH (jD 3) (Ff (nu n) (kc (jD 0) (kc (dOp uH (dG pG 1 (dC (D.int 1))) (jD 4)) (kc (dOp cH (jD 2) (dLst (kc (jD 4) mE))) mE)))))) Zi)
   E [.fz (.dct (qD R0)),.fz (.tup [.str nm,.lst (pDs ps)]),.fz (.lst (qB i0)),.ob false (.lst (Yc fs0)),.no]:=by
 have sz:=Oa;refine Jf [4] (fun i δ=>δ=[.fz (.dct (qD R0)),.fz (.tup [.str nm,.lst (pDs ps)]),.fz (.lst (qB i0)),.ob false (.lst (Yc (fs0++tD R0 i0 0 (ps.take i)))),.no]) (by simp[tD];rfl) ?_ ?_
 ·rintro i δ hi rfl;have e:=xn hi;have hm:ps[i]∈ps:=getElem_mem hi;have d1:=yn hm;have z1:=mF hm;have et:ps.take (i+1)=ps.take i++[ps[i]]:=by rw[List.take_succ,getElem?_eq_getElem hi];rfl
  have el:(ps.take i).length=i:=by rw[length_take];lia
  have fl:=jo R0 (ps.take i) i0 0;have szt:xa (ps.take i)<=xa ps:=by
   have:=congrArg xa (take_append_drop i ps);rw[Ad]at this
   lia
  have es:tD R0 i0 0 (ps.take (i+1))=tD R0 i0 0 (ps.take i)++rD R0 (i0++[i]) ps[i]:=by rw[et,iu,el,zero_add]
  rw[es];generalize ps[i]=p at e d1 z1 ⊢;cases p with
  |txt z =>
   simp only[pD]at e;w_how;refine⟨_,e,?_⟩;w_how;simp[rD]
  |tup m is =>
   simp only[pD]at e;simp only[dp1]at d1;simp only[Ga]at z1;have f2:=bo R0 (.tup m is) (i0++[i]);simp only[Ga]at f2;have f2:(rD R0 (i0++[i]) (.tup m is)).length<=1000001:=by lia
   w_how;refine⟨_,e,?_⟩;w_how;refine⟨_,e,by lia,by rw[Wg];lia,R0,m,is,i0++[i],?_,ok,by lia,by lia,by simp;lia,?_⟩;simp[pD,we,qB];w_how;refine⟨by simp[Yc];lia,?_⟩;simp[Yc]
 rintro δ rfl;rw[take_length];exact h
def x6q(U:AE P w base K mg):∀n,FE U CX0 (n+45) U.u1h (spD (nu n)):=by
 have u5q:=q8y U;intro n;induction n with
 |zero=>exact Fc fun δ Q h=>by obtain⟨_,_,_,_,_,_,h,_⟩:=h;exact not_lt_zero _ h
 |succ n u3n =>
 refine VL.Fun.dok (En U.u1h).F wj (by walk_at "a") (by decide) ?_;walk_at "f";obtain⟨R0,nm,ps,i0,rfl,ok,hdp,hs,hpa,q⟩:=h;have hu:=wb hr;refine⟨_,(ka (dq 3 wj.nd (Ia ja))
  (ka (Ja (aG (Eh (Ul hu (xT 1 ba) (pv 0)) (Dh (fe (Mc (Ka u5q (En U.u1t) (aa (gj hu (pv 0) (xT 1 ba)) (aa (xT 1 ba) ja)))))))) (ma (Gb (dAp 3 (dv 2)))) Pa)
  (ka (dsF (ke rfl U.T.z_range (aa (yg Vi oh rfl U.T.z_len PySem.boot_len (aa (xT 1 ba) ja)) ja)) (dn 4 wj.nd) (ma (Ja (fe (Mc (dII U.T.kit U.T.z_isinstance (Ce Af Ae (xT 1 ba) (dv 4) (fun _ _=>rfl)) U.T.z_str boot_str))) (ma (dq 3 wj.nd (za Sb ub (dv 3) (Ka u3n (En U.u1h) (aa (dv 0) (aa (Ce Af Ae (xT 1 ba) (dv 4) (fun _ _=>rfl)) (aa (za Sb ub (dv 2) (Ia (aa (dv 4) ja))) ja))))))) Pa)))
  (ma (Ea (dm 3)))))),?_⟩
 have sz:=Oa;have K0:=Cc ps;have hle:=nc ps;simp only[pD,we];have gt:=Lj ok.nd nm;w_how;rw[gt,toNat_natCast,K0];simp only[rD]at q;have bnd:-(2:Int) ^ 62<=(ps.length:Int)/\(ps.length:Int)<2 ^ 62:=⟨by lia,by lia⟩;cases hp:uc R0 nm with
 |none =>
  have eo:okN R0 nm (Hb ps)=false:=by unfold okN;rw[hp]
  rw[eo]at q;refine⟨by lia,?_⟩;rw[if_pos (by rfl)];refine⟨by lia,by lia,by lia,ko (fs0:=[i0]) ok hdp hs hpa (by simp) ?_⟩;w_how;simpa using q
 |some p =>
  have eo:okN R0 nm (Hb ps)=Gc p (Hb ps):=by unfold okN;rw[hp]
  rw[eo]at q;have o:=ok.pat _ (Pn hp);refine⟨by lia,?_⟩;rw[if_neg (by simp)];refine⟨_,rfl,p,ps,rfl,o.1,o.2.1,o.2.2,by lia,?_⟩;w_how;refine jB (fun ha=>?_) fun ha=>?_
  ·skip
   refine⟨by lia,by lia,by lia,ko (fs0:=[i0]) ok hdp hs hpa (by simp) ?_⟩;w_how;rw[ha]at q;simpa using q
  skip
  refine⟨by lia,by lia,ko (fs0:=[]) ok hdp hs hpa (by simp) ?_⟩;w_how;rw[(Bool.not_eq_false _).mp ha]at q;simpa using q
noncomputable def x8 (T0:Str) (R0:List (Str×Pat)) (nm:Str) (ps:List AB):List (List Nat) :=
 if nm≠T0/\(rD R0 [] (.tup nm ps)).take 1≠[[]] then[]::rD R0 [] (.tup nm ps) else rD R0 [] (.tup nm ps)
def j0p (n:Nat):RD:=fun δ Q=>∃(T0:Str)(R0:List (Str×Pat))(nm:Str)(ps:List AB),δ=[.fz (kb T0 R0),.fz (pD (.tup nm ps))]/\LB T0 R0/\dpL ps<n/\xa ps<=1000000/\n<=1000/\∀b,Q b (.lst (Yc (x8 T0 R0 nm ps))) [.no,.no]
def j5v(U:AE P w base K mg)(n:Nat):FE U CX0 (n+46) U.u1n (spD (j0p n)):=by
 have u3n:=x6q U n;refine VL.Fun.dok (En U.u1n).F Ph (by walk_at "a") (by decide) ?_;walk_at "f";obtain⟨T0,R0,nm,ps,rfl,ok,hdp,hs,hn,q⟩:=h;have hu:=wb hr;refine⟨_,(ka (dq 2 Ph.nd Jh)
  (ka (dsF (fb (xT 0 ba)) (We (n:=2) rfl (Ac (dn 3 Ph.nd) (Ac (dn 4 Ph.nd) Ve))) (ma (Kh hu (pv 2) (dv 3) (dv 4))))
  (ka (dq 5 Ph.nd (Ka u3n (En U.u1h) (aa (dv 2) (aa (dv 1) (aa (Ia ja) ja)))))
  (ka (Ja (aG (Cf (La wg lf (xT 1 ba) (xT 0 ba) (Ha _)) (Bf (La (Jz hu) op_neF (Nc (pv 5) Bc (bc ba)) (Ia (aa (Ia ja) ja)) (Ha _))))) (ma (Ea (za Sb ub (Ia (aa (Ia ja) ja)) (dv 5)))) Pa)
  (ma (Ea (dm 5))))))),?_⟩
 have sz:=Oa;have hlen:=ok.len;simp only[kb];w_how;refine Jb [3,4] (fun r δ=>∃(pre l0:List (Str×Pat)),R0=pre++l0/\r=l0.map (fun r=>.tup [.str r.1,bB r.2])/\δ=[.fz (kb T0 R0),.fz (pD (.tup nm ps)),.ob false (.dct (qD pre)),.no,.no,.no]) ⟨[],R0,rfl,rfl,rfl⟩ ?_ ?_
 ·rintro d r δ ⟨pre,l0,e1,e2,rfl⟩;cases l0 with
  |nil=>cases e2
  |cons z l0 =>
   cases e2;w_how;have:=Xt pre;have e1':=congrArg List.length e1;simp at e1';refine⟨by lia,pre++[z],l0,by simp[e1],rfl,?_⟩;simp[qD]
 rintro δ ⟨pre,l0,e1,e2,rfl⟩;cases l0 with
 |cons z l0=>cases e2
 |nil =>
  rw[append_nil]at e1;subst e1;simp only[kb];w_how;refine⟨by lia,R0,nm,ps,[],rfl,ok.R0,hdp,hs,by simp;lia,?_⟩;simp only[pD];w_how;have fl:=bo R0 (.tup nm ps) [];simp only[Ga]at fl;have q':=q true;unfold x8 at q';generalize rD R0 [] (.tup nm ps)=fs at fl q' ⊢;have pl:(Yc fs).length=fs.length:=by simp[Yc]
  rw[show(1:Int)=((1:Nat):Int) from rfl,Ze];refine jB (fun h=>⟨by lia,by lia,?_⟩) fun h=>?_
  ·have hne:nm≠T0:=by simpa using h
   cases fs with
   |nil =>
    rw[if_pos ⟨hne,by simp⟩]at q';refine⟨_,rfl,rfl,.inl ⟨by simp[Yc],?_⟩⟩;w_how;exact⟨by lia,by lia,by simp[Yc];lia,q'⟩
   |cons a r =>
    cases a with
    |nil =>
     rw[if_neg (by simp)]at q';refine⟨_,rfl,rfl,.inr (.inl ⟨rfl,?_⟩)⟩;w_how;exact q'
    |cons x xs =>
     rw[if_pos ⟨hne,by simp⟩]at q';refine⟨_,rfl,rfl,.inr (.inr ⟨_,_,rfl,?_⟩)⟩;w_how;exact⟨by lia,by lia,by lia,q'⟩
  have he:nm=T0:=by simpa using h
  rw[if_neg (fun z=>z.1 he)]at q';exact q'
abbrev Plc:=List Nat×Str×List AB
mutual
noncomputable def pC (i0:List Nat):AB->List Plc
 |.txt _=>[]
 |.tup n ps=>(i0,n,ps)::qF i0 0 ps
noncomputable def qF (i0:List Nat) (k:Nat):List AB->List Plc
 | []=>[]
 |p::ps=>pC (i0++[k]) p++qF i0 (k+1) ps
end
noncomputable def jC (i0:List Nat) (k:Nat):List AB->List Plc
 | []=>[]
 |.txt _::ps=>jC i0 (k+1) ps
 |.tup n is::ps=>(i0++[k],n,is)::jC i0 (k+1) ps
noncomputable def cG (e:Plc):List Plc:=pC e.1 (.tup e.2.1 e.2.2)
theorem oo:∀(ps:List AB)(i0:List Nat)(k:Nat),qF i0 k ps=(jC i0 k ps).flatMap cG
 | [],_,_=>rfl
 |.txt _::ps,i0,k=>by simp only[qF,pC,jC,nil_append];exact oo ps i0 (k+1)
 |.tup n is::ps,i0,k=>by simp only[qF,jC,flatMap_cons,oo ps i0 (k+1)];rfl
def ei (e:Plc):cG e=e::(jC e.1 0 e.2.2).flatMap cG:=by obtain⟨i0,n,ps⟩:=e;simp only[cG,pC];rw[oo]
mutual
theorem qo:∀(p:AB)(i0:List Nat),(pC i0 p).length<=Ga p
 |.txt _,_=>by simp[pC]
 |.tup n ps,i0=>by have:=ou ps i0 0;simp only[pC,Ga,length_cons];lia
theorem ou:∀(ps:List AB)(i0:List Nat)(k:Nat),(qF i0 k ps).length<=xa ps
 | [],_,_=>by simp[qF]
 |p::ps,i0,k=>by
  have h1:=qo p (i0++[k]);have h2:=ou ps i0 (k+1);simp only[qF,xa,length_append]
  lia
end
noncomputable def plcD (e:Plc):D:=.tup [we e.1,pD (.tup e.2.1 e.2.2)]
theorem uo (i0:List Nat):∀(ps:List AB)(k:Nat)(p:AB),jC i0 k (ps++[p])=jC i0 k ps++jC i0 (k+ps.length) [p]
 | [],k,p=>by simp[jC]
 |.txt _::ps,k,p=>by
  simp only[cons_append,jC,uo i0 ps (k+1) p,length_cons];rw[show k+1+ps.length=k+(ps.length+1) by lia]
 |.tup n is::ps,k,p=>by
  simp only[cons_append,jC,uo i0 ps (k+1) p,length_cons];rw[show k+1+ps.length=k+(ps.length+1) by lia]
theorem Qj (i0:List Nat):∀(ps:List AB)(k:Nat),(jC i0 k ps).length<=ps.length
 | [],_=>le_refl _
 |.txt _::ps,k=>by have:=Qj i0 ps (k+1);simp only[jC,length_cons];lia
 |.tup n is::ps,k=>by have:=Qj i0 ps (k+1);simp only[jC,length_cons];lia
theorem Rj:∀{ps:List AB}{k:Nat},e∈jC i0 k ps->(∃j,e.1=i0++[j])/\AB.tup e.2.1 e.2.2∈ps
 |.txt _::ps,k,h=>by
  obtain⟨h1,h2⟩:=Rj (ps:=ps) (k:=k+1) h;exact⟨h1,mem_cons_of_mem _ h2⟩
 |.tup n is::ps,k,h=>by
  rcases mem_cons.mp (show e∈(i0++[k],n,is)::jC i0 (k+1) ps from h) with rfl|h;exact⟨⟨k,rfl⟩,mem_cons_self⟩;obtain⟨h1,h2⟩:=Rj (ps:=ps) (k:=k+1) h;exact⟨h1,mem_cons_of_mem _ h2⟩
def R_tb:RD:=fun δ Q=>∃(q:List Nat)(n:Str)(ps:List AB),δ=[.fz (we q),.fz (pD (.tup n ps))]/\q.length<=1000/\ps.length<=1000000/\Q true (.lst ((jC q 0 ps).map plcD)) [.no,.no]
def p0j (U:AE P w base K mg):FE U CX0 1 U.u0x (spD R_tb):=by
 refine VL.Fun.dok (En U.u0x).F fA (by walk_at "a") (by decide) ?_;walk_at "f";obtain⟨q,n,ps,rfl,hq,hl,post⟩:=h;refine⟨_,(ma (Ea (Oc tg2 (Qr rfl U.T.z_enumerate (aa (xT 1 ba) ja)) (fun _=>(Ee (fe (Mc (dII U.T.kit U.T.z_isinstance (dv 1) U.T.z_str boot_str))))) (fun _=>(Xa (aa (za Sb ub (dv 2) (Ia (aa (dv 0) ja))) (aa (dv 1) ja))))))),?_⟩;have sz:=Oa;simp only[pD,we];w_how;refine⟨fun r n0 δ1=>δ1=[.fz (.lst (qB q)),.fz (.tup [.str n,.lst (pDs ps)])]/\∃pre l0,ps=pre++l0/\r=wd pre.length (pDs l0)/\n0=(jC q 0 pre).map plcD,⟨rfl,[],ps,rfl,rfl,rfl⟩,?_,?_⟩
 ·rintro d r n0 δ1 ⟨rfl,pre,l0,e1,e2,rfl⟩;cases l0 with
  |nil=>cases e2
  |cons p l0 =>
   cases e2;have e1':=congrArg List.length e1;simp at e1';have kl:=Qj q pre 0;have ks:=uo q pre 0 p;rw[zero_add]at ks;cases p with
   |txt z =>
    simp only[pD];w_how;refine⟨pre++[.txt z],l0,by simp[e1],by simp,?_⟩;rw[ks];simp[jC]
   |tup m is =>
    simp only[pD];w_how;refine⟨by lia,by rw[Wg];lia,by lia,by simp;lia,pre++[.tup m is],l0,by simp[e1],by simp,?_⟩;rw[ks];simp[jC,plcD,we,qB,pD]
 rintro n0 δ1 ⟨rfl,pre,l0,e1,e2,rfl⟩;cases l0 with
 |cons p l0=>cases e2
 |nil =>
  rw[append_nil]at e1;subst e1;exact post
def kpI (o:HO):Prop:=(∃xs,o=.tup xs) \/ ∃xs,o=.lst xs/\∀i r,xs≠.int i::r
noncomputable def noI (H:Hp):Hp:=fun b=>@ite _ (∃o,H b=some o/\kpI o) (Classical.propDecidable _) (H b) none
def qu:BB (noI H) H:=fun b o e=>by
 unfold noI at e;split at e;exact e;cases e
def noI_t(e:H b=some (.tup xs)):noI H b=some (.tup xs):=(if_pos ⟨_,e,.inl ⟨xs,rfl⟩⟩).trans e
def noI_l(e:H b=some (.lst xs))(n:∀i r,xs≠.int i::r):noI H b=some (.lst xs):=(if_pos ⟨_,e,.inr ⟨xs,rfl,n⟩⟩).trans e
def j5i{i:Int}:noI H b≠some (.lst (.int i::xs)):=fun e=>by
 unfold noI at e;split at e
 ·rename_i h;obtain⟨o,h1,h2⟩:=h;rw[e]at h1;cases h1;rcases h2 with ⟨_,h⟩|⟨_,h,n⟩;cases h;cases h;exact n _ _ rfl
 cases e
mutual
theorem su {H:Hp}:∀(p:AB)(v:V),Rep H (pD p) v->Rep (noI H) (pD p) v
 |.txt s,v,h=>h
 |.tup n ps,v,h=>by
  obtain⟨a,vs,rfl,h1,x1,r1,rfl,e1,x2,r2,rfl,⟨b,us,rfl,h2,rs⟩,e3⟩:=h;refine⟨a,_,rfl,noI_t h1,x1,_,rfl,e1,_,r2,rfl,⟨b,us,rfl,noI_l h2 fun i r z=>?_,uu ps us rs⟩,e3⟩;cases ps with
  |nil=>cases(show us=[] from rs);cases z
  |cons p ps =>
   obtain⟨x,r',rfl,e4,_⟩:=rs;cases z;cases p with
   |txt s=>cases(show V.int i=.str s from e4)
   |tup m is=>obtain⟨_,_,e5,_⟩:=e4;cases e5
theorem uu {H:Hp}:∀(ps:List AB)(vs:List V),DB H (pDs ps) vs->DB (noI H) (pDs ps) vs
 | [],vs,h=>h
 |p::ps,vs,h=>by obtain⟨v,r,rfl,h1,h2⟩:=h;exact⟨v,r,rfl,su p v h1,uu ps r h2⟩
end
noncomputable def cF (q:List Nat):List V:=q.map fun(k:Nat)=>V.int (k:Int)
def jH:Rep F (we q) v↔∃a,v=.ref a/\F a=some (.lst (cF q)):=by
 constructor;rintro⟨a,vs,rfl,h1,r⟩;rw[Nj]at r;have:=r.ints;subst this;exact⟨a,rfl,by rw[h1];simp[nl,cF]⟩;rintro⟨a,rfl,h⟩;refine⟨a,_,rfl,h,?_⟩;clear h;unfold cF qB;induction q with
 |nil=>rfl
 |cons k q ih=>exact⟨_,_,rfl,rfl,ih⟩
theorem wu:∀{q q':List Nat},cF q=cF q'->q=q'
 | [],[],_=>rfl
 | [],_::_,h=>by cases h
 |_::_,[],h=>by cases h
 |a::q,b::q',h=>by
  have h1:V.int (a:Int)=V.int (b:Int)/\cF q=cF q':=by simpa[cF] using h
  have h2:=V.int.inj h1.1;rw[wu h1.2,show a=b by lia]
def RC (G H0:Hp)(e:Plc)(t:V):Prop:=∃a p v,t=.ref a/\G a=some (.tup [.ref p,v])/\G p=some (.lst (cF e.1))/\H0 p=none/\Rep G (pD (.tup e.2.1 e.2.2)) v
def RC.mono(s:BB G G')(h:RC G H0 e t):RC G' H0 e t:=by obtain⟨a,p,v,h1,h2,h3,h4,h5⟩:=h;exact⟨a,p,v,h1,s _ _ h2,s _ _ h3,h4,Rep.mono s _ _ h5⟩
def fi(h:IB R as bs)(h':IB R cs ds):IB R (as++cs) (bs++ds):=by
 induction h with
 |nil=>exact h'
 |cons r _ ih=>exact .cons r ih
def ye(h:IB R as bs)(m:∀a b,R a b->S a b):IB S as bs:=by
 induction h with
 |nil=>exact .nil
 |cons r _ ih=>exact .cons (m _ _ r) ih
def q8p(h:IB R as bs):IB R as.reverse bs.reverse:=by
 induction h with
 |nil=>exact .nil
 |cons r _ ih=>rw[reverse_cons,reverse_cons];exact fi ih (.cons r .nil)
def Xg(h:IB R as bs):as.length=bs.length:=by
 induction h with
 |nil=>rfl
 |cons r _ ih=>simp[ih]
def q7u{R:α->β->Prop}{as:List α}{bs:List β}(h:IB R as bs){i:Nat}{b:β}(e:bs[i]? = some b):∃a,as[i]? = some a/\R a b:=by
 induction h generalizing i with
 |nil=>simp at e
 |cons r _ ih =>
  cases i with
  |zero=>simp at e;subst e;exact⟨_,rfl,r⟩
  |succ i=>simpa using ih (by simpa using e)
def xu(h:IB R (as++[a]) bs):∃bs' b,bs=bs'++[b]/\IB R as bs'/\R a b:=by
 induction as generalizing bs with
 |nil =>
  cases h with
  |cons r t=>cases t;exact⟨[],_,rfl,.nil,r⟩
 |cons x as ih =>
  cases h with
  |cons r t =>
   obtain⟨bs',b,rfl,h1,h2⟩:=ih t;exact⟨_::bs',b,rfl,.cons r h1,h2⟩
theorem yu(hF:∀b,b≠p->∀i r,F b≠some (.lst (.int i::r)))(hp:F p=some (.lst (cF q)))(sF:BB F F')(nw:∀c o,F' c=some o->F c=none->H c=none)(s0:BB H0 H) :
  ∀(es:List Plc)(us:List V),(∀e∈es,∃j,e.1=q++[j])->DB F' (es.map plcD) us->IB (RC F' H0) es us
 | [],us,_,h=>by cases(show us=[] from h);exact .nil
 |e::es,us,he,h=>by
  obtain⟨v,r,rfl,⟨t,xs,rfl,ht,y1,r1,rfl,e1,y2,r2,rfl,e2,e3⟩,h2⟩:=h;cases(show r2=[] from e3);obtain⟨b,rfl,hb⟩:=jH.mp e1;obtain⟨j,ej⟩:=he e mem_cons_self;refine .cons ⟨t,b,y2,rfl,ht,hb,s0.free (nw b _ hb ?_),e2⟩ (yu hF hp sF nw s0 es r (fun e h=>he e (mem_cons_of_mem _ h)) h2);cases hg:F b with
  |none=>rfl
  |some o =>
   have:=sF _ _ hg;rw[hb]at this;cases this;by_cases z:b=p;rw[z,hp]at hg;have:=wu (HO.lst.inj (Option.some.inj hg));rw[ej]at this;have:=congrArg List.length this;simp at this;exfalso;rw[ej]at hg;cases q with
   |nil=>exact hF b z _ _ hg
   |cons k q=>exact hF b z _ _ hg
def j5n(sF:BB F H)(r:DB F ds vs)(h:R (ds.map .fz) Qd)
  (k:∀b d δ' v F' H',BB H H'->BB F F'->BB F' H'->(∀c o,F' c=some o->F c=none->H c=none)->Qd b d δ'->SOk H F' H' none (some v) (rsl b d)->Q v H'):spD R vs H Q E:=by
 refine⟨_,[],F,_,Qd,fun p a e=>by simp at e,Cg sF r,h,fun b d v δ' F' H' I q=>?_⟩;exact k b d δ' v F' H' I.base I.ext I.sub I.new q (I.get 0 _ rfl)
def zu:Sp:=fun vs H Q _=>∃(n:Str)(ps:List AB)(v:V)(F0:Hp),vs=[v]/\BB F0 H/\Rep F0 (pD (.tup n ps)) v/\dpL ps<=99/\xa ps<=1000000 /\
 ∀r ts G H',H r=none->BB H H'->BB F0 G->BB G H'->(∀b o,G b=some o->F0 b=none->H b=none)->G r=none->H' r=some (.lst ts)->IB (RC G H) (pC [] (.tup n ps)) ts->Q (.ref r) H'
structure TInv (F0 H0:Hp)(all:List Plc)(v:V)(r wt:Addr)(S:List Plc)(σ:L2.St)(H:Hp):Prop where
 ex:∃(G:Hp)(dn:List Plc)(ts ws:List V)(x:Option V),σ=[some v,some (.ref r),some (.ref wt),x]/\BB H0 H/\(∀b o,G b=some o->F0 b=none->H0 b=none)/\BB F0 G/\BB G H/\G r=none/\G wt=none/\H r=some (.lst ts)/\H wt=some (.lst ws)/\IB (RC G H0) dn ts/\IB (RC G H0) S.reverse ws/\all=dn++S.flatMap cG
 bd:∀e∈S,e.1.length+dpL e.2.2<=99/\xa e.2.2<=1000000
def j8e(U:AE P w base K mg):FE U CX0 2 U.u0i zu:=by
 have u4r:=p0j U;refine (En U.u0i).F.ok oj (fun vs H Q E h=>?_) (fun cdv A V0 s H vs Q E hr h=>?_);obtain⟨_,_,_,_,rfl,_⟩:=h;rfl;obtain⟨n,ps,v,F0,rfl,sF0,rv,hdp,hsz,q⟩:=h;refine⟨_,(Ra (Cb (i:=1) oj.nd rfl (Or.inl rfl) (ac Da))
  (Ra (Cb (i:=2) oj.nd rfl (Or.inl rfl) (ac (Aa (ah (Aa (ac Da) (Aa (pv 0) Da))) Da)))
  (Ra (wk PassesOwn.never (zk (pv 2) (fun _=>rfl)) (Ra (Cb (i:=3) oj.nd rfl (Or.inl rfl) (Kk slot_list_pop type_list_pop Bi (pv 2)))
  (Ra (Vb (Be PySem.F.slot_list_append PySem.F.type_list_append qf (pv 1) (Aa (pv 3) Da)))
  (Ya (Vb (Be slot_list_extend type_list_extend eh (pv 2) (Aa (pq rfl rfl U.T.z_list rfl U.T.z_reversed (zb u4r (En U.u0x) (Aa (Bb Eb (pv 3) Ab (fun _ _=>rfl)) (Aa (Bb Eb (pv 3) Ab (fun _ _=>rfl)) Da)))) Da)))))))
  (Ya (Sc (pv 1)))))),?_⟩
 have sz:=Oa;walk_at "rs";refine⟨by lia,fun r hr0=>⟨by lia,fun p np hp0=>⟨by lia,fun t nt1 nt2 ht0=>⟨by lia,fun wt nw1 nw2 nw3 hw0=>?_⟩⟩⟩⟩;have w0:TInv F0 H (pC [] (.tup n ps)) v r wt [([],n,ps)] [some v,some (.ref r),some (.ref wt),none] (upd (upd (upd (upd H r (HO.lst [])) p (HO.lst [])) t (HO.tup [V.ref p,v])) wt (HO.lst [V.ref t])):=by
  have sG:BB F0 (upd (upd F0 p (HO.lst [])) t (HO.tup [V.ref p,v])):=(BB.of_new (sF0.free hp0)).upd (sF0.free ht0);refine⟨⟨upd (upd F0 p (.lst [])) t (.tup [.ref p,v]),[],[],[.ref t],none,rfl,(((BB.of_new hr0).upd hp0).upd ht0).upd hw0,fun b o e hb=>?_,sG,fun b o e=>?_,?_,?_,?_,z0g,.nil,.cons ⟨t,p,v,rfl,z0g,?_,hp0,Rep.mono sG _ _ rv⟩ .nil,?_⟩,fun e he=>?_⟩
  ·by_cases z1:b=t;rw[z1];exact ht0;rw[ya z1]at e;by_cases z2:b=p;rw[z2];exact hp0;rw[ya z2,hb]at e;cases e
  ·have nb:b≠wt:=fun z=>by
    rw[z,ya nw1,ya nw2,sF0.free hw0]at e;cases e
   rw[ya nb];by_cases z1:b=t;rw[z1,z0g]at e ⊢;exact e;rw[ya z1]at e ⊢;by_cases z2:b=p;rw[z2,z0g]at e ⊢;exact e;rw[ya z2]at e ⊢;rw[ya (fun z=>by rw[z,sF0.free hr0]at e;cases e)];exact sF0 _ _ e
  rw[ya (Ne.symm nt2),ya (Ne.symm np)];exact sF0.free hr0;rw[ya nw1,ya nw2];exact sF0.free hw0;rw[ya (Ne.symm nw3),ya (Ne.symm nt2),ya (Ne.symm np)];exact z0g;rw[ya (Ne.symm nt1)];exact z0g;simp[cG];simp at he;subst he;simp;lia
 generalize upd (upd (upd (upd H r (HO.lst [])) p (HO.lst [])) t (HO.tup [V.ref p,v])) wt (HO.lst [V.ref t])=H1 at w0;have nrw:r≠wt:=Ne.symm nw3;refine⟨fun m σ H2=>∃S,TInv F0 H (pC [] (.tup n ps)) v r wt S σ H2/\m=(S.flatMap cG).length,⟨_,_,w0,rfl⟩,?_⟩;rintro m σ H2 ⟨S,⟨⟨G,dn,ts,ws,x,rfl,s02,nwG,sHG,sG2,gr,gw,hr2,hw2,a1,a2,eall⟩,bd⟩,rfl⟩;refine⟨_,rfl,!ws.isEmpty,.inl ⟨_,SqL.of hw2,rfl⟩,?_⟩;cases S with
 |nil =>
  cases a2;rw[List.flatMap_nil,append_nil]at eall;rw[<-eall]at a1;exact kB ⟨_,rfl,q r ts G H2 hr0 s02 sHG sG2 nwG gr hr2 a1⟩
 |cons e S =>
  rw[reverse_cons]at a2;obtain⟨ws',tv,rfl,a2',et⟩:=xu a2;obtain⟨a,p',v',rfl,ga,gp,hp',rv'⟩:=et;have e0:(!(ws'++[V.ref a]).isEmpty)=true:=by simp
  rw[if_pos e0];refine⟨fun σ' H'=>∃m',m' < ((e::S).flatMap cG).length/\∃S',TInv F0 H (pC [] (.tup n ps)) v r wt S' σ' H'/\m' = (S'.flatMap cG).length,fun σ' H' h=>h,?_⟩;have hlast:(ws'++[V.ref a])[(ws'++[V.ref a]).length - 1]? = some (.ref a):=by simp
  have hdl:(ws'++[V.ref a]).dropLast=ws':=by simp
  have l1:=Xg a1;have l2:=Xg a2';have ln:=qo (.tup n ps) [];simp only[Ga]at ln;rw[eall,length_append]at ln;rw[flatMap_cons,length_append,ei,length_cons]at ln;have fl:S.length<=(S.flatMap cG).length:=by
   clear eall bd a2' l2 a2 ln;induction S with
   |nil=>exact le_refl _
   |cons z S ih=>rw[flatMap_cons,length_append,ei,length_cons,length_cons];lia
  have fk:(jC e.1 0 e.2.2).length<=((jC e.1 0 e.2.2).flatMap cG).length:=by
   generalize jC e.1 0 e.2.2=ks;induction ks with
   |nil=>exact le_refl _
   |cons z S ih=>rw[flatMap_cons,length_append,ei,length_cons,length_cons];lia
  simp only[length_reverse]at l2;refine⟨_,rfl,wt,rfl,⟨_,hw2⟩,wt,_,.ref a,rfl,rfl,hw2,hlast,?_⟩;rw[hdl];have gne:∀{b:Addr}{o:HO},G b=some o->b≠r/\b≠wt:=fun {b o} h=>⟨(fun z=>by rw[z,gr]at h;cases h),(fun z=>by rw[z,gw]at h;cases h)⟩;have sG3:BB G (upd (upd H2 wt (.lst ws')) r (.lst (ts++[.ref a]))):=fun b o h=>by
   obtain⟨n1,n2⟩:=gne h;rw[ya n1,ya n2];exact sG2 _ _ h
  have s03:BB H (upd (upd H2 wt (.lst ws')) r (.lst (ts++[.ref a]))):=(s02.upd hw0).upd hr0;walk_at "rs";refine⟨⟨_,by rw[ya nrw];exact hr2⟩,ts,by rw[ya nrw];exact hr2,by lia,?_⟩;have hr3:(upd (upd H2 wt (.lst ws')) r (.lst (ts++[.ref a]))) r=some (.lst (ts++[.ref a])):=z0g;have hw3:(upd (upd H2 wt (.lst ws')) r (.lst (ts++[.ref a]))) wt=some (.lst ws'):=by rw[ya (Ne.symm nrw)];exact z0g
  generalize upd (upd H2 wt (.lst ws')) r (.lst (ts++[.ref a]))=H3 at sG3 hr3 hw3 s03 ⊢;refine⟨⟨_,hw3⟩,_,sG3 _ _ ga,_,aC,_,sG3 _ _ ga,_,tF,?_⟩;have hF:∀b,b≠p'->∀i r,(fun b=>if b=p' then G p' else noI G b:Hp) b≠some (.lst (.int i::r)):=fun b nb i r z=>by
   simp only[nb,if_false]at z;exact j5i z
  have hFp:(fun b=>if b=p' then G p' else noI G b:Hp) p' = some (.lst (cF e.1)):=by simp only[if_true];exact gp
  have sFG:BB (fun b=>if b=p' then G p' else noI G b:Hp) G:=fun b o z=>by
   by_cases nb:b=p';simp only[nb,if_true]at z;rw[nb];exact z;simp only[nb,if_false]at z;exact qu _ _ z
  have sNF:BB (noI G) (fun b=>if b=p' then G p' else noI G b:Hp):=fun b o z=>by
   by_cases nb:b=p';simp only[nb,if_true];rw[<-nb];exact qu _ _ z;simp only[nb,if_false];exact z
  generalize (fun b=>if b=p' then G p' else noI G b:Hp)=F at hF hFp sFG sNF;have be:=bd e mem_cons_self;refine j5n (ds:=[we e.1,pD (.tup e.2.1 e.2.2)]) (F:=F) (Qd:=fun b d _=>b=true/\d=.lst ((jC e.1 0 e.2.2).map plcD)) (sFG.trans sG3) ⟨_,_,rfl,jH.mpr ⟨p',rfl,hFp⟩,_,_,rfl,Rep.mono sNF _ _ (su _ _ rv'),rfl⟩
   ⟨e.1,e.2.1,e.2.2,rfl,by lia,by have:=nc e.2.2;lia,rfl,rfl⟩ fun b1 d1 δ1 w1 F' H4 s4 sFF sF4 nw ⟨eb,ed⟩ k=>?_
  subst eb ed;obtain⟨L,eL,hL3,hLF,⟨us,hL4,ru⟩,_⟩:=k;cases eL;have ent:=yu hF hFp sFF nw s03 _ us (fun e' he=>(Rj he).1) ru;have lu:=Xg ent;have kl:=Qj e.1 e.2.2 0;have hle:=nc e.2.2;refine⟨L,rfl,us,hL4,fun l hl=>⟨ws',?_,?_,?_⟩⟩;rw[ya (Sa (s4 _ _ hw3) hl)];exact s4 _ _ hw3;rw[length_reverse,<-lu,<-l2];lia;have nlw:wt≠l:=Sa (s4 _ _ hw3) hl;have nlr:r≠l:=Sa (s4 _ _ hr3) hl;have gF:∀b o o',G b=some o->F' b=some o'->o=o':=fun b o o' h1 h2=>by
   have x1:=s4 _ _ (sG3 _ _ h1);rw[sF4 _ _ h2]at x1;cases x1;rfl
  have F'r:∀b o,H3 b=some o->G b=none->F' b=none:=fun b o h1 h2=>by
   cases z:F' b with
   |none=>rfl
   |some o' =>
    have:=nw b o' z (sFG.free h2);rw[h1]at this;cases this
  have sGG:BB G (fun b=>match F' b with|some o=>some o|none=>G b):=fun b o h=>by
   show(match F' b with|some o=>some o|none=>G b)=some o;cases z:F' b with
   |none=>exact h
   |some o'=>rw[gF b o o' h z]
  have sFG':BB F' (fun b=>match F' b with|some o=>some o|none=>G b):=fun b o h=>by
   show(match F' b with|some o=>some o|none=>G b)=some o;rw[h]
  refine⟨((jC e.1 0 e.2.2++S).flatMap cG).length,?_,jC e.1 0 e.2.2++S,⟨⟨fun b=>match F' b with|some o=>some o|none=>G b,dn++[e],ts++[.ref a],ws'++us.reverse,_,rfl,((s03.trans s4).upd ((s03.trans s4).free hl)).upd hw0,fun b o h hb=>?_,sHG.trans sGG,fun b o h=>?_,?_,?_,?_,z0g,fi (ye a1 fun _ _ h=>h.mono sGG) (.cons (RC.mono sGG ⟨a,p',v',rfl,ga,gp,hp',rv'⟩) .nil),?_,?_⟩,fun e' he=>?_⟩,rfl⟩;rw[flatMap_cons,List.flatMap_append,length_append,length_append,ei,length_cons];lia
  ·cases z:F' b with
   |none=>exact nwG b o (by simpa[z] using h) hb
   |some o' =>
    cases z2:F b with
    |none=>exact s03.free (nw b o' z z2)
    |some o2=>exact nwG b o2 (sFG _ _ z2) hb
  ·have h4:H4 b=some o:=by
    cases z:F' b with
    |none=>exact s4 _ _ (sG3 _ _ (by simpa[z] using h))
    |some o' =>
     have:o' = o:=by simpa[z] using h
     rw[<-this];exact sF4 _ _ z
   have nb1:b≠wt:=fun z=>by
    rw[z]at h;simp only[F'r wt _ hw3 gw,gw]at h;cases h
   rw[ya nb1,ya (Sa h4 hl)];exact h4
  ·show(match F' r with|some o=>some o|none=>G r)=none;rw[F'r r _ hr3 gr];exact gr
  ·show(match F' wt with|some o=>some o|none=>G wt)=none;rw[F'r wt _ hw3 gw];exact gw
  rw[ya nrw,ya nlr];exact s4 _ _ hr3;rw[reverse_append];exact fi (ye a2' fun _ _ h=>h.mono sGG) (q8p (ye ent fun _ _ h=>h.mono sFG'));rw[eall,flatMap_cons,List.flatMap_append,ei];simp;rcases mem_append.mp he with he|he
  ·obtain⟨⟨j,ej⟩,hm⟩:=Rj he;have d1:=yn hm;have z1:=mF hm;simp only[dp1]at d1;simp only[Ga]at z1;rw[ej];simp
   lia
  exact bd e' (mem_cons_of_mem _ he)
noncomputable def pF (T0:Str) (R0:List (Str×Pat)) (e:Plc):Bool:=(decide (e.1=[])&&decide (e.2.1≠T0))||!okN R0 e.2.1 (Hb e.2.2)
mutual
theorem q8f (T0:Str)(R0:List (Str×Pat)):∀(p:AB)(i0:List Nat),i0≠[]->((pC i0 p).filter (pF T0 R0)).map (·.1)=rD R0 i0 p
 |.txt _,_,_=>by simp[pC,rD]
 |.tup n ps,i0,h=>by
  have h1:=vo T0 R0 ps i0 0;simp only[pC,rD,filter_cons];have e:pF T0 R0 (i0,n,ps) = !okN R0 n (Hb ps):=by simp[pF,h]
  rw[e];cases okN R0 n (Hb ps)<;>simp[h1]
theorem vo (T0:Str)(R0:List (Str×Pat)):∀(ps:List AB)(i0:List Nat)(k:Nat),((qF i0 k ps).filter (pF T0 R0)).map (·.1)=tD R0 i0 k ps
 | [],_,_=>by simp[qF,tD]
 |p::ps,i0,k=>by
  have h1:=q8f T0 R0 p (i0++[k]) (by simp);have h2:=vo T0 R0 ps i0 (k+1);simp only[qF,tD,filter_append,map_append,h1,h2]
end
mutual
theorem j6n (R0:List (Str×Pat)):∀(p:AB)(i0 q:List Nat),i0≠[]->q∈rD R0 i0 p->q≠[]
 |.txt _,_,_,_,h=>by simp[rD]at h
 |.tup n ps,i0,q,hp,h=>by
  simp only[rD]at h;rcases mem_append.mp h with h|h
  ·split at h;cases h;simp at h;subst h;exact hp
  exact wo R0 ps i0 0 q h
theorem wo (R0:List (Str×Pat)):∀(ps:List AB)(i0:List Nat)(k:Nat)(q:List Nat),q∈tD R0 i0 k ps->q≠[]
 | [],_,_,_,h=>by simp[tD]at h
 |p::ps,i0,k,q,h=>by
  simp only[tD]at h;rcases mem_append.mp h with h|h;exact j6n R0 p _ q (by simp) h;exact wo R0 ps i0 (k+1) q h
end
def j5h (T0:Str)(R0:List (Str×Pat))(n:Str)(ps:List AB):((pC [] (.tup n ps)).filter (pF T0 R0)).map (·.1)=x8 T0 R0 n ps:=by
 have h1:=vo T0 R0 ps [] 0;have h2:=wo R0 ps [] 0;unfold x8;simp only[pC,rD,filter_cons];have e:pF T0 R0 ([],n,ps)=(decide (n≠T0)||!okN R0 n (Hb ps)):=by simp[pF]
 rw[e];by_cases ho:okN R0 n (Hb ps)=true
 ·by_cases hn:n=T0;subst hn;simp[h1,ho];simp only[hn,ho,ne_eq,not_false_eq_true,decide_true,Bool.true_or,if_true,map_cons,h1,nil_append,true_and];rw[if_pos];intro z;cases hf:tD R0 [] 0 ps with
  |nil=>rw[hf]at z;cases z
  |cons a r =>
   rw[hf]at z;have:a=[]:=by simpa using z
   exact h2 a (by rw[hf];exact mem_cons_self) this
 simp[ho,h1]
mutual
theorem Au {e:Plc}:∀{p:AB}{i0:List Nat},e∈pC i0 p->xa e.2.2+1<=Ga p
 |.txt _,_,h=>by simp[pC]at h
 |.tup n ps,i0,h=>by
  simp only[pC]at h;simp only[Ga];rcases mem_cons.mp h with rfl|h;show xa ps+1<=_;lia;have:=Bu (ps:=ps) h;lia
theorem Bu {e:Plc}:∀{ps:List AB}{i0:List Nat}{k:Nat},e∈qF i0 k ps->xa e.2.2+1<=xa ps
 | [],_,_,h=>by simp[qF]at h
 |p::ps,i0,k,h=>by
  simp only[qF]at h;simp only[xa];rcases mem_append.mp h with h|h;have:=Au (p:=p) h;lia;have:=Bu (ps:=ps) h;lia
end
def x9j(h:IB R as bs)(m:∀a b,R a b->S (g a) b):IB S (as.map g) bs:=by
 induction h with
 |nil=>exact .nil
 |cons r _ ih=>exact .cons (m _ _ r) ih
def ifS{D:GC}(h:c σ H fun b H1=>if b=true then t D σ H1 else u D σ H1):tIfS c t u D σ H:=h
def FltAt (H0 H':Hp)(r:Addr)(q:List Nat)(v:V):Prop:=∃p,v=.ref p/\H0 p=none/\p≠r/\H' p=some (.lst (cF q))
def Cu:Sp:=fun vs H Q _=>∃(T0:Str)(R0:List (Str×Pat))(n:Str)(ps:List AB)(vf vp:V),vs=[vf,vp]/\Rep H (kb T0 R0) vf/\Rep H (pD (.tup n ps)) vp/\LB T0 R0/\dpL ps<=99/\xa ps<=1000000 /\
 ∀r pv H',H r=none->BB H H'->H' r=some (.lst pv)->IB (FltAt H H' r) (x8 T0 R0 n ps) pv->Q (.ref r) H'
def q1j(U:AE P w base K mg)
  (u5c:FE U CX0 25 U.u2n (spD Vn))(u5e:FE U CX0 29 U.u3m (spD bu))(u2e:FE U CX0 2 U.u0i zu)(u5r:FE U CX0 3 U.u4i (spD ai)) :
  FE U CX0 30 U.u3o Cu:=by
 refine (En U.u3o).F.ok Lg (fun vs H Q E h=>?_) (fun cdv A V0 s H vs Q E hr h=>?_);obtain⟨_,_,_,_,_,_,rfl,_⟩:=h;rfl;obtain⟨T0,R0,n,ps,vf,vp,rfl,rf,rp,ok,hdp,hsz,q⟩:=h;have hu:=wb hr;refine⟨_,(Ra (Vb (zb u5c (En U.u2n) (Aa (pv 0) Da)))
  (Ra (Cb (i:=2) Lg.nd rfl (Or.inl rfl) (zb u5e (En U.u3m) (Aa (Bb Eb (pv 0) Ab (fun _ _=>rfl)) Da)))
  (Ra (Cb (i:=3) Lg.nd rfl (Or.inl rfl) (ac Da))
  (Ra (Re PassesOwn.never rfl (ze (zb u2e (En U.u0i) (Aa (pv 1) Da))) (ui rfl (kg (jd (i:=4) Lg.nd rfl (Or.inl rfl)) (kg (jd (i:=5) Lg.nd rfl (Or.inl rfl)) qi))) (Ra (Cb (i:=6) Lg.nd rfl (Or.inl rfl) (oi (og rg (pv 4) (ac Da) (Ha _)) (uk (og lf (Bb Eb (pv 5) Ab (fun _ _=>rfl)) (Bb Eb (pv 0) Ab (fun _ _=>rfl)) (Ha _)))))
  (Ya (vc (PW.pt (pw_or (Zc (pv 6)) (Zo (sk (Zc (zb u5r (En U.u4i) (Aa (pv 5) (Aa (pv 2) Da)))))))) (Ya (Vb (Be PySem.F.slot_list_append PySem.F.type_list_append qf (pv 3) (Aa (pv 4) Da)))) dc))))
  (Ya (Sc (pv 3))))))),?_⟩
 have sz:=Oa;walk_at "rs";refine Dd (ds:=[kb T0 R0]) (Qd:=fun b d _=>d=.non) ⟨_,_,rfl,rf,rfl⟩ ⟨T0,R0,rfl,ok,rfl⟩ fun b1 d1 δ1 v1 H1 s1 ed1 rd1=>?_;obtain⟨af,xs,rfl,haf,y1,r1,rfl,e1,y2,r2,rfl,e2,e3⟩:=rf;cases(show r2=[] from e3);cases(show y1=.str T0 from e1);refine⟨af,rfl,_,s1 _ _ haf,_,tF,?_⟩;refine Dd (ds:=[.lst (R0.map gc)]) (Qd:=fun b d _=>d=.dct (Pe R0)) ⟨_,_,rfl,Rep.mono s1 _ _ e2,rfl⟩ ⟨T0,R0,rfl,ok,rfl⟩ fun b2 d2 δ2 vk H2 s2 ed2 rd2=>?_;subst ed2;refine⟨by lia,fun r hr0=>?_⟩;have s12:BB H H2:=s1.trans s2;have sC:BB H2 (upd H2 r (HO.lst [])):=BB.of_new hr0;have hrH:H r=none:=s12.free hr0;refine⟨n,ps,vp,H2,rfl,sC,Rep.mono s12 _ _ rp,hdp,hsz,fun rt ts G H3 hrt sC3 sG sG3 nwG grt h3 ent=>?_⟩;have nrr:r≠rt:=fun z=>by rw[<-z,z0g]at hrt;cases hrt
 have Gr:G r=none:=by
  cases z:G r with
  |none=>rfl
  |some o=>have:=nwG r o z hr0;rw[z0g]at this;cases this
 have hl3:=Xg ent;have ln:=qo (.tup n ps) [];simp only[Ga]at ln;refine⟨rt,rfl,⟨_,SqL.of h3⟩,uf (xs:=ts) (fun i σ H'=>∃pv x4 x5 x6,σ=[some (.ref af),some vp,some vk,some (.ref r),x4,x5,x6]/\(∀b o,b≠r->H3 b=some o->H' b=some o)/\H' r=some (.lst pv)/\IB (fun(e:Plc) v=>∃p,v=.ref p/\G p=some (.lst (cF e.1))/\upd H2 r (HO.lst []) p=none) (((pC [] (.tup n ps)).take i).filter (pF T0 R0)) pv) ?_ (fun i σ H' _ h=>?_) (fun i x σ H' hx h=>?_) fun σ H' h=>?_⟩;exact⟨[],none,none,none,rfl,fun b o _ e=>e,sC3 _ _ z0g,.nil⟩;obtain⟨_,_,_,_,_,k,_⟩:=h;exact SqL.of (k _ _ (Ne.symm nrr) h3)
 ·obtain⟨pv,x4,x5,x6,rfl,kp,hr',a2⟩:=h;obtain⟨e,ee,a,p,v,rfl,ga,gp,hp,rv⟩:=q7u ent hx;have hi:i<(pC [] (.tup n ps)).length:=(List.getElem?_eq_some_iff.mp ee).1;have et:(pC [] (.tup n ps)).take (i+1)=(pC [] (.tup n ps)).take i++[e]:=by rw[List.take_succ,ee];rfl
  rw[et,filter_append];have toH:BB G H':=fun b o z=>kp b o (fun y=>by rw[y,Gr]at z;cases z) (sG3 _ _ z);have sH':BB H2 H':=sG.trans toH;have pvl:pv.length<=1000001:=by
   rw[<-Xg a2];refine le_trans (length_filter_le _ _) ?_;rw[length_take];lia
  have npr:p≠r:=fun z=>by rw[z,z0g]at hp;cases hp
  have fin:∀(b6:Bool)(H5:Hp)(D:GC),BB H' H5->b6=(decide (e.1=[])&&decide (e.2.1≠T0)) ->
    (∀σ H'',(∃pv x4 x5 x6,σ=[some (.ref af),some vp,some vk,some (.ref r),x4,x5,x6]/\(∀b o,b≠r->H3 b=some o->H'' b=some o)/\H'' r=some (.lst pv)/\IB (fun(e:Plc) v=>∃p,v=.ref p/\G p=some (.lst (cF e.1))/\upd H2 r (HO.lst []) p=none) (((pC [] (.tup n ps)).take i).filter (pF T0 R0)++[e].filter (pF T0 R0)) pv)->D.nx σ H'') ->
    tIfS (tOr (tB (tVar 6)) (tNot (tB (z8n (spD ai) [] E0 (y0i (tVar 5) (y0i (tVar 2) tNil)))))) (x7f (tLM z5s (tVar 3) (y0i (tVar 4) tNil))) q4s D [some (.ref af),some vp,some vk,some (.ref r),some (.ref p),some v,some (.bl b6)] H5:=by
   intro b6 H5 D s5 e6 hD;have add:∀(H6:Hp),BB H' H6->pF T0 R0 e=true->x7f (tLM z5s (tVar 3) (y0i (tVar 4) tNil)) D [some (.ref af),some vp,some vk,some (.ref r),some (.ref p),some v,some (.bl b6)] H6:=by
    intro H6 s6 hb;walk_at "rs";refine⟨⟨_,s6 _ _ hr'⟩,_,s6 _ _ hr',by lia,hD _ _ ⟨pv++[.ref p],_,_,_,rfl,fun b o nb z=>by rw[ya nb];exact s6 _ _ (kp b o nb z),z0g,?_⟩⟩;rw[List.filter_cons_of_pos hb];exact fi a2 (.cons ⟨p,rfl,gp,hp⟩ .nil)
   have skip:∀(H6:Hp),BB H' H6->pF T0 R0 e=false->D.nx [some (.ref af),some vp,some vk,some (.ref r),some (.ref p),some v,some (.bl b6)] H6:=by
    intro H6 s6 hb;refine hD _ _ ⟨pv,_,_,_,rfl,fun b o nb z=>s6 _ _ (kp b o nb z),s6 _ _ hr',?_⟩;rw[List.filter_cons_of_neg (by rw[hb];simp),List.filter_nil,append_nil];exact a2
   refine ifS ?_;refine⟨_,rfl,b6,rfl,?_⟩;cases b6 with
   |true=>exact aF (aF (add H5 s5 (by unfold pF;rw[<-e6];rfl)))
   |false =>
    have eb:pF T0 R0 e = !okN R0 e.2.1 (Hb e.2.2):=by unfold pF;rw[<-e6];rfl
    refine kB ?_;show z8n (spD ai) [] E0 _ _ H5 _;refine⟨_,rfl,_,rfl,?_⟩;show spD ai [v,vk] H5 _ E0;refine Dd (ds:=[pD (.tup e.2.1 e.2.2),.dct (Pe R0)]) (Qd:=fun b d _=>d=.bl (okN R0 e.2.1 (Hb e.2.2))) ⟨_,_,rfl,Rep.mono (toH.trans s5) _ _ rv,_,_,rfl,Rep.mono (sH'.trans s5) _ _ rd2,rfl⟩
     ⟨R0,e.2.1,e.2.2,rfl,ok.nd,?_,rfl⟩ fun b3 d3 δ3 v3 H6 s6 ed3 rd3=>?_
    ·have:=Au (mem_of_getElem? ee);have:=nc e.2.2;simp only[Ga] at *
     lia
    subst ed3;cases(show v3=.bl _ from rd3);refine⟨_,rfl,?_⟩;cases hk:okN R0 e.2.1 (Hb e.2.2) with
    |true=>exact kB (skip H6 (s5.trans s6) (by rw[eb,hk];rfl))
    |false=>exact aF (add H6 (s5.trans s6) (by rw[eb,hk];rfl))
  refine⟨a,_,rfl,SqT.of (toH _ _ ga),rfl,.ref p,_,rfl,v,_,rfl,rfl,?_⟩;refine⟨_,rfl,(by show 0<=sizeLine;lia),fun z hz=>⟨p,rfl,z,rfl,_,(by rw[ya (Sa (toH _ _ gp) hz)];exact toH _ _ gp),_,z0g,lt_of_le_of_lt (le_add_right _ 100) hu,?_⟩⟩;have s5:BB H' (upd H' z (HO.lst [])):=BB.of_new hz;by_cases h0:e.1=[]
  ·obtain⟨av,xs,rfl,hav,w1,r1,rfl,g1,w2,r2,rfl,g2,g3⟩:=id rv;cases(show w1=.str e.2.1 from g1);refine .inr ⟨by rw[h0];rfl,⟨0,fun i x y e1=>?_,?_⟩,true,rfl,aF ⟨_,rfl,av,rfl,0,rfl,_,s5 _ _ (toH _ _ hav),_,aC,_,rfl,af,rfl,0,rfl,_,s5 _ _ (sH' _ _ (s12 _ _ haf)),_,aC,rfl,?_⟩⟩;rw[h0]at e1;simp[cF]at e1;exact lt_of_le_of_lt (by lia) hu;have ed:(!decide (V.str e.2.1=V.str T0))=(decide (e.1=[])&&decide (e.2.1≠T0)):=by simp[h0]
   exact fin _ _ _ s5 ed fun σ H'' h=>h
  exact .inl ⟨fun z=>h0 (by simpa[cF] using z),false,rfl,kB (fin false _ _ s5 (by simp[h0]) fun σ H'' h=>h)⟩
 obtain⟨pv,x4,x5,x6,rfl,kp,hr',a2⟩:=h;rw[<-hl3,take_length]at a2;refine⟨_,rfl,q r pv H' hrH (fun b o z=>kp b o (fun y=>by rw[y,hrH]at z;cases z) (sC3 _ _ (sC _ _ (s12 _ _ z)))) hr' ?_⟩;rw[<-j5h];refine x9j a2 fun e v h=>?_;obtain⟨p,rfl,gp,hp⟩:=h;have npr:p≠r:=fun z=>by rw[z,z0g]at hp;cases hp
 exact⟨p,rfl,s12.free (sC.free hp),npr,kp p _ npr (sG3 _ _ gp)⟩
def Du:Sp:=fun vs H Q _=>∃(T0:Str)(R0:List (Str×Pat))(n:Str)(ps:List AB)(vf vp:V),vs=[vf,vp]/\Rep H (kb T0 R0) vf/\Rep H (pD (.tup n ps)) vp/\LB T0 R0/\dpL ps<=99/\xa ps<=1000000 /\
 ∀H',BB H H'->Q (.bl (decide (x8 T0 R0 n ps=[]))) H'
def j7t(U:AE P w base K mg)(u5f:FE U CX0 30 U.u3o Cu):FE U CX0 31 U.u2o Du:=by
 refine (En U.u2o).F.ok nA (fun vs H Q E h=>?_) (fun cdv A V0 s H vs Q E hr h=>?_);obtain⟨_,_,_,_,_,_,rfl,_⟩:=h;rfl;obtain⟨T0,R0,n,ps,vf,vp,rfl,rf,rp,ok,hdp,hsz,q⟩:=h;have hu:=wb hr;refine⟨_,(Ya (Sc (og rg (zb u5f (En U.u3o) (Aa (pv 0) (Aa (pv 1) Da))) (ac Da) (Ha _)))),?_⟩;have sz:=Oa;walk_at "rs";refine⟨T0,R0,n,ps,vf,vp,rfl,rf,rp,ok,hdp,hsz,fun r pv H1 hr0 s1 hr1 a2=>?_⟩;refine⟨by lia,fun z hz=>⟨r,rfl,pv,by rw[ya (Sa hr1 hz)];exact hr1,lt_of_le_of_lt (le_add_right _ 100) hu,?_⟩⟩;have l:=Xg a2;have s2:BB H (upd H1 z (.lst [])):=s1.trans (BB.of_new hz);cases hpv:pv with
 |nil =>
  rw[hpv]at l;have e:x8 T0 R0 n ps=[]:=length_eq_zero_iff.mp l;refine .inr ⟨rfl,⟨0,fun i x y e1=>by simp at e1,lt_of_le_of_lt (by lia) hu⟩,?_⟩;have:=q _ s2;rw[e]at this;exact this
 |cons a b =>
  rw[hpv]at l;have e:x8 T0 R0 n ps≠[]:=fun z=>by rw[z]at l;simp at l
  refine .inl ⟨by simp,?_⟩;have:=q _ s2;rw[decide_eq_false e]at this;exact this
noncomputable def gi (ps:List AB):D->Bool
 |.int k=>match ps[k.toNat]? with|some (.tup n _)=>!decide (n = "*")|_=>false
 |_=>false
def Eu (n:Nat):RD:=fun δ Q=>∃(ps:List AB)(x:Int),δ=[.fz (.lst (pDs ps)),.fz (.int x)]/\dpL ps<n/\xa ps<=1000 /\
 ∀ps':List AB,xa ps' = xa ps+1->stL ps' = stL ps+1->dpL ps' <= dpL ps+1->Q true (.lst (pDs ps')) [.no,.no]
def x7b (U:AE P w base K mg):∀n,FE U CX0 (n+1) U.u0l (spD (Eu n)):=by
 intro n;induction n with
 |zero=>exact Fc fun δ Q h=>by obtain⟨_,_,_,h,_⟩:=h;exact not_lt_zero _ h
 |succ n u3e =>
 refine VL.Fun.dok (En U.u0l).F yj (by walk_at "a") (by decide) ?_;walk_at "f";obtain⟨ps,x,rfl,hdp,hs,q⟩:=h;have hu:=wb hr;refine⟨_,(ka (Nf 2 yj.nd tg1 (ke rfl U.T.z_range (aa (dlL 0 U.T.z_len) ja)) (fun _=>(Ee (aG (Cf (fe (Mc (dII U.T.kit U.T.z_isinstance (xL 1 (dv 0)) U.T.z_str boot_str))) (Bf (La wg lf (Ce Pi Eb (xL 1 (dv 0)) ba (fun _ _=>rfl)) Fa (Ha _))))))) (fun _=>(dv 0)))
  (ka (Ja (aG (Cf (La gb bb (za Wa Va (dv 1) ba) ba (Ha _)) (Bf (Ti (Bh hu) Ji (pv 2) (Ia ja) (Ha _))))) (ka (dq 3 yj.nd (xL 2 (za Wa Va (za Nb Mb (dv 1) ba) (dlL 2 U.T.z_len))))
  (ma (Ea (za Sb ub (za Sb ub (Nc (pv 0) Bc (bc (dv 3))) (Ia (aa (Xa (aa (Ce Pi Eb (xL 0 (dv 3)) ba (fun _ _=>rfl)) (aa (Ka u3e (En U.u0l) (aa (Ce Pi Eb (xL 0 (dv 3)) ba (fun _ _=>rfl)) (aa (za Nb Mb (dv 1) ba) ja))) ja))) ja))) (Nc (pv 0) (bc (za Fb Db (dv 3) ba)) Bc))))) Pa)
  (ka (dq 3 yj.nd (za Wa Va (za Nb Mb (dv 1) ba) (za Fb Db (dlL 0 U.T.z_len) ba)))
  (ma (Ea (za Sb ub (za Sb ub (Nc (pv 0) Bc (bc (dv 3))) (Ia (aa (Xa (aa Fa (aa (Ia ja) ja))) ja))) (Nc (pv 0) (bc (dv 3)) Bc))))))),?_⟩
 have sz:=Oa;have K0:=Cc ps;have hle:=nc ps;w_how;rw[K0];refine⟨by lia,by lia,Wl (gi ps) id (by rw[j6m];lia) (fun d hd P hP=>?_) (fun d hd hc P hP=>?_) ?_⟩
 ·obtain⟨k,hk,rfl⟩:=zn hd;have hk':k<ps.length:=by lia
  have e:=xn hk';have eo:gi ps (.int k)=match ps[k] with | .tup n _=>!decide (n = "*")|_=>false:=by
   simp only[gi,toNat_natCast,getElem?_eq_getElem hk'];cases ps[k]<;>rfl
  rw[eo]at hP;w_how;refine⟨_,e,?_⟩;cases hp:ps[k] with
  |txt z =>
   rw[hp]at hP e;simp only[pD];w_how;exact hP
  |tup n qs =>
   rw[hp]at hP e;simp only[pD]at e ⊢;w_how;refine⟨_,e,?_⟩;w_how;exact hP
 obtain⟨k,hk,rfl⟩:=zn hd;w_how;exact hP;rw[map_id];generalize hin:filter (gi ps) (sB 0 (Int.toNat ↑ps.length))=ins;w_how;have fin:(0<(2:Int)/\(natAbs 2).log2<9000)/\0<((pDs ps).length:Int)+1/\0<=sizeLine/\2<=sizeLine/\1<=sizeLine/\(oB (pDs ps) none (some (x / 2 % (((pDs ps).length:Int)+1)))).length+1<=sizeLine /\
   (oB (pDs ps) none (some (x / 2 % (((pDs ps).length:Int)+1)))++[D.tup [D.str "*",D.lst []]]).length+(oB (pDs ps) (some (x / 2 % (((pDs ps).length:Int)+1))) none).length<=sizeLine /\
   Qd true (D.lst (oB (pDs ps) none (some (x / 2 % (((pDs ps).length:Int)+1)))++[D.tup [D.str "*",D.lst []]]++oB (pDs ps) (some (x / 2 % (((pDs ps).length:Int)+1))) none)) [.no,.no]:=by
  have h0:0<((pDs ps).length:Int)+1:=by lia
  have h1:=xb (a:=x / 2) h0;have h2:=yb (a:=x / 2) h0;obtain⟨k,hk⟩:=Int.eq_ofNat_of_zero_le h1;rw[hk]at h2 ⊢;rw[Ze,Fg];have hk':k<=ps.length:=by lia
  have e:take k (pDs ps)++[D.tup [D.str "*",D.lst []]]++drop k (pDs ps)=pDs (ps.take k++[.tup "*" []]++ps.drop k):=by
   simp only[Xc,map_append,map_take,map_drop];rfl
  have l1:(take k (pDs ps)).length<=ps.length:=by rw[length_take];lia
  have l2:(drop k (pDs ps)).length<=ps.length:=by rw[length_drop];lia
  refine⟨⟨by decide,by decide⟩,h0,by lia,by lia,by lia,by lia,by simp only[length_append,length_cons,length_nil];lia,?_⟩;rw[e];have ez:=congrArg xa (take_append_drop k ps);have es:=congrArg stL (take_append_drop k ps);have ed:=congrArg dpL (take_append_drop k ps);rw[Ad]at ez;rw[Ug]at es;rw[ue]at ed;refine q _ ?_ ?_ ?_;simp only[Ad,xa,Ga];lia;simp only[Ug,stL,st1,if_true];lia;simp only[ue,dpL,dp1];exact mx3 (le_succ_of_le (ed ▸ le_max_left _ _)) (succ_le_succ (zero_le _)) (le_succ_of_le (ed ▸ le_max_right _ _))
 refine⟨by decide,jB (fun _=>⟨by lia,jB (fun hne=>?_) fun _=>fin⟩) fun _=>fin⟩;have hl0:0<(ins.length:Int):=by cases ins with
  |nil=>cases hne
  |cons a r=>simp
 obtain⟨d,hd,e⟩:=Ye (xs:=ins) (i:=x / 2 % (ins.length:Int)) (xb hl0) (yb hl0);rw[<-hin]at hd;obtain⟨hd1,hd2⟩:=mem_filter.mp hd;obtain⟨k,hk,rfl⟩:=zn hd1;have hk':k<ps.length:=by lia
 have ep:=xn hk';refine⟨⟨by decide,by decide⟩,hl0,_,e,?_⟩;obtain⟨nm,qs,hp,hn⟩:∃nm qs,ps[k]=.tup nm qs/\nm ≠ "*":=by
  simp only[gi,toNat_natCast,getElem?_eq_getElem hk']at hd2;cases hp:ps[k] with
  |txt z=>rw[hp]at hd2;cases hd2
  |tup nm qs=>rw[hp]at hd2;exact⟨nm,qs,rfl,by simpa using hd2⟩
 rw[hp]at ep;simp only[pD]at ep;have esplit:ps=ps.take k++(.tup nm qs::ps.drop (k+1)):=by
  rw[<-hp];simp
 have ez:=congrArg xa esplit;have es:=congrArg stL esplit;have ed:=congrArg dpL esplit;rw[Ad]at ez;rw[Ug]at es;rw[ue]at ed;simp only[xa,Ga]at ez;simp only[stL,st1,hn,if_false]at es;simp only[dpL,dp1]at ed;w_how;refine⟨_,ep,?_⟩;w_how;refine⟨_,ep,?_⟩;w_how;refine⟨⟨by decide,by decide⟩,qs,x / 6,rfl,by first|exact mxq ed hdp|(clear ed;lia),by first|exact mxq ed hdp|(clear ed;lia),fun qs' z1 z2 z3=>?_⟩;w_how;have ek:((k:Int)+1)=((k+1:Nat):Int):=by lia
 rw[ek,Ze,Fg];have l1:(take k (pDs ps)).length<=ps.length:=by rw[length_take];lia
 have l2:(drop (k+1) (pDs ps)).length<=ps.length:=by rw[length_drop];lia
 have e:take k (pDs ps)++[D.tup [D.str nm,D.lst (pDs qs')]]++drop (k+1) (pDs ps)=pDs (ps.take k++[.tup nm qs']++ps.drop (k+1)):=by
  simp only[Xc,map_append,map_take,map_drop,map_cons,map_nil,pD]
 refine⟨by lia,by lia,by lia,by simp only[length_append,length_cons,length_nil];lia,?_⟩;rw[e];refine q _ ?_ ?_ ?_;simp only[Ad,xa,Ga];lia;simp only[Ug,stL,st1,hn,if_false];lia;simp only[ue,dpL,dp1];exact mx3 (le_succ_of_le (mxA ed)) (succ_le_succ (le_trans z3 (mxB ed))) (le_succ_of_le (mxC ed))
noncomputable def Ua (r:Str×List AB):D:=.tup [.str r.1,.lst (pDs r.2)]
noncomputable def fstD:D->D
 |.tup (a::_)=>a
 |d=>d
structure JC (r:Str×List AB):Prop where
 nm:TB r.1
 sz:xa r.2<=40
 st:stL r.2<=1
 dp:dpL r.2<=3
structure YB (fs:List (Str×List AB)):Prop where
 len:fs.length<=6
 nd:(fs.map (·.1)).Nodup
 ok:∀r∈fs,JC r
def x8l:RD:=fun δ Q=>∃(zs:List Str)(ns:List Int)(m:Int),δ=[.fz (.lst (zs.map .str)),.ob true (.lst (ns.map .int)),.fz (.int m)]/\0<=m/\m<=6/\0<zs.length/\(∀z∈zs,TB z) /\
 ∀(fs:List (Str×List AB))(ms:List Int),YB fs->Q true (.lst (fs.map Ua)) [.no,.ob true (.lst (ms.map .int)),.no]
def Fu{x:Int}(h1:dpL ps<n)(h2:xa ps<=1000)(h:∀ps':List AB,xa ps' = xa ps+1->stL ps' = stL ps+1->dpL ps' <= dpL ps+1->Q true (.lst (pDs ps')) [.no,.no]) :
  Eu n [.fz (.lst (pDs ps)),.fz (.int x)] Q:=⟨ps,x,rfl,h1,h2,h⟩
def q9i(U:AE P w base K mg) :
  FE U CX0 6 U.u2b (spD x8l):=by
 have u0g:=Zf U;have u3u:=q7i U 3;have u3e:=x7b U 3;refine VL.Fun.dok (En U.u2b).F re (by walk_at "a") (by decide) ?_;walk_at "f";obtain⟨zs,ns,m,rfl,hm0,hm6,hz,ok,q⟩:=h;have hu:=wb hr;refine⟨_,(ka (dq 3 re.nd (Ia ja))
  (ka (dsF (ke rfl U.T.z_range (aa (dv 2) ja)) (dn 4 re.nd) (ka (dq 5 re.nd (Xb (i:=1) u0g (En U.u0b) (kD (pv 1) Wb)))
  (ka (dq 6 re.nd (Xb (i:=1) u3u (En U.u0z) (bG (dv 0) (kD (pv 1) (bG ba Wb)))))
  (ka (Ja (La gb bb (za Wa Va (dv 5) ba) ba (Ha _)) (ma (dq 6 re.nd (Ia ja))) Pa)
  (ka (Ja (La wg lf (za Wa Va (dv 5) ba) ba (Ha _)) (ma (dq 6 re.nd (Ka u3e (En U.u0l) (aa (dv 6) (aa (za Nb Mb (dv 5) ba) ja))))) Pa)
  (ma (Gb (dAp 3 (Xa (aa (xL 0 (za Wa Va (za Fb Db (za Nb Mb (dv 5) ba) (za de Xd (dv 4) ba)) (dlL 0 U.T.z_len))) (aa (dv 6) ja)))))))))))
  (ka (dq 7 re.nd (Ia ja))
  (ka (dsF (fb (dv 3)) (We (n:=2) rfl (Ac (dn 8 re.nd) (Ac (dn 6 re.nd) Ve))) (ma (Ja (La Ri wf (dv 8) (de_cV tg2 (pv 7) (fun _=>Vc) (fun _=>(dv 0))) rfl) (ma (Gb (dAp 7 (Xa (aa (dv 8) (aa (dv 6) ja)))))) Pa)))
  (ma (Ea (dm 7))))))),?_⟩
 have sz:=Oa;w_how;refine⟨by lia,by lia,by lia,Jf [4,5,6] (fun i δ=>∃(ms:List Int)(rs:List (Str×List AB)),rs.length=i/\(∀r∈rs,JC r)/\δ=[.fz (.lst (zs.map .str)),.ob true (.lst (ms.map .int)),.fz (.int m),.ob false (.lst (rs.map Ua)),.no,.no,.no,.no,.no]) ⟨ns,[],rfl,fun r h=>(by cases h),rfl⟩ ?_ ?_⟩
 ·rintro i δ hi ⟨ms,rs,hl,hr',rfl⟩;w_how;intro x ms1;refine Mt 2 rfl (by decide) hz ok fun ps ms2 hps=>?_;obtain⟨p1,p2,p3⟩:=MC.all 2 ps hps;simp only[szQ]at p1;have hl8:(0:Int)<((List.map D.str zs).length:Int):=by rw[length_map];lia
  w_how;have step:∀qs:List AB,xa qs<=40->stL qs<=1->dpL qs<=3->UC (i:Int) 7/\0<((List.map D.str zs).length:Int)/\∃d,atI (List.map D.str zs) ((x / 4+(i:Int) * 7) % ((List.map D.str zs).length:Int))=some d/\2<=sizeLine/\(List.map Ua rs).length<sizeLine /\
    ∃(ms_1:List Int)(rs_1:List (Str×List AB)),rs_1.length=i+1/\(∀r∈rs_1,JC r)/\([.fz (.lst (zs.map .str)),.ob true (.lst (ms2.map .int)),.fz (.int m),.ob false (.lst (List.map Ua rs++[D.tup [d,D.lst (pDs qs)]])),.no,.no,.no,.no,.no]:List VL.Slot)=[.fz (.lst (zs.map .str)),.ob true (.lst (ms_1.map .int)),.fz (.int m),.ob false (.lst (List.map Ua rs_1)),.no,.no,.no,.no,.no]:=fun qs s1 s2 s3=>by
   obtain⟨d,hd1,e⟩:=Ye (xs:=List.map D.str zs) (i:=(x / 4+(i:Int) * 7) % ((List.map D.str zs).length:Int)) (xb (by lia)) (yb (by lia));obtain⟨nm,hnm,rfl⟩:=mem_map.mp hd1;refine⟨.inl ⟨by lia,by lia⟩,by lia,_,e,by lia,by simp;lia,ms2,rs++[(nm,qs)],by simp[hl],fun r hr2=>?_,by simp[Ua]⟩;rcases mem_append.mp hr2 with h|h;exact hr' r h;have e:r=(nm,qs):=by simpa using h
   subst e;exact⟨ok nm hnm,s1,s2,s3⟩
  refine⟨by decide,jB (fun _=>⟨by lia,by decide,jB (fun _=>⟨⟨by decide,by decide⟩,Fu (ps:=[]) (by simp[dpL]) (by simp[xa]) fun qs' z1 z2 z3=>?_⟩) fun _=>⟨⟨by decide,by decide⟩,step [] (by simp[xa]) (by simp[stL]) (by simp[dpL])⟩⟩) fun _=>⟨by decide,jB (fun _=>⟨⟨by decide,by decide⟩,Fu (by lia) (by lia) fun qs' z1 z2 z3=>?_⟩) fun _=>⟨⟨by decide,by decide⟩,step ps (by lia) (by lia) (by lia)⟩⟩⟩
  ·have k1:xa ([]:List AB)=0:=by simp[xa]
   have k2:stL ([]:List AB)=0:=by simp[stL]
   have k3:dpL ([]:List AB)=0:=by simp[dpL]
   w_how;exact⟨⟨by decide,by decide⟩,step qs' (by lia) (by lia) (by lia)⟩
  w_how;exact⟨⟨by decide,by decide⟩,step qs' (by lia) (by lia) (by lia)⟩
 rintro δ ⟨ms,rs,hl,hr',rfl⟩;w_how;refine⟨by lia,Jb [8,6] (fun r δ=>∃pre l0 fs,rs=pre++l0/\r=l0.map Ua/\fs.length<=pre.length/\(fs.map (·.1)).Nodup/\(∀r∈fs,r∈rs)/\δ=[.fz (.lst (zs.map .str)),.ob true (.lst (ms.map .int)),.fz (.int m),.fz (.lst (rs.map Ua)),.no,.no,.no,.ob false (.lst (fs.map Ua)),.no]) ⟨[],rs,[],rfl,rfl,le_refl _,nodup_nil,fun r h=>(by cases h),rfl⟩ ?_ ?_⟩
 ·rintro d r δ ⟨pre,l0,fs,e1,e2,h1,h2,h3,rfl⟩;cases l0 with
  |nil=>cases e2
  |cons r0 l0 =>
   obtain⟨nm,row⟩:=r0;cases e2;simp only[Ua];w_how;have hfl:fs.length<=6:=by
    have:=congrArg List.length e1;simp at this;lia
   refine compV2 fstD (by simp;lia) rfl (fun d hd=>?_) (fun a b hab P hP=>?_) ?_;obtain⟨r1,_,rfl⟩:=mem_map.mp hd;exact⟨_,_,rfl⟩;w_how;exact hP;have e:List.map fstD (List.map Ua fs)=(fs.map (·.1)).map .str:=by simp[Ua,fstD]
   rw[e];w_how;refine jB (fun hn=>⟨by lia,by simp;lia,pre++[(nm,row)],l0,fs++[(nm,row)],by simp[e1],rfl,by simp;lia,?_,?_,by simp[Ua]⟩) fun _=>⟨pre++[(nm,row)],l0,fs,by simp[e1],rfl,by simp;lia,h2,h3,rfl⟩;rw[map_append];exact oq h2 (by simpa using hn);intro r hr2;rcases mem_append.mp hr2 with h|h;exact h3 r h;have:r=(nm,row):=by simpa using h
   rw[this,e1];simp
 rintro δ ⟨pre,l0,fs,e1,e2,h1,h2,h3,rfl⟩;w_how;refine q fs ms ⟨?_,h2,fun r hr2=>hr' r (h3 r hr2)⟩;have:=congrArg List.length e1;simp at this;lia
mutual
noncomputable def Qc (a0:List AB):AB->List AB
 |.txt s=>[.txt s]
 |.tup n ps=>if n = "*" then a0 else[.tup n (Ib a0 ps)]
noncomputable def Ib (a0:List AB):List AB->List AB
 | []=>[]
 |p::ps=>Qc a0 p++Ib a0 ps
end
def yo (a0 ps qs:List AB):Ib a0 (ps++qs)=Ib a0 ps++Ib a0 qs:=by
 induction ps with
 |nil=>rfl
 |cons p ps ih=>simp[Ib,ih]
mutual
theorem x7o (a0:List AB):∀p:AB,xa (Qc a0 p)<=Ga p+st1 p * xa a0
 |.txt s=>by simp[Qc,xa,Ga]
 |.tup n ps=>by
  have:=Sj a0 ps;by_cases h:n = "*";simp only[Qc,h,if_true,st1,Ga,add_mul,Nat.one_mul];lia;simp only[Qc,h,if_false,st1,Ga,xa,zero_add];lia
theorem Sj (a0:List AB):∀ps:List AB,xa (Ib a0 ps)<=xa ps+stL ps * xa a0
 | []=>by simp[Ib,xa]
 |p::ps=>by
  have h1:=x7o a0 p;have h2:=Sj a0 ps;simp only[Ib,Ad,xa,stL,add_mul]
  lia
end
mutual
theorem q7q (a0:List AB):∀p:AB,dpL (Qc a0 p)<=dp1 p+dpL a0
 |.txt s=>by simp[Qc,dpL,dp1]
 |.tup n ps=>by
  have:=zo a0 ps;by_cases h:n = "*";simp only[Qc,h,if_true,dp1];lia;simp only[Qc,h,if_false,dp1,dpL];lia
theorem zo (a0:List AB):∀ps:List AB,dpL (Ib a0 ps)<=dpL ps+dpL a0
 | []=>by simp[Ib,dpL]
 |p::ps=>by
  have h1:=q7q a0 p;have h2:=zo a0 ps;simp only[Ib,ue,dpL]
  lia
end
noncomputable def Ub (fs:List (Str×List AB)) (n:Str):Option (List AB):=(fs.find? fun r=>decide (r.1=n)).map (·.2)
mutual
noncomputable def jG (fs:List (Str×List AB)):AB->List AB
 |.txt s=>[.txt s]
 |.tup n ps=>if n = "*" then[.tup "*" []] else match Ub fs n with|some row=>Ib (bC fs ps) row|none=>[.tup n (bC fs ps)]
noncomputable def bC (fs:List (Str×List AB)):List AB->List AB
 | []=>[]
 |p::ps=>jG fs p++bC fs ps
end
def Ao (fs:List (Str×List AB))(ps qs:List AB):bC fs (ps++qs)=bC fs ps++bC fs qs:=by
 induction ps with
 |nil=>rfl
 |cons p ps ih=>simp[bC,ih]
def Tj(h:Ub fs n=some row):∃r∈fs,r.2=row/\r.1=n:=by unfold Ub at h;obtain⟨r,e,rfl⟩:=map_eq_some_iff.mp h;exact⟨r,List.mem_of_find?_eq_some e,rfl,by simpa using List.find?_some e⟩
mutual
theorem Gu {fs:List (Str×List AB)}(ok:YB fs):∀p:AB,xa (jG fs p)<=41 * Ga p/\dpL (jG fs p)<=3 * dp1 p
 |.txt s=>by simp[jG,xa,Ga,dpL,dp1]
 |.tup n ps=>by
  obtain⟨h1,h2⟩:=ii ok ps;by_cases h:n = "*";simp only[jG,h,if_true,xa,Ga,dpL,dp1];lia;simp only[jG,h,if_false];cases e:Ub fs n with
  |none=>simp only[xa,Ga,dpL,dp1];lia
  |some row =>
   obtain⟨r,hr,rfl,_⟩:=Tj e;obtain⟨_,s1,s2,s3⟩:=ok.ok r hr;have f1:=Sj (bC fs ps) r.2;have f2:=zo (bC fs ps) r.2;have f3:stL r.2 * xa (bC fs ps)<=1 * xa (bC fs ps):=mul_le_mul_right _ s2;simp only[Ga,dp1];lia
theorem ii {fs:List (Str×List AB)}(ok:YB fs):∀ps:List AB,xa (bC fs ps)<=41 * xa ps/\dpL (bC fs ps)<=3 * dpL ps
 | []=>by simp[bC,xa,dpL]
 |p::ps=>by
  have h1:=Gu ok p;have h2:=ii ok ps;simp only[bC,Ad,xa,ue,dpL];exact⟨by rw[Nat.mul_add];exact Nat.add_le_add h1.1 h2.1,max_le.mpr ⟨le_trans h1.2 (mul_le_mul_left _ (le_max_left _ _)),le_trans h2.2 (mul_le_mul_left _ (le_max_right _ _))⟩⟩
end
def x4a (n:Nat):RD:=fun δ Q=>∃ps a0:List AB,δ=[.fz (.lst (pDs ps)),.fz (.lst (pDs a0))]/\dpL ps<n/\xa ps+stL ps * xa a0<=13000000/\Q true (.lst (pDs (Ib a0 ps))) [.no,.no]
def x8m (U:AE P w base K mg):∀n,FE U CX0 (n+1) U.u1i (spD (x4a n)):=by
 intro n;induction n with
 |zero=>exact Fc fun δ Q h=>by obtain⟨_,_,_,h,_⟩:=h;exact not_lt_zero _ h
 |succ n u3p =>
 refine VL.Fun.dok (En U.u1i).F zj (by walk_at "a") (by decide) ?_;walk_at "f";obtain⟨ps,a0,rfl,hdp,hs,q⟩:=h;refine⟨_,(ka (dq 2 zj.nd (Ia ja))
  (ka (dsF (fb (dv 0)) (dn 3 zj.nd) (ma (Ja (Mc (dII U.T.kit U.T.z_isinstance (dv 3) U.T.z_str boot_str)) (ma (Gb (dAp 2 (dv 3)))) (ma (Ja (La gb bb (xT 3 ba) Fa (Ha _)) (ma (dq 2 zj.nd (za Sb ub (dv 2) (dv 1)))) (ma (Gb (dAp 2 (Xa (aa (xT 3 ba) (aa (Ka u3p (En U.u1i) (aa (xT 3 ba) (aa (dv 1) ja))) ja)))))))))))
  (ma (Ea (dm 2))))),?_⟩
 have sz:=Oa;w_how;refine⟨by lia,Jb [3] (fun r δ=>∃pre l0,ps=pre++l0/\r=pDs l0/\δ=[.fz (.lst (pDs ps)),.fz (.lst (pDs a0)),.ob false (.lst (pDs (Ib a0 pre))),.no]) ⟨[],ps,rfl,rfl,rfl⟩ ?_ ?_⟩
 ·rintro d r δ ⟨pre,l0,e1,e2,rfl⟩;cases l0 with
  |nil=>cases e2
  |cons p l0 =>
   cases e2;have hb:=Sj a0 pre;have hll:=nc (Ib a0 pre);have K0:=Cc (Ib a0 pre);have hil:=Cc a0;have e3:=congrArg xa e1;have e4:=congrArg stL e1;have e5:=congrArg dpL e1;rw[Ad]at e3;rw[Ug]at e4;rw[ue]at e5;simp only[xa]at e3;simp only[stL]at e4;simp only[dpL]at e5;have hm:stL pre * xa a0+st1 p * xa a0<=stL ps * xa a0:=by rw[<-add_mul];exact mul_le_mul_right _ (by lia)
   cases p with
   |txt z =>
    simp only[pD];w_how;refine⟨by lia,pre++[.txt z],l0,by simp[e1],rfl,?_⟩;rw[yo,Oe];rfl
   |tup nm qs =>
    simp only[pD];w_how;simp only[st1,Ga,dp1]at hm e3 e5;refine jB (fun hn=>?_) fun hn=>?_;rw[if_pos hn,Nat.one_add,Nat.succ_mul]at hm;have:=nc a0;refine⟨by lia,pre++[.tup nm qs],l0,by simp[e1],rfl,?_⟩;rw[yo,Oe];simp[Ib,Qc,hn];rw[if_neg hn,zero_add]at hm;refine⟨qs,a0,rfl,mxq e5 hdp,by clear e5;lia,?_⟩;w_how;refine⟨by lia,by lia,pre++[.tup nm qs],l0,by simp[e1],rfl,?_⟩;rw[yo,Oe];simp[Ib,Qc,hn,pDs,pD]
 rintro δ ⟨pre,l0,e1,e2,rfl⟩;cases l0 with
 |cons p l0=>cases e2
 |nil =>
  w_how;rw[append_nil]at e1;subst e1;exact q
def y9p (n:Nat):RD:=fun δ Q=>∃(fs:List (Str×List AB))(ps:List AB),δ=[.fz (.lst (fs.map Ua)),.fz (.lst (pDs ps))]/\dpL ps<n/\YB fs/\xa ps<=300000/\Q true (.lst (pDs (bC fs ps))) [.no,.no]
def x1l(U:AE P w base K mg):∀n,FE U CX0 (n+5) U.u1v (spD (y9p n)):=by
 have u3p:=x8m U 4;intro n;induction n with
 |zero=>exact Fc fun δ Q h=>by obtain⟨_,_,_,h,_⟩:=h;exact not_lt_zero _ h
 |succ n u3f =>
 refine VL.Fun.dok (En U.u1v).F Ie (by walk_at "a") (by decide) ?_;walk_at "f";obtain⟨fs,ps,rfl,hdp,ok,hs,q⟩:=h;refine⟨_,(ka (dq 2 Ie.nd (Ia ja))
  (ka (dsF (fb (dv 1)) (dn 3 Ie.nd) (ma (Ja (Mc (dII U.T.kit U.T.z_isinstance (dv 3) U.T.z_str boot_str)) (ma (Gb (dAp 2 (dv 3)))) (ma (Ja (La gb bb (xT 3 ba) Fa (Ha _)) (ma (Gb (dAp 2 (Xa (aa Fa (aa (Ia ja) ja)))))) (ka (dq 4 Ie.nd (Ka u3f (En U.u1v) (aa (dv 0) (aa (xT 3 ba) ja))))
  (ka (dq 5 Ie.nd (Ia (aa (Xa (aa (xT 3 ba) (aa (dv 4) ja))) ja)))
  (ka (dsF (fb (dv 0)) (We (n:=2) rfl (Ac (dn 6 Ie.nd) (Ac (dn 7 Ie.nd) Ve))) (ma (Ja (La gb bb (dv 6) (xT 3 ba) (Ha _)) (ma (dq 5 Ie.nd (Ka u3p (En U.u1i) (aa (dv 7) (aa (dv 4) ja))))) Pa)))
  (ma (dq 2 Ie.nd (za Sb ub (dv 2) (dv 5))))))))))))
  (ma (Ea (dm 2))))),?_⟩
 have sz:=Oa;w_how;refine⟨by lia,Jb [3,4,5,6,7] (fun r δ=>∃pre l0,ps=pre++l0/\r=pDs l0/\δ=[.fz (.lst (fs.map Ua)),.fz (.lst (pDs ps)),.ob false (.lst (pDs (bC fs pre))),.no,.no,.no,.no,.no]) ⟨[],ps,rfl,rfl,rfl⟩ ?_ ?_⟩
 ·rintro d r δ ⟨pre,l0,e1,e2,rfl⟩;cases l0 with
  |nil=>cases e2
  |cons p l0 =>
   cases e2;have hb:=(ii ok pre).1;have hll:=nc (bC fs pre);have K0:=Cc (bC fs pre);have e3:=congrArg xa e1;have e5:=congrArg dpL e1;rw[Ad]at e3;rw[ue]at e5;simp only[xa]at e3;simp only[dpL]at e5;cases p with
   |txt z =>
    simp only[pD];w_how;refine⟨by lia,pre++[.txt z],l0,by simp[e1],rfl,?_⟩;rw[Ao,Oe];rfl
   |tup nm qs =>
    simp only[pD];w_how;simp only[Ga,dp1]at e3 e5;refine jB (fun hn=>?_) fun hn=>?_;refine⟨by lia,by lia,by lia,pre++[.tup nm qs],l0,by simp[e1],rfl,?_⟩;rw[Ao,Oe];simp[bC,jG,hn,pDs,pD];refine⟨fs,qs,rfl,mxq e5 hdp,ok,by lia,?_⟩;have hq:=ii ok qs;generalize hinn:bC fs qs=inn at hq;w_how;refine⟨by lia,by lia,Jb [6,7] (fun r δ=>∃pre2 suf2,fs=pre2++suf2/\r=suf2.map Ua/\∃b,δ=[.fz (.lst (fs.map Ua)),.fz (.lst (pDs ps)),.ob false (.lst (pDs (bC fs pre))),.fz (.tup [.str nm,.lst (pDs qs)]),.fz (.lst (pDs inn)),rsl b (.lst (pDs (match Ub pre2 nm with|some row=>Ib inn row|none=>[.tup nm inn]))),.no,.no]) ⟨[],fs,rfl,rfl,true,rfl⟩ ?_ ?_⟩
    ·rintro d r δ ⟨pre2,suf2,g1,g2,b,rfl⟩;cases suf2 with
     |nil=>cases g2
     |cons r0 suf2 =>
      obtain⟨nm2,row⟩:=r0;cases g2;simp only[Ua];have hok:=ok.ok (nm2,row) (by rw[g1];simp);have hnd:=ok.nd;rw[g1,map_append,map_cons]at hnd;have hnot:nm2∉pre2.map (·.1):=fun h=>by
       have:=(nodup_append.mp hnd).2.2 nm2 h nm2 mem_cons_self;exact this rfl
      have hr0:nm2=nm->Ub (pre2++[(nm2,row)]) nm=some row:=fun e=>by
       subst e;unfold Ub;rw[find?_append];have:List.find? (fun r=>decide (r.1=nm2)) pre2=none:=by
        rw[List.find?_eq_none];intro x hx hd;exact hnot (mem_map.mpr ⟨x,hx,by simpa using hd⟩)
       rw[this];simp
      have hr1:¬nm2=nm->Ub (pre2++[(nm2,row)]) nm=Ub pre2 nm:=fun e=>by
       unfold Ub;rw[find?_append];simp[e]
      have fin:∀b2,nm2=nm->∃pre_1 suf_1,fs=pre_1++suf_1/\List.map Ua suf2=List.map Ua suf_1/\∃b,([.fz (.lst (fs.map Ua)),.fz (.lst (pDs ps)),.ob false (.lst (pDs (bC fs pre))),.fz (.tup [.str nm,.lst (pDs qs)]),.fz (.lst (pDs inn)),rsl b2 (.lst (pDs (Ib inn row))),.no,.no]:List VL.Slot)=[.fz (.lst (fs.map Ua)),.fz (.lst (pDs ps)),.ob false (.lst (pDs (bC fs pre))),.fz (.tup [.str nm,.lst (pDs qs)]),.fz (.lst (pDs inn)),rsl b (.lst (pDs (match Ub pre_1 nm with|some row=>Ib inn row|none=>[.tup nm inn]))),.no,.no]:=fun b2 e =>
       ⟨pre2++[(nm2,row)],suf2,by simp[g1],rfl,b2,by rw[hr0 e]⟩
      have f3:stL row * xa inn<=1 * xa inn:=mul_le_mul_right _ hok.st;have hsz:=hok.sz;have hdp2:=hok.dp;simp only at hsz hdp2 f3;cases b<;>simp only[rsl]
      all_goals w_how
      all_goals refine jB (fun e=>⟨row,inn,rfl,by lia,by lia,?_⟩) fun e=>⟨pre2++[(nm2,row)],suf2,by simp[g1],rfl,?_⟩
      w_how;exact fin true e;exact⟨false,by rw[hr1 e]⟩;w_how;exact fin true e;exact⟨true,by rw[hr1 e]⟩
    rintro δ ⟨pre2,suf2,g1,g2,b,rfl⟩;cases suf2 with
    |cons p l0=>cases g2
    |nil =>
     rw[append_nil]at g1;subst g1;have hmade:jG fs (.tup nm qs)=match Ub fs nm with|some row=>Ib inn row|none=>[.tup nm inn]:=by
      simp only[jG,hn,if_false,hinn];all_goals (cases Ub fs nm<;>rfl)
     have hfs:=(Gu ok (.tup nm qs)).1;rw[hmade]at hfs;generalize hmd:(match Ub fs nm with|some row=>Ib inn row|none=>[AB.tup nm inn])=made at hfs hmade;have hl2:=nc made;have hl3:=Cc made;simp only[Ga]at hfs;cases b<;>simp only[rsl]
     all_goals w_how
     all_goals refine⟨by lia,pre++[.tup nm qs],l0,by simp[e1],rfl,?_⟩
     all_goals rw[Ao,Oe];simp[bC,hmade]
 rintro δ ⟨pre,l0,e1,e2,rfl⟩;cases l0 with
 |cons p l0=>cases e2
 |nil =>
  w_how;rw[append_nil]at e1;subst e1;exact q
mutual
noncomputable def sD:D->Nat
 |.tup xs=>1+sDs xs
 |.lst xs=>sDs xs
 |.str _=>1
 |_=>0
noncomputable def sDs:List D->Nat
 | []=>0
 |d::r=>sD d+sDs r
end
def Bo (xs ys:List D):sDs (xs++ys)=sDs xs+sDs ys:=by
 induction xs with
 |nil=>simp[sDs]
 |cons a r ih=>simp[sDs,ih];lia
theorem Hu:∀xs:List D,sDs xs.reverse=sDs xs
 | []=>rfl
 |a::r=>by rw[reverse_cons,Bo,Hu r];simp[sDs];lia
noncomputable def μ2 (δ:List VL.Slot):Nat:=match δ[2]? with|some (VL.Slot.ob _ (D.lst xs))=>sDs xs|_=>0
noncomputable def Co:D->Bool
 |.tup (.str n::_)=>decide (n = "*")
 |_=>false
def Iu (p:AB):Co (pD p)=decide (yd p = "*"):=by
 cases p with
 |txt z=>exact(show false=decide (("#":Str) = "*") by decide +kernel)
 |tup n ps=>rfl
def j8g:RD:=fun δ Q=>∃ps:List AB,δ=[.fz (.lst (pDs ps))]/\xa ps<=1000000/\Q true (.lst ((Hc ps).map pD)) [.no]
def u9o (U:AE P w base K mg):FE U CX0 1 U.u1k (spD j8g):=by
 refine VL.Fun.dok (En U.u1k).F nj (by walk_at "a") (by decide) ?_;walk_at "f";obtain⟨ps,rfl,hs,q⟩:=h;refine⟨_,(ka (dq 1 nj.nd (Ia ja))
  (ka (dq 2 nj.nd (Sq rfl rfl U.T.z_list rfl U.T.z_reversed (dv 0)))
  (ka (El PassesOwn.never (Oq (pv 2)) (ka (dq 3 nj.nd (Uq Vq slot_list_pop type_list_pop Bi (pv 2)))
  (ka (Gb (dAp 1 (dv 3)))
  (ma (Ja (fe (Mc (dII U.T.kit U.T.z_isinstance (dv 3) U.T.z_str boot_str))) (ma (Gb (Yi zl slot_list_extend type_list_extend eh (pv 2) (aa (Sq rfl rfl U.T.z_list rfl U.T.z_reversed (xT 3 ba)) ja)))) Pa)))))
  (ma (Ea (dm 1)))))),?_⟩
 have sz:=Oa;w_how;have hfl:=Wh ps;refine⟨by lia,[3],fun δ=>∃n0 stack,n0++Hc stack=Hc ps/\δ=[.fz (.lst (pDs ps)),.ob false (.lst (n0.map pD)),.ob false (.lst (stack.reverse.map pD)),.no],μ2,⟨[],ps,rfl,by simp[fgt,Xc]⟩,?_⟩;rintro δ ⟨n0,stack,e,rfl⟩;have el:=congrArg List.length e;rw[length_append,Wh,hfl]at el;w_how;cases stack with
 |nil =>
  refine jB (fun h=>by simp at h) fun _=>?_;rw[show Hc []=[] from rfl,append_nil]at e;rw[e];exact q
 |cons p st =>
  have e1:(p::st).reverse.map pD=st.reverse.map pD++[pD p]:=by simp
  rw[e1];refine jB (fun _=>?_) (fun h=>by simp at h);refine⟨pD p,by simp,?_⟩;rw[List.dropLast_concat];simp only[Hc,xa]at e el;have hl1:(List.map pD n0).length=n0.length:=by simp
  have hl2:=nc st;refine⟨by lia,?_⟩;cases p with
  |txt z =>
   simp only[pD];w_how;refine⟨⟨n0++[.txt z],st,by simpa[gf] using e,by simp[pD]⟩,?_⟩;simp only[μ2,getElem?_cons_succ,List.getElem?_cons_zero,Bo,sDs,sD];lia
  |tup nm qs =>
   simp only[pD];w_how;have hl3:=Cc qs;have hl4:=nc qs;simp only[Ga]at el;refine⟨by simp;lia,⟨n0++[.tup nm qs],qs++st,by simpa[gf,x1a] using e,by simp[pD,Xc]⟩,?_⟩;simp only[μ2,getElem?_cons_succ,List.getElem?_cons_zero,Bo,sDs,sD,Hu];lia
def x8y:RD:=fun δ Q=>∃ps:List AB,δ=[.fz (.lst (pDs ps))]/\xa ps<=1000000/\Q false (.int (stL ps)) [.no]
def q0y (ps:List AB):((ps.map pD).filter Co).length=(ps.filter fun q=>decide (yd q = "*")).length:=by rw[List.filter_map,length_map];congr 2;funext p;exact Iu p
def q8v(U:AE P w base K mg):FE U CX0 2 U.u3x (spD x8y):=by have u5s:=u9o U;have u4y:=Jt U;refine VL.Fun.dok (En U.u3x).F oA (by walk_at "a") (by decide) ?_;walk_at "f";obtain⟨ps,rfl,hs,q⟩:=h;refine⟨_,(ma (Ea (yg Vi oh rfl U.T.z_len PySem.boot_len (aa (Oc tg1 (fb (Ka u5s (En U.u1k) (aa (dv 0) ja))) (fun _=>(Ee (La gb bb (Ka u4y (En U.u1g) (aa (dv 0) ja)) (Ol rfl U.T.g_STAR) (Ha _)))) (fun _=>(dv 0))) ja)))),?_⟩;have sz:=Oa;have hfl:=Wh ps;w_how;refine⟨ps,rfl,hs,?_⟩;w_how;refine Wl Co id (by simp;lia) (fun d hd P hP=>?_) (fun d hd hc P hP=>?_) ?_;obtain⟨p,hp,rfl⟩:=mem_map.mp hd;rw[Iu]at hP;w_how;refine⟨p,rfl,?_⟩;w_how;exact hP;w_how;exact hP;w_how;rw[map_id,q0y,Cn];exact q
def ji (F:Hp)(v:V):Option (List AB)->Prop
 |none=>v=.non
 |some qs=>∃s vs,v=.ref s/\F s=some (.lst vs)/\DB F (pDs qs) vs
def KC (F H:Hp)(p:AB)(tg:Addr)(so:Option (List AB))(t:Addr):Prop:=∃v sv,H t=some (.tup [v,.ref tg,sv])/\Rep F (pD p) v/\ji F sv so
def Ju:Sp:=fun vs H Q _=>∃(a tg:Addr)(sv:V)(xs:List V),vs=[.ref a,.ref tg,sv]/\H a=some (.lst xs)/\xs.length<=9000000 /\
 ∀(l:Addr)(ts:List Addr)(H':Hp),H l=none->BB H H'->H' l=some (.lst (ts.map V.ref))->IB (fun v t=>H' t=some (.tup [v,.ref tg,sv])/\H t=none) xs.reverse ts->Q (.ref l) H'
def Ku (U:AE P w base K mg):FE U CX0 1 U.u3h Ju:=by
 refine (En U.u3h).F.ok pA (fun vs H Q E h=>?_) (fun cdv A V0 s H vs Q E hr h=>?_);obtain⟨_,_,_,_,rfl,_⟩:=h;rfl;obtain⟨a,tg,sv,xs,rfl,ha,hl,q⟩:=h;refine⟨_,(Ya (Sc (Il ["part"] ["parts","target","starred"] rfl (fun _ _ _ _ _=>(jd (i:=0) (show List.Nodup (["part","parts","target","starred"]:List Str) from by decide +kernel) rfl (Or.inl rfl))) (show SB (Ca zG) ["parts","target","starred"] ["part"] _ _ from⟨rfl,by decide +kernel,by decide +kernel,by decide +kernel,by decide +kernel⟩) (Fq rfl U.T.z_reversed (pv 0)) (fun _ _ _ _ _=>tq) (fun _ _ _ _ _=>(ah (Aa (pv 0) (Aa (pv 2) (Aa (pv 3) Da)))))))),?_⟩;have sz:=Oa;refine⟨_,rfl,a,rfl,xs,ha,fun D hD=>?_⟩;refine⟨fun i m ys H'=>m=xs.length - i/\i<=xs.length/\BB H H'/\H' D=some (.lst ys)/\∃ts:List Addr,ys=ts.map V.ref/\IB (fun v t=>H' t=some (.tup [v,.ref tg,sv])/\H t=none) (xs.reverse.take i) ts,⟨xs.length,by simp,zero_le _,BB.of_new hD,z0g,[],rfl,.nil⟩,?_⟩;rintro i m ys H1 ⟨rfl,hi,s1,hy,ts,rfl,hts⟩;refine⟨hy,?_⟩;have haH:H1 a=some (.lst xs):=s1 _ _ ha;have hlen:=hts.len;by_cases hlt:i<xs.length
 ·have hlr:i<xs.reverse.length:=by simpa using hlt
  have ex:xs[xs.length - 1 - i]? = some xs.reverse[i]:=by
   rw[<-List.getElem?_reverse hlt];exact getElem?_eq_getElem hlr
  refine .inr ⟨⟨xs,_,haH,hlt,ex⟩,fun ys' H'=>i+1<=xs.length/\BB H H'/\H' D=some (.lst ys')/\∃ts:List Addr,ys' = ts.map V.ref/\IB (fun v t=>H' t=some (.tup [v,.ref tg,sv])/\H t=none) (xs.reverse.take (i+1)) ts,fun ys' H' hN=>⟨xs.length - (i+1),by lia,rfl,hN⟩,fun v H2 y τ hτ=>?_⟩;obtain⟨e,y⟩:=y;subst e;have ev:=y xs haH;rw[ex]at ev;cases ev;obtain⟨o,t,rfl,hl⟩:=lnz (n:=0) hτ;cases List.eq_nil_of_length_eq_zero hl;refine⟨⟨[some _],rfl,rfl⟩,?_⟩;unfold tYes;dsimp only;rw[if_pos rfl];refine⟨_,rfl,_,rfl,_,rfl,by show 3<=sizeLine;lia,fun p hp=>?_⟩;have nDp:D≠p:=Sa hy hp;refine⟨by rw[ya nDp];exact hy,?_,hlt,?_,z0g,ts++[p],by simp,?_⟩
  ·have:ts.length<=xs.length:=by rw[<-hlen,length_take];lia
   simp;lia
  exact((s1.upd (s1.free hp)).upd hD);rw[take_add_one,getElem?_eq_getElem hlr];refine(ye hts fun v t ht=>?_).snoc ?_;obtain⟨h1,h2⟩:=ht;have n1:t≠D:=Wd h1 hy (by intro z;cases z);have n2:t≠p:=Sa h1 hp;exact⟨by rw[ya n1,ya n2];exact h1,h2⟩;exact⟨by rw[ya (Ne.symm nDp),z0g],s1.free hp⟩
 have e:i=xs.length:=by lia
 subst e;refine .inl ⟨rfl,?_⟩;rw[take_of_length_le (by simp)]at hts;exact q D ts H1 hD s1 hy hts
def NB.rO(e:Rd H a (.dK Y0)):NB H a (.str k) (iB Y0 (Sum.inr k)):=.inl ⟨Y0,Sum.inr k,e,rfl,rfl⟩
def NB.rS(e:Rd H a (.dK Y0))(h:iB Y0 (Sum.inr k)=some v):NB H a (.str k) (some v):=by rw[<-h];exact NB.rO e
noncomputable def Jd (fs:List (Str×List AB)):List (Key×D):=fs.map fun r=>(Sum.inr r.1,.lst (pDs r.2))
theorem Lu:∀(fs:List (Str×List AB))(n:Str),eB (Jd fs) n=(Ub fs n).map fun row=>.lst (pDs row)
 | [],n=>rfl
 |r::fs,n=>by
  have ih:=Lu fs n;unfold eB Ub Jd at ih ⊢;rw[map_cons,find?_cons,find?_cons];by_cases h:r.1=n;simp[h];simp only[Sum.inr.injEq,h,decide_false];exact ih
inductive Stp where
 |text (z:Str)
 |jobs (row:List AB)(so:Option (List AB))
 |opens (n:Str)(ps:List AB)
noncomputable def Kb (fs:List (Str×List AB)):AB->Option (List AB)->Stp
 |.txt z,_=>.text z
 |.tup n ps,none=>match Ub fs n with|some row=>.jobs row (some ps)|none=>.opens n ps
 |.tup n ps,some qs=>if n = "*" then .jobs qs none else .opens n ps
def Uj (F H H':Hp)(l:Addr)(row:List AB)(tg:Addr)(so:Option (List AB)):Prop:=∃ts:List Addr,H' l=some (.lst (ts.map V.ref))/\IB (fun p t=>KC F H' p tg so t/\H t=none) row.reverse ts
noncomputable def Mu:Sp:=fun vs H Q _=>∃(F:Hp)(fs:List (Str×List AB))(rl:Addr)(Y0:List (Key×V))(p:AB)(vp:V)(tg:Addr)(us:List V)(sv:V)(so:Option (List AB)),vs=[.ref rl,vp,.ref tg,sv]/\BB F H/\Rd F rl (.dK Y0)/\JB F (Jd fs) Y0/\Rep F (pD p) vp/\ji F sv so /\
 H tg=some (.lst us)/\us.length<sizeLine/\F tg=none/\(∀r∈fs,xa r.2<=9000000)/\Ga p<=9000000/\(∀qs,so=some qs->xa qs<=9000000) /\
 match Kb fs p so with
 |.text z=>∀(l:Addr)(H':Hp),H l=none->(∀b o,b≠tg->H b=some o->H' b=some o)->H' tg=some (.lst (us++[.str z]))->H' l=some (.lst [])->Q (.ref l) H'
 |.jobs row so'=>∀(l:Addr)(H':Hp),H l=none->BB H H'->Uj F H H' l row tg so'->Q (.ref l) H'
 |.opens n ps=>∀(a0 tp l:Addr)(H':Hp),H a0=none->H tp=none->H l=none->a0≠tp->l≠a0->(∀b o,b≠tg->H b=some o->H' b=some o)->H' tg=some (.lst (us++[.ref tp]))->H' tp=some (.tup [.str n,.ref a0])->H' a0=some (.lst [])->Uj F H H' l ps a0 so->Q (.ref l) H'
theorem Eo {F H H':Hp}(hs:ji F sv so):∀{ps:List AB}{vs:List V}{ts:List Addr},DB F (ps.map pD) vs->IB (fun v t=>H' t=some (.tup [v,.ref tg,sv])/\H t=none) vs ts->IB (fun p t=>KC F H' p tg so t/\H t=none) ps ts
 | [],_,_,h,h2=>by cases(show _=[] from h);cases h2;exact .nil
 |p::ps,_,_,h,h2=>by
  obtain⟨v,r,rfl,h1,h3⟩:=h;cases h2 with
  |cons g g2=>exact .cons ⟨⟨v,sv,g.1,h1,hs⟩,g.2⟩ (Eo hs h3 g2)
def Fo {F H H1 H':Hp}(hs:ji F sv so)(hr:DB F (pDs row) vs)(e:H' l=some (.lst (ts.map V.ref)))(h:IB (fun v t=>H' t=some (.tup [v,.ref tg,sv])/\H1 t=none) vs.reverse ts)(hn:∀t,H1 t=none->H t=none):Uj F H H' l row tg so:=by refine⟨ts,e,?_⟩;rw[Xc]at hr;have hr':=hr.rev;rw[<-map_reverse]at hr';exact ye (Eo hs hr' h) fun p t g=>⟨g.1,hn t g.2⟩
def Nu(hsv:ji F sv so)(sF:BB F H)(htg:H tg=some (.lst us))(hul:us.length<sizeLine)(ht:H t=some (.tup [.str n,.ref pl]))(K0:F pl=some (.lst pvs))(ntg:F tg=none)(rpl:DB F (pDs ps) pvs)(hl:ps.length<=9000000)
  (q:∀(a0 tp l:Addr)(H':Hp),H a0=none->H tp=none->H l=none->a0≠tp->l≠a0->(∀b o,b≠tg->H b=some o->H' b=some o)->H' tg=some (.lst (us++[.ref tp]))->H' tp=some (.tup [.str n,.ref a0])->H' a0=some (.lst [])->Uj F H H' l ps a0 so->Q (.ref l) H') :
  0<=sizeLine/\∀(p:Addr),H p=none->(∃xs,upd H p (HO.lst []) tg=some (HO.lst xs))/\∃xs,upd H p (HO.lst []) t=some (HO.tup xs)/\∃v,atI xs 0=some v/\2<=sizeLine/\∀(p_1:Addr),¬p_1=p->H p_1=none->∃x,upd (upd H p (HO.lst [])) p_1 (HO.tup [v,V.ref p]) tg=some (HO.lst x)/\x.length<sizeLine /\
   ∃xs,upd (upd (upd H p (HO.lst [])) p_1 (HO.tup [v,V.ref p])) tg (HO.lst (x++[V.ref p_1])) t=some (HO.tup xs)/\∃v_1,atI xs 1=some v_1/\Ju [v_1,V.ref p,sv] (upd (upd (upd H p (HO.lst [])) p_1 (HO.tup [v,V.ref p])) tg (HO.lst (x++[V.ref p_1]))) Q E0:=by
 have sz:=Oa;have ntt:t≠tg:=Wd ht htg (by intro z;cases z);refine⟨by lia,fun p hp=>?_⟩;have n1:tg≠p:=Sa htg hp;have n2:t≠p:=Sa ht hp;refine⟨⟨us,by rw[ya n1];exact htg⟩,_,by rw[ya n2];exact ht,_,aC,by lia,fun p1 np hp1=>?_⟩;have n3:tg≠p1:=Sa htg hp1;have n4:t≠p1:=Sa ht hp1;refine⟨us,by rw[ya n3,ya n1];exact htg,hul,_,by rw[ya ntt,ya n4,ya n2];exact ht,_,tF,?_⟩;have hpl':=sF _ _ K0;have n5:pl≠tg:=fun z=>by rw[z,ntg]at K0;cases K0
 have n6:pl≠p:=Sa hpl' hp;have n7:pl≠p1:=Sa hpl' hp1;have keep:∀b o,b≠tg->H b=some o->upd (upd (upd H p (HO.lst [])) p1 (HO.tup [V.str n,V.ref p])) tg (HO.lst (us++[V.ref p1])) b=some o:=fun b o hb e=>by
  rw[ya hb,ya (Sa e hp1),ya (Sa e hp)];exact e
 refine⟨pl,p,sv,pvs,rfl,keep pl _ n5 hpl',by rw[<-rpl.len,Cc];exact hl,fun l ts H' hln hs e h=>?_⟩;have hln':H l=none:=by
  cases z:H l with
  |none=>rfl
  |some o =>
   by_cases hb:l=tg;rw[hb,z0g]at hln;cases hln;rw[keep l o hb z]at hln;cases hln
 have frs:∀x,upd (upd (upd H p (HO.lst [])) p1 (HO.tup [V.str n,V.ref p])) tg (HO.lst (us++[V.ref p1])) x=none->H x=none:=fun x hx=>by
  cases z:H x with
  |none=>rfl
  |some o =>
   by_cases hb:x=tg;rw[hb,z0g]at hx;cases hx;rw[keep x o hb z]at hx;cases hx
 have e2:upd (upd (upd H p (HO.lst [])) p1 (HO.tup [V.str n,V.ref p])) tg (HO.lst (us++[V.ref p1])) p=some (.lst []):=by
  rw[ya (Ne.symm n1),ya (fun z=>np z.symm),z0g]
 have nlp:l≠p:=fun z=>by rw[z,e2]at hln;cases hln
 refine q p p1 l H' hp hp1 hln' (fun z=>np z.symm) nlp (fun b o hb e=>hs _ _ (keep b o hb e)) (hs _ _ z0g) (hs _ _ (by rw[ya (Ne.symm n3),z0g])) (hs _ _ e2) (Fo hsv rpl e h frs)
def q7g(U:AE P w base K mg)(kts:kitOne K (.type "tuple") (.type "str")=some false):FE U CX0 2 U.u4j Mu:=by
 have u5j:=Ku U;obtain⟨tS,h_STAR⟩:=U.T.g_STAR;refine (En U.u4j).F.ok Ps (fun vs H Q E h=>?_) (fun cdv A V0 s H vs Q E hr h=>?_);obtain⟨_,_,_,_,_,_,_,_,_,_,rfl,_⟩:=h;rfl;obtain⟨F,fs,rl,Y0,p,vp,tg,us,sv,so,rfl,sF,hrl,rk,rp,hsv,htg,hul,ntg,b1,b2,b3,q⟩:=h;have hu:=wb hr;refine⟨_,(Ra (vc (Zc (Tc (Hk (K:=K) rfl) rfl U.T.z_isinstance boot_isinstance (Aa (pv 1) (Aa (li (v:=.ty "str") rfl U.T.z_str boot_str rfl) Da)))) (Ra (Vb (Be PySem.F.slot_list_append PySem.F.type_list_append qf (pv 2) (Aa (pv 1) Da)))
  (Ya (Sc (ac Da)))) dc)
  (Ra (vc (PW.pt (mi (Yd Uv (pv 3) gg (Ha _)) (y8 (jg (kh (hu1 hu) (Bb Eb (pv 1) Ab (fun _ _=>rfl)) (pv 0)) rfl)))) (Ya (Sc (zb u5j (En U.u3h) (Aa (Di (hu1 hu) (pv 0) (Bb Eb (pv 1) Ab (fun _ _=>rfl)) (fun _ _=>rfl)) (Aa (pv 2) (Aa (Bb Eb (pv 1) Ab (fun _ _=>rfl)) Da)))))) dc)
  (Ra (vc (PW.pt (mi (Yd Bp (pv 3) gg (Ha _)) (y8 (Yd bb (Bb Eb (pv 1) Ab (fun _ _=>rfl)) (Yo (v:=.str "*") rfl h_STAR ⟨_,rfl⟩) (Ha _))))) (Ya (Sc (zb u5j (En U.u3h) (Aa (pv 3) (Aa (pv 2) (Aa gg Da)))))) dc)
  (Ra (Cb (i:=4) Ps.nd rfl (Or.inl rfl) (ac Da))
  (Ra (Vb (Be PySem.F.slot_list_append PySem.F.type_list_append qf (pv 2) (Aa (ah (Aa (Bb Eb (pv 1) Ab (fun _ _=>rfl)) (Aa (pv 4) Da))) Da)))
  (Ya (Sc (zb u5j (En U.u3h) (Aa (Bb Eb (pv 1) Ab (fun _ _=>rfl)) (Aa (pv 4) (Aa (pv 3) Da))))))))))),?_⟩
 have sz:=Oa;cases p with
 |txt z =>
  cases(show vp=.str z from rp);simp only[Kb]at q;walk_at "rs";refine ifS ⟨.str z,rfl,.str z,"str",rfl,_,.str z,true,rfl,true,rfl,aF ?_⟩;walk_at "rs";refine⟨⟨us,htg⟩,us,htg,hul,by lia,fun p np hp=>q p _ hp (fun b o hb e=>?_) ?_ z0g⟩;rw[ya (Sa e hp),ya hb];exact e;rw[ya (fun z=>np z.symm),z0g]
 |tup n ps =>
  obtain⟨t,vs',rfl,ht,v1,r1,rfl,e1,v2,r2,rfl,⟨pl,pvs,rfl,K0,rpl⟩,e3⟩:=rp;cases(show v1=.str n from e1);cases(show r2=[] from e3);have ht':=sF _ _ ht;have hrl':Rd H rl (.dK Y0):=hrl.elim (fun e=>.inl (sF _ _ e)) fun⟨o,e⟩=>.inr ⟨o,sF _ _ e⟩;have hps:ps.length<=9000000:=by
   have:=nc ps;simp only[Ga]at b2
   lia
  walk_at "rs";refine ifS ⟨.ref t,rfl,.ref t,"str",rfl,_,.tup ht',false,kts,false,rfl,kB ?_⟩;walk_at "rd";have hval:=rk.val n;rw[Lu]at hval;cases so with
  |none =>
   cases(show sv=.non from hsv);rw[if_pos rfl];refine⟨_,ht',_,aC,_,NB.rO hrl',?_⟩;simp only[Kb]at q;cases er:Ub fs n with
   |some row =>
    rw[er]at q hval;obtain⟨v,ev,ra,rvs,rfl,hra,rra⟩:=hval.1 _ rfl;obtain⟨r0,hr0,e0,_⟩:=Tj er;have hb:=b1 r0 hr0;rw[e0]at hb;have hlr:=nc row;rw[ev];refine aF ⟨_,ht',_,aC,_,NB.rS hrl' ev,_,ht',_,tF,ra,tg,.ref pl,rvs,rfl,sF _ _ hra,by rw[<-rra.len,Cc];lia,fun l ts H' hl hs e h=>q l H' hl hs (Fo (so:=some ps) ⟨pl,pvs,rfl,K0,rpl⟩ rra e h fun t h=>h)⟩
   |none =>
    rw[er]at q hval;rw[hval.2 rfl];refine kB ⟨false,by simp,kB ?_⟩;exact Nu hsv sF htg hul ht' K0 ntg rpl hps q
  |some qs =>
   have hsv':=hsv;obtain⟨sa,svs,rfl,hsa,rsa⟩:=hsv;rw[if_neg (by intro z;cases z)];refine⟨true,by simp,aF ⟨_,ht',_,aC,rfl,?_⟩⟩;simp only[Kb]at q;by_cases hn:n = "*";rw[if_pos hn]at q;have hb:=b3 qs rfl;have hlr:=nc qs;rw[if_pos (by rw[hn])];exact⟨sa,tg,.non,svs,rfl,sF _ _ hsa,by rw[<-rsa.len,Cc];lia,fun l ts H' hl hs e h=>q l H' hl hs (Fo (so:=none) rfl rsa e h fun t h=>h)⟩;rw[if_neg hn]at q;rw[if_neg (by intro z;cases z;exact hn rfl)];exact Nu hsv' sF htg hul ht' K0 ntg rpl hps q
mutual
noncomputable def yH (fs:List (Str×List AB)):AB->List AB
 |.txt s=>[.txt s]
 |.tup n ps=>match Ub fs n with|some row=>Ib (yE fs ps) row|none=>[.tup n (yE fs ps)]
noncomputable def yE (fs:List (Str×List AB)):List AB->List AB
 | []=>[]
 |p::ps=>yH fs p++yE fs ps
end
mutual
noncomputable def wf1 (k:Nat):AB->Nat
 |.txt _=>1
 |.tup n ps=>if n = "*" then 1+k else 1+wfL k ps
noncomputable def wfL (k:Nat):List AB->Nat
 | []=>0
 |p::ps=>wf1 k p+wfL k ps
end
mutual
noncomputable def w1 (fs:List (Str×List AB)):AB->Nat
 |.txt _=>1
 |.tup n ps=>match Ub fs n with|some row=>1+wfL (wL fs ps) row|none=>1+wL fs ps
noncomputable def wL (fs:List (Str×List AB)):List AB->Nat
 | []=>0
 |p::ps=>w1 fs p+wL fs ps
end
noncomputable def G1 (fs:List (Str×List AB)) (p:AB):Option (List AB)->List AB
 |none=>yH fs p
 |some qs=>Qc (yE fs qs) p
noncomputable def GL (fs:List (Str×List AB)) (ps:List AB):Option (List AB)->List AB
 |none=>yE fs ps
 |some qs=>Ib (yE fs qs) ps
noncomputable def jw (fs:List (Str×List AB)) (p:AB):Option (List AB)->Nat
 |none=>w1 fs p
 |some qs=>wf1 (wL fs qs) p
noncomputable def jwL (fs:List (Str×List AB)) (ps:List AB):Option (List AB)->Nat
 |none=>wL fs ps
 |some qs=>wfL (wL fs qs) ps
theorem j3g:GL fs (p::ps) so=G1 fs p so++GL fs ps so:=by cases so<;>rfl
theorem Go:jwL fs (p::ps) so=jw fs p so+jwL fs ps so:=by cases so<;>rfl
def Vj(h:Kb fs p so=.text z):G1 fs p so=[.txt z]/\jw fs p so=1:=by
 cases p with
 |txt y=>cases h;cases so<;>exact⟨rfl,rfl⟩
 |tup n ps =>
  cases so with
  |none=>simp only[Kb]at h;split at h<;>cases h
  |some qs=>simp only[Kb]at h;split at h<;>cases h
def Wj(h:Kb fs p so=.jobs row so'):G1 fs p so=GL fs row so'/\jw fs p so=1+jwL fs row so':=by
 cases p with
 |txt y=>cases h
 |tup n ps =>
  cases so with
  |none =>
   simp only[Kb]at h;split at h
   ·rename_i r er;cases h;simp only[G1,GL,jw,jwL,yH,w1,er];exact⟨by first|trivial|rfl,by first|trivial|rfl⟩
   cases h
  |some qs =>
   simp only[Kb]at h;split at h
   ·rename_i hn;cases h;simp only[G1,GL,jw,jwL,Qc,wf1,hn,if_true];exact⟨by first|trivial|rfl,by first|trivial|rfl⟩
   cases h
def Xj(h:Kb fs p so=.opens n ps):G1 fs p so=[.tup n (GL fs ps so)]/\jw fs p so=1+jwL fs ps so:=by
 cases p with
 |txt y=>cases h
 |tup n' ps' =>
  cases so with
  |none =>
   simp only[Kb]at h;split at h;cases h;rename_i er;cases h;simp only[G1,GL,jw,jwL,yH,w1,er];exact⟨by first|trivial|rfl,by first|trivial|rfl⟩
  |some qs =>
   simp only[Kb]at h;split at h;cases h;rename_i hn;cases h;simp only[G1,GL,jw,jwL,Qc,wf1,hn,if_false];exact⟨by first|trivial|rfl,by first|trivial|rfl⟩
abbrev Job:=AB×Addr×Option (List AB)
noncomputable def mkJ (ps:List AB) (tg:Addr) (so:Option (List AB)):List Job:=ps.map fun p=>(p,tg,so)
def OC (wa tg:Addr)(H H1:Hp):Prop:=∀b o,b≠tg->b≠wa->H b=some o->H1 b=some o
def OC.trans(h:OC wa tg H H1)(h':OC wa tg H1 H2):OC wa tg H H2:=fun b o a c e=>h' b o a c (h b o a c e)
inductive Ev (fs:List (Str×List AB))(wa:Addr):List Job->Hp->Hp->Prop
 |nil {H:Hp}:Ev fs wa [] H H
 |text {p:AB}{tg:Addr}{so:Option (List AB)}{js:List Job}{z:Str}{us:List V}{H H1 H':Hp}(e:Kb fs p so=.text z) (h:H tg=some (.lst us)) (h1:H1 tg=some (.lst (us++[.str z]))) (k:OC wa tg H H1) (hw:∃xs,H1 wa=some (.lst xs)) (r:Ev fs wa js H1 H'):Ev fs wa ((p,tg,so)::js) H H'
 |jobs {p:AB}{tg:Addr}{so so':Option (List AB)}{js:List Job}{row:List AB}{H H1 H':Hp}(e:Kb fs p so=.jobs row so') (k:∀b o,b≠wa->H b=some o->H1 b=some o) (hw:∃xs,H1 wa=some (.lst xs)) (r:Ev fs wa (mkJ row tg so'++js) H1 H'):Ev fs wa ((p,tg,so)::js) H H'
 |opens {p:AB}{tg a0 tp:Addr}{so:Option (List AB)}{js:List Job}{n:Str}{ps:List AB}{us:List V}{H H1 H':Hp}(e:Kb fs p so=.opens n ps) (h:H tg=some (.lst us)) (hi:H a0=none) (ht:H tp=none) (h1:H1 tg=some (.lst (us++[.ref tp]))) (h2:H1 tp=some (.tup [.str n,.ref a0])) (h3:H1 a0=some (.lst [])) (k:OC wa tg H H1) (hw:∃xs,H1 wa=some (.lst xs)) (r:Ev fs wa (mkJ ps a0 so++js) H1 H'):Ev fs wa ((p,tg,so)::js) H H'
def j8f:∀(n:Nat)(ps:List AB)(so:Option (List AB))(tg:Addr)(js:List Job)(H H':Hp)(us:List V),jwL fs ps so<=n->Ev fs wa (mkJ ps tg so++js) H H'->H tg=some (.lst us)->tg≠wa->(∃xs,H wa=some (.lst xs)) ->
  ∃H1 vs o Fp,H1 tg=some (.lst (us++vs))/\QB H1 vs (GL fs ps so) o Fp/\(∀b∈Fp,H b=none)/\Fp.Nodup/\OC wa tg H H1/\(∃xs,H1 wa=some (.lst xs))/\Ev fs wa js H1 H':=by
 intro n;induction n with
 |zero =>
  intro ps so tg js H H' us hn ev htg ntw hw;cases ps with
  |nil=>exact⟨H,[],[],[],by simpa using htg,by cases so<;>exact .nil,fun b hb=>by simp at hb,nodup_nil,fun b o _ _ e=>e,hw,ev⟩
  |cons p ps =>
   rw[Go]at hn;have:1<=jw fs p so:=by
    cases e:Kb fs p so with
    |text z=>rw[(Vj e).2];lia
    |jobs row so'=>rw[(Wj e).2];lia
    |opens n qs=>rw[(Xj e).2];lia
   lia
 |succ n ih =>
  intro ps so tg js H H' us hn ev htg ntw hw;cases ps with
  |nil=>exact⟨H,[],[],[],by simpa using htg,by cases so<;>exact .nil,fun b hb=>by simp at hb,nodup_nil,fun b o _ _ e=>e,hw,ev⟩
  |cons p ps =>
   rw[Go]at hn;rw[j3g];have ev':Ev fs wa ((p,tg,so)::(mkJ ps tg so++js)) H H':=ev;have gB:∀(H2:Hp)(vs2 o2:List V)(F2:List Addr)(ps2:List AB),1<=jw fs p so->H2 tg=some (.lst (us++vs2))->QB H2 vs2 ps2 o2 F2->(∀b∈F2,H b=none)->F2.Nodup->OC wa tg H H2->(∃xs,H2 wa=some (.lst xs))->G1 fs p so=ps2->Ev fs wa (mkJ ps tg so++js) H2 H' ->
     ∃H1 vs o Fp,H1 tg=some (.lst (us++vs))/\QB H1 vs (G1 fs p so++GL fs ps so) o Fp/\(∀b∈Fp,H b=none)/\Fp.Nodup/\OC wa tg H H1/\(∃xs,H1 wa=some (.lst xs))/\Ev fs wa js H1 H':=by
    intro H2 vs2 o2 F2 ps2 hj t2 r2 f2 nd2 k2 w2 eg ev2;obtain⟨H3,vs3,o3,F3,t3,r3,f3,nd3,k3,w3,ev3⟩:=ih ps so tg js H2 H' (us++vs2) (by lia) ev2 t2 ntw w2;obtain⟨xw,hxw⟩:=w2;have hfr:QB H3 vs2 ps2 o2 F2:=by
     refine r2.frame (fun b hb=>?_) fun b xs e=>?_
     ·obtain⟨xs,hx⟩:=r2.lsts b hb;have nb:b≠tg:=fun z=>by have:=f2 b hb;rw[z,htg]at this;cases this
      have nw:b≠wa:=fun z=>by obtain⟨xs,hx⟩:=hw;have:=f2 b hb;rw[z,hx]at this;cases this
      rw[hx];exact k3 b _ nb nw hx
     exact k3 b _ (Wd e t2 (by intro z;cases z)) (Wd e hxw (by intro z;cases z)) e
    refine⟨H3,vs2++vs3,o2++o3,F2++F3,by rw[t3,append_assoc],by rw[eg];exact hfr.append r3,fun b hb=>?_,nodup_append.mpr ⟨nd2,nd3,fun a ha b hb e=>by obtain⟨xs,hx⟩:=r2.lsts a ha;rw[e,f3 b hb]at hx;cases hx⟩,k2.trans k3,w3,ev3⟩;rcases mem_append.mp hb with h|h;exact f2 b h;cases z:H b with
    |none=>rfl
    |some o =>
     have hb2:=f3 b h;by_cases nb:b=tg;rw[nb,t2]at hb2;cases hb2;by_cases nw:b=wa;rw[nw,hxw]at hb2;cases hb2;rw[k2 b o nb nw z]at hb2;cases hb2
   cases ev' with
   | @text _ _ _ _ z us' _ H1 _ e h h1 k w1 r =>
    rw[htg]at h;cases h;obtain⟨g1,g2⟩:=Vj e;exact gB H1 [.str z] [.str z] [] [.txt z] (by lia) h1 (.txt .nil) (fun b hb=>by simp at hb) nodup_nil k w1 g1 r
   | @jobs _ _ _ so' _ row _ H1 _ e k w1 r =>
    obtain⟨g1,g2⟩:=Wj e;obtain⟨H2,vs2,o2,F2,t2,r2,f2,nd2,k2,w2,ev2⟩:=ih row so' tg _ H1 H' us (by lia) r (k _ _ ntw htg) ntw w1;refine gB H2 vs2 o2 F2 _ (by lia) t2 r2 (fun b hb=>?_) nd2 (fun b o a c e=>k2 b o a c (k b o c e)) w2 g1 ev2;cases z:H b with
    |none=>rfl
    |some o =>
     have hb2:=f2 b hb;by_cases nw:b=wa;obtain⟨xs,hx⟩:=w1;rw[nw,hx]at hb2;cases hb2;rw[k b o nw z]at hb2;cases hb2
   | @opens _ _ a0 tp _ _ nm qs us' _ H1 _ e h hi ht h1 h2 h3 k w1 r =>
    rw[htg]at h;cases h;obtain⟨g1,g2⟩:=Xj e;have niw:a0≠wa:=fun z=>by obtain⟨xs,hx⟩:=hw;rw[z,hx]at hi;cases hi
    have nit:tg≠a0:=Sa htg hi;obtain⟨H2,vs2,o2,F2,t2,r2,f2,nd2,k2,w2,ev2⟩:=ih qs so a0 _ H1 H' [] (by lia) r h3 niw w1;obtain⟨xw,hxw⟩:=w1;have tp2:H2 tp=some (.tup [.str nm,.ref a0]):=k2 tp _ (Wd h2 h3 (by intro z;cases z)) (Wd h2 hxw (by intro z;cases z)) h2;have t2':H2 a0=some (.lst vs2):=by simpa using t2
    refine gB H2 [.ref tp] (.ref tp::(o2++[])) (a0::(F2++[])) _ (by lia) (k2 tg _ nit ntw h1) (.tup tp2 t2' r2 .nil) (fun b hb=>?_) (by rw[append_nil];exact nodup_cons.mpr ⟨fun hm=>(by have:=f2 _ hm;rw[h3]at this;cases this),nd2⟩) (fun b o a c eb=>k2 b o (Sa eb hi) c (k b o a c eb)) w2 g1 ev2;rcases mem_cons.mp hb with rfl|hb;exact hi;rw[append_nil]at hb;cases z:H b with
    |none=>rfl
    |some o =>
     have hb2:=f2 b hb;by_cases nb:b=tg;rw[nb,h1]at hb2;cases hb2;by_cases nw:b=wa;rw[nw,hxw]at hb2;cases hb2;rw[k b o nb nw z]at hb2;cases hb2
noncomputable def jwT (fs:List (Str×List AB)):List Job->Nat
 | []=>0
 |(p,_,so)::js=>jw fs p so+jwT fs js
def Yj (fs:List (Str×List AB))(a b:List Job):jwT fs (a++b)=jwT fs a+jwT fs b:=by
 induction a with
 |nil=>simp[jwT]
 |cons x a ih=>obtain⟨p,tg,so⟩:=x;simp only[jwT,cons_append,ih];lia
def Ho (fs:List (Str×List AB))(ps:List AB)(tg:Addr)(so:Option (List AB)):jwT fs (mkJ ps tg so)=jwL fs ps so:=by
 induction ps with
 |nil=>cases so<;>rfl
 |cons p ps ih=>rw[Go,<-ih];rfl
def Ou (fs:List (Str×List AB))(p:AB)(so:Option (List AB)):1<=jw fs p so:=by
 cases e:Kb fs p so with
 |text z=>rw[(Vj e).2];lia
 |jobs row so'=>rw[(Wj e).2];lia
 |opens n qs=>rw[(Xj e).2];lia
def Pu (fs:List (Str×List AB))(js:List Job):js.length<=jwT fs js:=by
 induction js with
 |nil=>exact le_refl _
 |cons x a ih=>obtain⟨p,tg,so⟩:=x;have:=Ou fs p so;simp only[jwT,length_cons];lia
def Yg (p:AB)(so:Option (List AB)):Prop:=Ga p<=9000000/\∀qs,so=some qs->xa qs<=9000000
def j6a(hfs:∀r∈fs,xa r.2<=9000000)(ok:Yg p so)(e:Kb fs p so=.jobs row so'):∀q∈row,Yg q so':=by
 obtain⟨o1,o2⟩:=ok;cases p with
 |txt y=>cases e
 |tup n ps =>
  simp only[Ga]at o1;cases so with
  |none =>
   simp only[Kb]at e;split at e;rename_i r er;cases e;obtain⟨r0,hr0,e0,_⟩:=Tj er;have hb:=hfs r0 hr0;rw[e0]at hb;exact fun q hq=>⟨le_trans (mF hq) hb,fun qs eq=>by cases eq;lia⟩;cases e
  |some qs =>
   simp only[Kb]at e;split at e;cases e;exact fun q hq=>⟨le_trans (mF hq) (o2 _ rfl),fun qs eq=>by cases eq⟩;cases e
def q8j(ok:Yg p so)(e:Kb fs p so=.opens n ps):∀q∈ps,Yg q so:=by
 obtain⟨o1,o2⟩:=ok;have:xa ps<=9000000:=by
  cases p with
  |txt y=>cases e
  |tup n' ps' =>
   simp only[Ga]at o1;cases so with
   |none =>
    simp only[Kb]at e;split at e;cases e;cases e;lia
   |some qs =>
    simp only[Kb]at e;split at e;cases e;cases e;lia
 exact fun q hq=>⟨le_trans (mF hq) this,o2⟩
def Qu:Sp:=fun vs H Q _=>∃(F:Hp)(fs:List (Str×List AB))(rl ra:Addr)(Y0:List (Key×V))(rvs:List V)(ps:List AB),vs=[.ref rl,.ref ra]/\BB F H/\Rd F rl (.dK Y0)/\JB F (Jd fs) Y0/\F ra=some (.lst rvs)/\DB F (pDs ps) rvs/\(∀r∈fs,xa r.2<=9000000)/\xa ps<=9000000/\wL fs ps<=9000000 /\
 ∀(l:Addr)(us o:List V)(Fp:List Addr)(H':Hp),H l=none->BB H H'->H' l=some (.lst us)->QB H' us (yE fs ps) o Fp->(∀b∈Fp,H b=none)->(l::Fp).Nodup->Q (.ref l) H'
structure CInv (F H:Hp)(fs:List (Str×List AB))(rl ra told wa:Addr)(W0:Nat)(Post:Hp->Prop)(js:List Job)(ts:List Addr)(m:Nat)(σ:St)(H2:Hp):Prop where
 st:∃x4,σ=[some (.ref rl),some (.ref ra),some (.ref told),some (.ref wa),x4]
 hm:m=jwT fs js
 wl:H2 wa=some (.lst (ts.map V.ref))
 at':IB (fun(j:Job) t=>KC F H2 j.1 j.2.1 j.2.2 t) js.reverse ts
 same:BB H H2
 ok:∀j∈js,Yg j.1 j.2.2/\H j.2.1=none/\j.2.1≠wa/\∃us,H2 j.2.1=some (.lst us)/\us.length+m<=W0
 post:∀H',Ev fs wa js H2 H'->Post H'
def Io{G:α'->β->Prop}{f:α->α'}{as:List α}{bs:List β}(h:IB (fun a b=>G (f a) b) as bs):IB G (as.map f) bs:=by
 induction h with
 |nil=>exact .nil
 |cons g _ ih=>exact .cons g ih
def KC.keep(h:KC F H p tg so t)(k:∀xs,H t=some (.tup xs)->H' t=some (.tup xs)):KC F H' p tg so t:=by obtain⟨v,sv,e,r⟩:=h;exact⟨v,sv,k _ e,r⟩
def x7n(U:AE P w base K mg)(kts:kitOne K (.type "tuple") (.type "str")=some false):FE U CX0 3 U.u3b Qu:=by
 have u5j:=Ku U;have u8p:=q7g U kts;refine (En U.u3b).F.ok tj (fun vs H Q E h=>?_) (fun cdv A V0 s H vs Q E hr h=>?_);obtain⟨_,_,_,_,_,_,_,rfl,_⟩:=h;rfl;obtain⟨F,fs,rl,ra,Y0,rvs,ps,rfl,sF,hrl,rk,hra,rra,b1,b2,b3,q⟩:=h;refine⟨_,(Ra (Cb (i:=2) tj.nd rfl (Or.inl rfl) (ac Da))
  (Ra (Cb (i:=3) tj.nd rfl (Or.inl rfl) (zb u5j (En U.u3h) (Aa (pv 1) (Aa (pv 2) (Aa gg Da)))))
  (Ra (wk PassesOwn.never (zk (pv 3) (fun _=>rfl)) (Ra (Cb (i:=4) tj.nd rfl (Or.inl rfl) (Kk slot_list_pop type_list_pop Bi (pv 3)))
  (Ya (Vb (Be slot_list_extend type_list_extend eh (pv 3) (Aa (zb u8p (En U.u4j) (Aa (pv 0) (Aa (Bb Eb (pv 4) Ab (fun _ _=>rfl)) (Aa (Bb Eb (pv 4) Ab (fun _ _=>rfl)) (Aa (Bb Eb (pv 4) Ab (fun _ _=>rfl)) Da))))) Da))))))
  (Ya (Sc (pv 2)))))),?_⟩
 have sz:=Oa;walk_at "rs";refine⟨by lia,fun told hto=>?_⟩;have hra1:(upd H told (HO.lst [])) ra=some (.lst rvs):=by rw[ya (Sa (sF _ _ hra) hto)];exact sF _ _ hra
 have hpsl:=nc ps;refine⟨ra,told,.non,rvs,rfl,hra1,by rw[<-rra.len,Cc];lia,fun wa ts H1 hwa s1 e1 h1=>?_⟩;have sH1:BB H H1:=(BB.of_new hto).trans s1;have hwaH:H wa=none:=by rw[upd_none]at hwa;exact hwa.2
 have nwt:told≠wa:=fun z=>by rw[z,z0g]at hwa;cases hwa
 have hFwa:F wa=none:=sF.free hwaH;have w0:CInv F H fs rl ra told wa (wL fs ps) (fun H'=>Q (.ref told) H') (mkJ ps told none) ts (wL fs ps) [some (.ref rl),some (.ref ra),some (.ref told),some (.ref wa),none] H1:=by
  refine⟨⟨none,rfl⟩,by rw[Ho];rfl,e1,?_,sH1,fun j hj=>?_,fun H' ev=>?_⟩;rw[mkJ,<-map_reverse];rw[Xc]at rra;have hr':=rra.rev;rw[<-map_reverse]at hr';exact Io (ye (Eo (H:=upd H told (HO.lst [])) (so:=none) rfl hr' h1) fun p t g=>g.1);obtain⟨p,hp,rfl⟩:=mem_map.mp hj;exact⟨⟨le_trans (mF hp) b2,fun qs e=>by cases e⟩,hto,nwt,[],s1 _ _ z0g,by simp⟩;have ev':Ev fs wa (mkJ ps told none++[]) H1 H':=by rw[append_nil];exact ev
  obtain⟨H3,vs,o,Fp,t3,r3,f3,nd3,k3,w3,ev3⟩:=j8f (wL fs ps) ps none told [] H1 H' [] (le_refl _) ev' (s1 _ _ z0g) nwt ⟨_,e1⟩;cases ev3;refine q told vs o Fp H' hto (fun b o' eb=>k3 b o' (fun z=>by rw[z,hto]at eb;cases eb) (fun z=>by rw[z,hwaH]at eb;cases eb) (sH1 _ _ eb)) (by simpa using t3) r3 (fun b hb=>sH1.free (f3 b hb)) (nodup_cons.mpr ⟨fun hm=>(by have:=f3 _ hm;rw[s1 _ _ z0g]at this;cases this),nd3⟩)
 refine⟨fun m σ H2=>∃js ts,CInv F H fs rl ra told wa (wL fs ps) (fun H'=>Q (.ref told) H') js ts m σ H2,⟨_,_,_,w0⟩,?_⟩;rintro m σ H2 ⟨js,ts,⟨x4,rfl⟩,rfl,hwl,hat,hsm,hok,hpost⟩;refine⟨_,rfl,!(ts.map V.ref).isEmpty,.inl ⟨_,SqL.of hwl,rfl⟩,?_⟩;cases js with
 |nil =>
  cases hat
  exact kB ⟨_,rfl,hpost H2 .nil⟩
 |cons j js =>
  obtain⟨p,tg,so⟩:=j;rw[reverse_cons]at hat
  obtain⟨ts',t,rfl,hat',hj⟩:=xu hat
  obtain⟨v,sv,ht,rv,hsv⟩:=hj;have e0:(!(List.map V.ref (ts'++[t])).isEmpty)=true:=by simp
  rw[if_pos e0];refine⟨fun σ' H'=>∃m',m' < jwT fs ((p,tg,so)::js)/\∃js ts,CInv F H fs rl ra told wa (wL fs ps) (fun H'=>Q (.ref told) H') js ts m' σ' H',fun σ' H' h=>h,?_⟩;obtain⟨okj,hHt,ntw,us,htg,hul⟩:=hok (p,tg,so) mem_cons_self;simp only at okj hHt ntw htg hul ht rv hsv;have hFt:F tg=none:=sF.free hHt;have hlast:(List.map V.ref (ts'++[t]))[(List.map V.ref (ts'++[t])).length - 1]? = some (.ref t):=by simp
  have hdl:(List.map V.ref (ts'++[t])).dropLast=ts'.map V.ref:=by simp
  have ntwa:t≠wa:=Wd ht hwl (by intro z;cases z);refine⟨_,rfl,wa,rfl,⟨_,hwl⟩,wa,_,.ref t,rfl,rfl,hwl,hlast,?_⟩;rw[hdl];have s2:BB H (upd H2 wa (.lst (ts'.map V.ref))):=hsm.upd hwaH;have k2:∀b o,b≠wa->H2 b=some o->upd H2 wa (.lst (ts'.map V.ref)) b=some o:=fun b o hb e=>by rw[ya hb];exact e
  have ht2:=k2 t _ ntwa ht;have htg2:=k2 tg _ ntw htg;have hwa2:upd H2 wa (.lst (ts'.map V.ref)) wa=some (.lst (ts'.map V.ref)):=z0g;generalize upd H2 wa (.lst (ts'.map V.ref))=H3 at s2 k2 ht2 htg2 hwa2;have hlen:=hat'.len;have hjl:=Pu fs js;have hjp:=Ou fs p so;simp only[jwT]at hul hjl ⊢;refine⟨_,rfl,wa,rfl,⟨_,hwa2⟩,?_⟩;show z8n Mu [] E0 _ _ H3 _;refine⟨_,rfl,_,rfl,t,rfl,0,rfl,_,ht2,_,aC,_,rfl,t,rfl,1,rfl,_,ht2,_,tF,_,rfl,t,rfl,2,rfl,_,ht2,_,atI2,?_⟩;refine⟨F,fs,rl,Y0,p,v,tg,us,sv,so,rfl,sF.trans s2,hrl,rk,rv,hsv,htg2,by lia,hFt,b1,okj.1,okj.2,?_⟩;have fin:∀(l:Addr)(zs:List Addr)(H4:Hp)(js2:List Job),H3 l=none->(∀b o,b≠tg->H3 b=some o->H4 b=some o)->H4 l=some (.lst (zs.map V.ref))->jwT fs js2+1=jw fs p so->IB (fun(j:Job) t=>KC F H4 j.1 j.2.1 j.2.2 t/\t≠wa) js2.reverse zs->(∃us',H4 tg=some (.lst us')/\us'.length<=us.length+1) ->
    (∀j∈js2,Yg j.1 j.2.2/\H j.2.1=none/\j.2.1≠wa/\∃us',H4 j.2.1=some (.lst us')/\us'.length<=us.length+1) ->
    (∀H5,(∀b o,b≠wa->H4 b=some o->H5 b=some o)->(∃xs,H5 wa=some (.lst xs))->∀H',Ev fs wa (js2++js) H5 H'->Q (.ref told) H') ->
    z7h (.ref wa) [.ref l] H4 fun _ H5=>∃m',m' < jw fs p so+jwT fs js/\∃js ts,CInv F H fs rl ra told wa (wL fs ps) (fun H'=>Q (.ref told) H') js ts m' [some (.ref rl),some (.ref ra),some (.ref told),some (.ref wa),some (.ref t)] H5:=by
   intro l zs H4 js2 hl kp4 hl4 hw hz htg4 hok2 hp2;have hwa4:=kp4 wa _ (Ne.symm ntw) hwa2;have hzl:=hz.len;have hj2:=Pu fs js2;simp only[length_reverse]at hzl hlen;refine⟨wa,l,_,_,rfl,rfl,hwa4,hl4,by simp only[length_map];lia,jwT fs (js2++js),by rw[Yj];lia,js2++js,ts'++zs,⟨_,rfl⟩,rfl,by rw[z0g];simp,?_,?_,?_,?_⟩
   ·rw[reverse_append];refine fi (ye hat' fun j t' h=>?_) (ye hz fun j t' h=>?_);refine h.keep fun xs e=>?_;have n1:t' ≠ wa:=Wd e hwl (by intro z;cases z);have n2:t' ≠ tg:=Wd e htg (by intro z;cases z);rw[ya n1];exact kp4 t' _ n2 (k2 t' _ n1 e);exact h.1.keep fun xs e=>by rw[ya h.2];exact e
   ·intro b o e;have n1:b≠wa:=fun z=>by rw[z,hwaH]at e;cases e
    have n2:b≠tg:=fun z=>by rw[z,hHt]at e;cases e
    rw[ya n1];exact kp4 b o n2 (s2 b o e)
   ·intro j hj;rcases mem_append.mp hj with hj|hj;obtain⟨o1,o2,o3,us',o4,o5⟩:=hok2 j hj;exact⟨o1,o2,o3,us',by rw[ya o3];exact o4,by rw[Yj];lia⟩;obtain⟨o1,o2,o3,us',o4,o5⟩:=hok j (mem_cons_of_mem _ hj);simp only[jwT]at o5;refine⟨o1,o2,o3,?_⟩;by_cases e:j.2.1=tg;obtain⟨us4,h4,h5⟩:=htg4;exact⟨us4,by rw[ya o3,e];exact h4,by rw[Yj];lia⟩;exact⟨us',by rw[ya o3];exact kp4 _ _ e (k2 _ _ o3 o4),by rw[Yj];lia⟩
   exact fun H' ev=>hp2 _ (fun b o hb e=>by rw[ya hb];exact e) ⟨_,z0g⟩ H' ev
  cases es:Kb fs p so with
  |text z =>
   intro l H4 hl kp4 htg4 hl4;refine fin l [] H4 [] hl kp4 hl4 (by rw[(Vj es).2];rfl) .nil ⟨_,htg4,by simp⟩ (fun j hj=>by cases hj) fun H5 kp5 hw5 H' ev=>?_;exact hpost H' (.text es htg (kp5 tg _ ntw htg4) (fun b o a c e=>kp5 b o c (kp4 b o a (k2 b o c e))) hw5 ev)
  |jobs row so' =>
   intro l H4 hl hs4 hjA;obtain⟨ts2,hl4,h4⟩:=hjA;have hok2:=j6a b1 okj es;refine fin l ts2 H4 (mkJ row tg so') hl (fun b o _ e=>hs4 b o e) hl4 (by rw[Ho,(Wj es).2];lia) ?_ ⟨us,hs4 _ _ htg2,by lia⟩ (fun j hj=>?_) fun H5 kp5 hw5 H' ev=>?_;rw[mkJ,<-map_reverse];exact Io (ye h4 fun p' t' g=>⟨g.1,fun z=>by rw[z,hwa2]at g;cases g.2⟩);obtain⟨p',hp',rfl⟩:=mem_map.mp hj;exact⟨hok2 p' hp',hHt,ntw,us,hs4 _ _ htg2,by lia⟩;exact hpost H' (.jobs es (fun b o c e=>kp5 b o c (hs4 b o (k2 b o c e))) hw5 ev)
  |opens nm qs =>
   intro a0 tp l H4 hin htp hl nit nli kp4 htg4 htp4 hin4 hjA;obtain⟨ts2,hl4,h4⟩:=hjA;have hok2:=q8j okj es;have niw:a0≠wa:=fun z=>by rw[z,hwa2]at hin;cases hin
   have ntp:tp≠wa:=fun z=>by rw[z,hwa2]at htp;cases htp
   have U.u4j.choose:∀b,b≠wa->H3 b=none->H2 b=none:=fun b hb e=>by
    cases z:H2 b with
    |none=>rfl
    |some o=>rw[k2 b o hb z]at e;cases e
   refine fin l ts2 H4 (mkJ qs a0 so) hl kp4 hl4 (by rw[Ho,(Xj es).2];lia) ?_ ⟨_,htg4,by simp⟩ (fun j hj=>?_) fun H5 kp5 hw5 H' ev=>?_;rw[mkJ,<-map_reverse];exact Io (ye h4 fun p' t' g=>⟨g.1,fun z=>by rw[z,hwa2]at g;cases g.2⟩);obtain⟨p',hp',rfl⟩:=mem_map.mp hj;exact⟨hok2 p' hp',s2.free hin,niw,[],hin4,by simp⟩;exact hpost H' (.opens es htg (U.u4j.choose _ niw hin) (U.u4j.choose _ ntp htp) (kp5 tg _ ntw htg4) (kp5 tp _ ntp htp4) (kp5 a0 _ niw hin4) (fun b o a c e=>kp5 b o c (kp4 b o a (k2 b o c e))) hw5 ev)
def QB.reps(h:QB H vs ps o F):DB H (pDs ps) vs:=by
 induction h with
 |nil=>rfl
 |txt _ ih=>exact⟨_,_,rfl,rfl,ih⟩
 |tup ht hl h1 h2 ih1 ih2=>exact⟨_,_,rfl,⟨_,_,rfl,ht,_,_,rfl,rfl,_,_,rfl,⟨_,_,rfl,hl,ih1⟩,rfl⟩,ih2⟩
theorem Ru:∀(fs pre:List (Str×List AB)),((pre++fs).map (·.1)).Nodup->(fs.map fun r=>(r.1,D.lst (pDs r.2))).foldl (fun n0 p=>uB n0 p.1 p.2) (Jd pre)=Jd (pre++fs)
 | [],pre,_=>by simp
 |r::fs,pre,h=>by
  have hn:r.1∉pre.map (·.1):=fun hm=>by
   rw[map_append,map_cons]at h;exact(nodup_append.mp h).2.2 r.1 hm r.1 mem_cons_self rfl
  have e1:(Jd pre).any (fun kv=>decide (kv.1=Sum.inr r.1))=false:=by
   rw[List.any_eq_false];intro x hx hd;obtain⟨r',hr,rfl⟩:=mem_map.mp hx;exact hn (mem_map.mpr ⟨r',hr,by simpa using hd⟩)
  rw[map_cons,foldl_cons];have e2:uB (Jd pre) r.1 (D.lst (pDs r.2))=Jd (pre++[r]):=by
   unfold uB;rw[e1];simp[Jd]
  show List.foldl _ (uB (Jd pre) r.1 (D.lst (pDs r.2))) _=_;rw[e2,Ru fs (pre++[r]) (by simpa using h)];simp
mutual
theorem q8q {fs:List (Str×List AB)}:∀p:AB,st1 p=0->yH fs p=jG fs p
 |.txt s,_=>rfl
 |.tup n ps,h=>by
  simp only[st1]at h;have hn:n ≠ "*":=fun e=>by rw[if_pos e]at h;lia
  have ih:=Jo (fs:=fs) ps (by lia);simp only[yH,jG,hn,if_false,ih]
  all_goals (cases Ub fs n<;>rfl)
theorem Jo {fs:List (Str×List AB)}:∀ps:List AB,stL ps=0->yE fs ps=bC fs ps
 | [],_=>rfl
 |p::ps,h=>by
  simp only[stL]at h;simp only[yE,bC,q8q p (by lia),Jo ps (by lia)]
end
mutual
theorem k0n (k:Nat):∀p:AB,wf1 k p<=Ga p+st1 p * k
 |.txt s=>by simp[wf1,Ga]
 |.tup n ps=>by
  have ih:=Ko k ps;simp only[wf1,Ga,st1,add_mul];by_cases h:n = "*";rw[if_pos h,if_pos h];lia;rw[if_neg h,if_neg h];lia
theorem Ko (k:Nat):∀ps:List AB,wfL k ps<=xa ps+stL ps * k
 | []=>by simp[wfL]
 |p::ps=>by
  have h1:=k0n k p;have h2:=Ko k ps;simp only[wfL,xa,stL,add_mul];lia
end
mutual
theorem w1_le {fs:List (Str×List AB)}(ok:∀r∈fs,xa r.2<=40/\stL r.2<=1):∀p:AB,w1 fs p<=41 * Ga p
 |.txt s=>by simp[w1,Ga]
 |.tup n ps=>by
  have ih:=Lo ok ps;simp only[w1,Ga];cases e:Ub fs n with
  |none=>simp only;lia
  |some row =>
   obtain⟨r,hr,rfl,_⟩:=Tj e;obtain⟨s1,s2⟩:=ok r hr;have f1:=Ko (wL fs ps) r.2;have f3:stL r.2 * wL fs ps<=1 * wL fs ps:=mul_le_mul_right _ s2;simp only;lia
theorem Lo {fs:List (Str×List AB)}(ok:∀r∈fs,xa r.2<=40/\stL r.2<=1):∀ps:List AB,wL fs ps<=41 * xa ps
 | []=>by simp[wL]
 |p::ps=>by
  have h1:=w1_le ok p;have h2:=Lo ok ps;simp only[wL,xa];lia
end
mutual
theorem dep_pD:∀p:AB,dep (pD p)<=2 * dp1 p
 |.txt s=>by simp[pD,dep]
 |.tup n ps=>by
  have:=Zj ps;simp only[pD,dep,nB,dp1];lia
theorem Zj:∀ps:List AB,nB (pDs ps)<=2 * dpL ps
 | []=>by simp[pDs,nB]
 |p::ps=>by
  have h1:=dep_pD p;have h2:=Zj ps;simp only[pDs,nB,dpL];lia
end
mutual
theorem j7w:∀p:AB,eqb (pD p)=true
 |.txt s=>rfl
 |.tup n ps=>by have:=ak ps;simp[pD,eqb,cC,this]
theorem ak:∀ps:List AB,cC (pDs ps)=true
 | []=>rfl
 |p::ps=>by simp[pDs,cC,j7w p,ak ps]
end
theorem Su:∀fs:List (Str×List AB),(∀r∈fs,dpL r.2<=3)->nB (fs.map Ua)<=8
 | [],_=>by simp[nB]
 |r::fs,h=>by
  have h1:=h r mem_cons_self;have h2:=Su fs fun q hq=>h q (mem_cons_of_mem _ hq);have h3:=Zj r.2;simp only[map_cons,Ua,nB,dep];lia
theorem Tu:∀fs:List (Str×List AB),cC (fs.map Ua)=true
 | []=>rfl
 |r::fs=>by
  have h2:=Tu fs;simp[map_cons,Ua,cC,eqb,ak,h2]
noncomputable def Ld:List Str->List (Str×List AB)->Option (Bool×Str)
 |_,[]=>none
 |met,r::fs=>if r.1∈met then some (true,r.1) else if 1<stL r.2 then some (false,r.1) else Ld (met++[r.1]) fs
noncomputable abbrev qH (fs:List (Str×List AB)):Option (Bool×Str):=Ld [] fs
def j5g:bootBuiltins "ValueError" = some (.type "ValueError"):=by decide +kernel
inductive Kd where
 |tw|nn|st
noncomputable def Kd.str:Kd->Str
 |.tw=>"twice"
 |.nn=>"none"
 |.st=>"stars"
noncomputable def Kd.cls (CT CN CS:Addr):Kd->Addr
 |.tw=>CT
 |.nn=>CN
 |.st=>CS
noncomputable def isK:Option Kd->Kd->Bool
 |some .tw,.tw=>true
 |some .nn,.nn=>true
 |some .st,.st=>true
 |_,_=>false
noncomputable def tyK (CT CN CS:Addr):Option Kd->Value
 |none=>.type "NoneType"
 |some c=>.ref (c.cls CT CN CS)
structure XR (K:W.Frag)(mg:Str->Option Value)(CF CT CN CS Ct Cp Ck:Addr):Prop where
 z_ValueError:mg "ValueError" = none
 g_FerryError:mg "FerryError" = some (.ref CF)
 q_FerryError:xH K CF=true
 g_Twice:mg "Twice" = some (.ref CT)
 g_NoName:mg "NoName" = some (.ref CN)
 g_Stars:mg "Stars" = some (.ref CS)
 g_NoText:mg "NoText" = some (.ref Ct)
 g_NoPort:mg "NoPort" = some (.ref Cp)
 g_Taken:mg "Taken" = some (.ref Ck)
 i_Twice:∃fI fd od O0,iE K CT (.ref CF::bF) fI=true/\Fun K "__init__" "Twice.__init__" i_Twice fI fd/\OB K fd ["self","name"] []/\K.lookup fI=some ⟨.type "function",od,.func fd,O0⟩
 i_NoName:∃fI fd od O0,iE K CN (.ref CF::bF) fI=true/\Fun K "__init__" "NoName.__init__" i_NoName fI fd/\OB K fd ["self","name"] []/\K.lookup fI=some ⟨.type "function",od,.func fd,O0⟩
 i_Stars:∃fI fd od O0,iE K CS (.ref CF::bF) fI=true/\Fun K "__init__" "Stars.__init__" i_Stars fI fd/\OB K fd ["self","name"] []/\K.lookup fI=some ⟨.type "function",od,.func fd,O0⟩
 k_Twice:keepIn K (.ref CT)=true
 k_NoName:keepIn K (.ref CN)=true
 k_Stars:keepIn K (.ref CS)=true
 n_Twice:∀t:Option Kd,kitOne K (tyK CT CN CS t) (.ref CT)=some (isK t .tw)
 n_NoName:∀t:Option Kd,kitOne K (tyK CT CN CS t) (.ref CN)=some (isK t .nn)
 n_Stars:∀t:Option Kd,kitOne K (tyK CT CN CS t) (.ref CS)=some (isK t .st)
 n_NoText:∀t:Option Kd,kitOne K (tyK CT CN CS t) (.ref Ct)=some (false)
 n_NoPort:∀t:Option Kd,kitOne K (tyK CT CN CS t) (.ref Cp)=some (false)
 n_Taken:∀t:Option Kd,kitOne K (tyK CT CN CS t) (.ref Ck)=some (false)
 n_ValueError:∀t:Option Kd,kitOne K (tyK CT CN CS t) (.type "ValueError")=some (t.isSome)
variable {CF CT CN CS Ct Cp Ck:Addr}
def XR.x_Twice (Y:XR K mg CF CT CN CS Ct Cp Ck):XK1 P w K mg base "Twice" "name" CT:=by obtain⟨fI,fd,od,O0,q,F,b,lk⟩:=Y.i_Twice;exact⟨⟨_,fI,fd,q,Am F yA rfl q (by simp),b,_,lk,rfl⟩,Y.g_Twice,Y.k_Twice⟩
def XR.x_NoName (Y:XR K mg CF CT CN CS Ct Cp Ck):XK1 P w K mg base "NoName" "name" CN:=by obtain⟨fI,fd,od,O0,q,F,b,lk⟩:=Y.i_NoName;exact⟨⟨_,fI,fd,q,Am F zA rfl q (by simp),b,_,lk,rfl⟩,Y.g_NoName,Y.k_NoName⟩
def XR.x_Stars (Y:XR K mg CF CT CN CS Ct Cp Ck):XK1 P w K mg base "Stars" "name" CS:=by obtain⟨fI,fd,od,O0,q,F,b,lk⟩:=Y.i_Stars;exact⟨⟨_,fI,fd,q,Am F AA rfl q (by simp),b,_,lk,rfl⟩,Y.g_Stars,Y.k_Stars⟩
def _root_.L2.Fun.okX(F:Fun K x qual st f fd)(S:CB N ps (Ca st))(len:∀vs H Q E,sp vs H Q E->vs.length=ps.length)
  (hbody:∀(cdv:Value)(A:Around)(V0:List Env)(s:Shared)(H:Hp)(vs:List V)(Q:VK)(E:XK),KB k (A.deeper (PyProof.Rows.envOfC qual (Ca st) s.heap.objs.size f cdv))->sp vs H Q E ->
   ∃t,PSs (rC (CX1 P w) P w K mg base N qual (Ca st) f cdv A V0 s H E) (jc st) t/\t { nx:=fun _ H'=>Q .non H',rt:=Q } (start N vs) H):MB P w K mg base (CX1 P w) (k+1) f fd ps sp:=by
 obtain⟨oc,od,kV,doc,pm,an,cdv,ct,O0,rfl,lk,hcd⟩:=F.ex;exact Ak lk hcd S len fun A V0 s H vs Q E hr hsp=>hbody cdv A V0 s H vs Q E hr hsp
def LC (C:Addr)(nm:Str)(H:Hp)(E:XK):Prop:=∀x dx H',BB H H'->H' x=some (XO C dx x)->H' dx=some (.xd [("name",.str nm)])->E (.ref x) (some dx) H'
def XDue (CT CS:Addr)(o:Bool×Str)(H:Hp)(E:XK):Prop:=LC (if o.1 then CT else CS) o.2 H E
noncomputable def bg (fs:List (Str×List AB)):List (Key×V):=fs.map fun r=>(Sum.inr r.1,.bl true)
def x8x (pre:List (Str×List AB))(nm:Str):(iB (bg pre) (Sum.inr nm)).isSome=decide (nm∈pre.map (·.1)):=by unfold iB bg;rw[isSome_map];by_cases h:nm∈pre.map (·.1);rw[decide_eq_true h,List.find?_isSome];obtain⟨r,hr,e⟩:=mem_map.mp h;exact⟨_,mem_map.mpr ⟨r,hr,rfl⟩,by simp[e]⟩;rw[decide_eq_false h,Bool.eq_false_iff];intro z;rw[List.find?_isSome]at z;obtain⟨x,hx,hd⟩:=z;obtain⟨r,hr,rfl⟩:=mem_map.mp hx;exact h (mem_map.mpr ⟨r,hr,by simpa using hd⟩)
def q0v(h:nm∉pre.map (·.1)):rB (bg pre) (Sum.inr nm) (.bl true)=bg (pre++[(nm,row)]):=by unfold rB;rw[if_neg];simp[bg];intro z;obtain⟨x,hx,hd⟩:=any_eq_true.mp z;obtain⟨r,hr,rfl⟩:=mem_map.mp hx;exact h (mem_map.mpr ⟨r,hr,by simpa using hd⟩)
def Uu(s:BB H H1)(n1:H1 x=none)(n2:H1 dx=none):BB H (upd (upd H1 dx o1) x o2):=fun b o e=>by
 have e1:=s b o e;rw[ya (Sa e1 n1),ya (Sa e1 n2)];exact e1
def noX(G:MB P w K mg base (CX1 P w) k f fd ps sp)(h:∀vs H Q E,sp0 vs H Q E->sp vs H Q (fun _ _ _=>False)):MB P w K mg base CX0 k f fd ps sp0 :=
 ⟨fun vs H Q E q=>G.len _ _ _ _ (h _ _ _ _ q),fun A V0 s H args us vs Q E hr he hb hv hs=>codeAny_mono (G.run A V0 s H args us vs Q _ hr he hb hv (h _ _ _ _ hs)) fun r s' q=>by
  cases r with
  |ok fl=>cases fl<;>exact q
  |error e =>
   obtain⟨_,_,_,_,_,_,_,_,_,_,_,_,_,_,_,_,z,_⟩:=q;exact z.elim⟩
def Mo (CT CS:Addr):Sp:=fun vs H Q E=>∃(fs:List (Str×List AB))(vf:V),vs=[vf]/\Rep H (.lst (fs.map Ua)) vf/\fs.length<=1000/\(∀r∈fs,xa r.2<=1000000)/\(∀o,qH fs=some o->XDue CT CS o H E)/\(qH fs=none->∀H',BB H H'->Q .non H')
def Vu(Y:XR K mg CF CT CN CS Ct Cp Ck)(U:AE P w base K mg):FE U (CX1 P w) 4 U.u0f (Mo CT CS):=by
 have u8q:=q8v U;refine (En U.u0f).F.okX sj (fun vs H Q E h=>?_) (fun cdv A V0 s H vs Q E hr h=>?_);obtain⟨_,_,rfl,_⟩:=h;rfl;obtain⟨fs,vf,rfl,rep,hl,hsz,wish,good⟩:=h;have hu:=wb hr;refine⟨_,(Ra (Cb (i:=1) sj.nd rfl (Or.inl rfl) Fi)
  (Ya (Re PassesOwn.leaving rfl (ze (pv 0)) (ui rfl (kg (jd (i:=2) sj.nd rfl (Or.inl rfl)) (kg (jd (i:=3) sj.nd rfl (Or.inl rfl)) qi))) (Ra (vc (jg (kh (hu1 hu) (pv 2) (pv 1)) rfl) (Ya (Bm Y.x_Twice (hr.mono (by lia)) rfl (Aa (pv 2) Da))) dc)
  (Ra (vc (Yd ng (zb u8q (En U.u3x) (Aa (pv 3) Da)) Ab (Ha _)) (Ya (Bm Y.x_Stars (hr.mono (by lia)) rfl (Aa (pv 2) Da))) dc)
  (Ya (Ei (hu1 hu) (pv 1) (pv 2) nk rfl))))))),?_⟩
 have sz:=Oa;obtain⟨a,us,rfl,ha,rs⟩:=rep;walk_at "rs";have hlen:us.length=fs.length:=by have:=rs.len;simpa using this.symm
 refine fun p hp=>⟨⟨us,SqL.of (by rw[ya (Sa ha hp)];exact ha)⟩,uf (xs:=us) (fun i σ H'=>∃pre l0 x2 x3,fs=pre++l0/\pre.length=i/\Ld (pre.map (·.1)) l0=qH fs/\σ=[some (.ref a),some (.ref p),x2,x3]/\BB H H'/\H' p=some (.dK (bg pre))) ⟨[],fs,none,none,rfl,rfl,rfl,rfl,fun b ob e=>by rw[ya (Sa e hp)];exact e,z0g⟩ (fun i σ H' _ h=>?_) (fun i x σ H' hx h=>?_) fun σ H' h=>?_⟩;obtain⟨_,_,_,_,_,_,_,_,sm,_⟩:=h;exact SqL.of (sm _ _ ha)
 ·obtain⟨pre,l0,x2,x3,e1,e2,e3,rfl,sm,hd⟩:=h;have hi:=(List.getElem?_eq_some_iff.mp hx).1;cases l0 with
  |nil=>rw[append_nil]at e1;rw[e1,e2]at hlen;lia
  |cons r0 l0 =>
   obtain⟨nm,row⟩:=r0;obtain⟨v,hv,rv⟩:=rs.get (i:=i) (d:=Ua (nm,row)) (by rw[e1];simp[<-e2]);rw[hx]at hv;cases hv;obtain⟨t,vs2,rfl,ht,v1,r1,rfl,rv1,v2,r2,rfl,rv2,r3⟩:=rv;cases(show r2=[] from r3);cases(show v1=.str nm from rv1);have ht2:=sm _ _ ht;walk_at "rs";refine⟨_,.inl (.inl ht2),rfl,_,_,rfl,_,_,rfl,rfl,?_⟩;rw[show Ld (pre.map (·.1)) ((nm,row)::l0)=(if nm∈pre.map (·.1) then some (true,nm) else if 1<stL row then some (false,nm) else Ld (pre.map (·.1)++[nm]) l0) from rfl]at e3;walk_at "rd";refine⟨_,NB.o hd,?_⟩;rw[x8x];simp only[decide_eq_true_eq];refine jB (fun hn=>?_) fun hn=>?_;rw[if_pos hn]at e3;exact fun x dx n1 n2 n3=>wish _ e3.symm x dx _ (Uu sm n1 n2) z0g (by rw[ya n3,z0g]);rw[if_neg hn]at e3;refine Dd (ds:=[.lst (pDs row)]) (DB.one (Rep.mono sm _ _ rv2)) (Qd:=fun _ d _=>d=.int (stL row)) ⟨row,rfl,hsz (nm,row) (by rw[e1];simp),rfl⟩ fun b d δ' v H2 s2 qd r2=>?_;cases qd;cases(show v=.int (stL row) from r2);refine⟨_,rfl,jB (fun h=>?_) fun h=>?_⟩;rw[if_pos (show 1<stL row by lia)]at e3;exact fun x dx n1 n2 n3=>wish _ e3.symm x dx _ (Uu (sm.trans s2) n1 n2) z0g (by rw[ya n3,z0g]);rw[if_neg (show ¬1<stL row by lia)]at e3;have K0:pre.length<=fs.length:=by rw[e1];simp
   refine⟨_,HC.s (s2 _ _ hd) (by simp[bg];lia),pre++[(nm,row)],l0,by simp[e1],by simp[e2],by rw[map_append];exact e3,fun b o e=>?_,by rw[z0g,q0v hn]⟩;have e4:=(sm.trans s2) b o e;rw[ya];exact e4;intro z;subst z;rw[hp]at e;cases e
 obtain⟨pre,l0,x2,x3,e1,e2,e3,rfl,sm,hd⟩:=h;rw[hlen]at e2;have:l0=[]:=by
  have:=congrArg List.length e1;rw[length_append]at this;exact List.eq_nil_of_length_eq_zero (by lia)
 subst this;exact good e3.symm _ sm
structure ZC (fs:List (Str×List AB)):Prop where
 len:fs.length<=8
 ok:∀r∈fs,xa r.2<=40
def ZC.lk(o:ZC fs):fs.length<=1000/\∀r∈fs,xa r.2<=1000000:=⟨le_trans o.len (by decide),fun r h=>le_trans (o.ok r h) (by decide)⟩
def YB.x(o:YB fs):ZC fs:=⟨le_trans o.len (by decide),fun r h=>(o.ok r h).sz⟩
theorem Wu:∀(fs:List (Str×List AB))(met:List Str),(met++fs.map (·.1)).Nodup->(∀r∈fs,stL r.2<=1)->Ld met fs=none
 | [],_,_,_=>rfl
 |r::fs,met,nd,ok=>by
  have h1:r.1∉met:=fun h=>(nodup_append.mp nd).2.2 r.1 h r.1 (by simp) rfl;have h2:=ok r mem_cons_self;unfold Ld;rw[if_neg h1,if_neg (by lia)];exact Wu fs _ (by simpa using nd) fun q hq=>ok q (mem_cons_of_mem _ hq)
def YB.due(o:YB fs):qH fs=none:=Wu fs [] (by simpa using o.nd) fun r h=>(o.ok r h).st
theorem Xu(h:1<stL r.2):∀(fs:List (Str×List AB))(met:List Str),Ld met fs=none->∃b,Ld met (fs++[r])=some (b,r.1)
 | [],met,_=>by
  show ∃b,Ld met [r]=_;unfold Ld;by_cases h1:r.1∈met;exact⟨true,by rw[if_pos h1]⟩;exact⟨false,by rw[if_neg h1,if_pos h]⟩
 |a::fs,met,e=>by
  rw[cons_append];unfold Ld at e ⊢;by_cases h1:a.1∈met;rw[if_pos h1]at e;cases e;rw[if_neg h1]at e ⊢;by_cases h2:1<stL a.2;rw[if_pos h2]at e;cases e;rw[if_neg h2]at e ⊢;exact Xu h fs _ e
noncomputable def zH (T0:Str) (R0:List (Str×Pat)):List AB->Bool
 | [.tup n is]=>decide (x8 T0 R0 n is=[])
 |_=>false
def LC.mono(s:BB H H1)(h:LC C nm H E):LC C nm H1 E:=fun x dx H' s'=>h x dx H' (s.trans s')
def Yu:Sp:=fun vs H Q _=>∃(fs:List (Str×List AB))(vf:V),vs=[vf]/\Rep H (.lst (fs.map Ua)) vf/\ZC fs/\qH fs=none/\∀H',BB H H'->Q .non H'
def Zu (G:MB P w K mg base (CX1 P w) 4 f fd ["ferry"] (Mo CT CS)):MB P w K mg base CX0 4 f fd ["ferry"] Yu :=
 noX G fun vs H Q E h=>by
  obtain⟨fs,vf,e,r,ok,d,q⟩:=h;exact⟨fs,vf,e,r,ok.lk.1,ok.lk.2,fun o z=>(by rw[d]at z;cases z),fun _=>q⟩
def j0g (CN:Addr):Sp:=fun vs H _ E=>∃(T0 r0:Str)(R0:List (Str×Pat))(v:V),vs=[.str T0,v]/\Rep H (.lst (R0.map gc)) v/\LB r0 R0/\T0∉R0.map (·.1)/\LC CN T0 H E
def u9p (Y:XR K mg CF CT CN CS Ct Cp Ck)(U:AE P w base K mg):FE U (CX1 P w) 4 U.u0e (j0g CN):=by
 refine (En U.u0e).F.okX Kg (fun vs H Q E h=>?_) (fun cdv A V0 s H vs Q E hr h=>?_);obtain⟨_,_,_,_,rfl,_⟩:=h;rfl;obtain⟨T0,r0,R0,v,rfl,⟨a,us,rfl,ha,rs⟩,ok,hn,wish⟩:=h;have hu:=wb hr;refine⟨_,(Ra (Cb (i:=2) Kg.nd rfl (Or.inl rfl) (Bk (Nl rfl) rfl U.T.z_dict boot_dict (Aa (pv 1) Da)))
  (Ra (vc (jg (mq (hu1 hu) (pv 0) (pv 2)) rfl) (Ya (Bm Y.x_NoName (hr.mono (by lia)) rfl (Aa (pv 0) Da))) dc)
  (Ya ip))),?_⟩
 have rs':DB H ((R0.map fun r=>(r.1,bB r.2)).map fun p=>D.tup [.str p.1,p.2]) us:=by
  rw[map_map];exact rs
 obtain⟨qs,q1,q2,q3⟩:=ij rs';have q4:=q3 [] [] rfl;have e0:(R0.map fun r=>(r.1,bB r.2)).foldl (fun n0 p=>uB n0 p.1 p.2) []=qD R0:=by rw[List.foldl_map];rfl
 rw[e0]at q4;have hv:=(q4.val T0).2 (by rw[Lj ok.nd,Qn hn];rfl);walk_at "rd";refine⟨us,ha,qs,q1,q2,fun l hl=>⟨_,NB.o z0g,?_⟩⟩;rw[hv];refine⟨true,rfl,?_⟩;rw[if_pos rfl];exact fun x dx a1 a2 a3 a4 a5=>wish x dx _ (fun b o e=>by rw[ya (Sa e a2),ya (Sa e a4),ya (Sa e hl)];exact e) z0g (by rw[ya a5,z0g])
def bv (CN:Addr):Sp:=fun vs H _ E=>∃(T0 r0:Str)(R0:List (Str×Pat))(v:V),vs=[v]/\Rep H (kb T0 R0) v/\LB r0 R0/\T0∉R0.map (·.1)/\LC CN T0 H E
def j7z(Y:XR K mg CF CT CN CS Ct Cp Ck)(U:AE P w base K mg):FE U (CX1 P w) 25 U.u2n (bv CN):=by
 have u3w:=au U;have u5g:=u9p Y U;refine (En U.u2n).F.okX Os (fun vs H Q E h=>?_) (fun cdv A V0 s H vs Q E hr h=>?_);obtain⟨_,_,_,_,rfl,_⟩:=h;rfl;obtain⟨T0,r0,R0,v,rfl,⟨a,us,rfl,ha,y1,r1,rfl,e1,y2,r2,rfl,e2,e3⟩,ok,hn,wish⟩:=h;cases(show r2=[] from e3);cases(show y1=.str T0 from e1);refine⟨_,(Ra (Vb (zb u3w (En U.u0t) (Aa (Bb Eb (pv 0) Ab (fun _ _=>rfl)) Da)))
  (Ya (Vb (ae u5g (hr.mono (by lia)) rfl (En U.u0e).g (En U.u0e).F.kp (En U.u0e).b .nil zm (Aa (Bb Eb (pv 0) Ab (fun _ _=>rfl)) (Aa (Bb Eb (pv 0) Ab (fun _ _=>rfl)) Da)))))),?_⟩
 walk_at "rs";refine⟨_,ha,_,tF,?_⟩;refine Dd (ds:=[.lst (R0.map gc)]) (Qd:=fun b d _=>True) ⟨_,_,rfl,e2,rfl⟩ ⟨r0,R0,rfl,ok,trivial⟩ fun b d δ' v H1 s1 _ _=>?_;exact⟨_,s1 _ _ ha,_,aC,_,s1 _ _ ha,_,tF,T0,r0,R0,_,rfl,Rep.mono s1 _ _ e2,ok,hn,wish.mono s1⟩
def WhyX (CT CN CS:Addr)(fs:List (Str×List AB))(T0:Str)(R0:List (Str×Pat))(o:Kd×Str):Prop :=
 (∃b,qH fs=some (b,o.2)/\o.1=if b then .tw else .st)\/(qH fs=none/\(∃r0,LB r0 R0)/\T0∉R0.map (·.1)/\o=(.nn,T0))
def gv (CT CN CS:Addr):Sp:=fun vs H _ E=>∃(fs:List (Str×List AB))(T0:Str)(R0:List (Str×Pat))(vf v1 v2:V)(o:Kd×Str),vs=[vf,v1,v2]/\Rep H (.lst (fs.map Ua)) vf/\ZC fs/\Rep H (kb T0 R0) v1/\WhyX CT CN CS fs T0 R0 o/\LC (o.1.cls CT CN CS) o.2 H E
def p0k(U:AE P w base K mg)(u4l:FE U (CX1 P w) 4 U.u0f (Mo CT CS))(u8r:FE U (CX1 P w) 25 U.u2n (bv CN)):FE U (CX1 P w) 26 U.u1o (gv CT CN CS):=by
 refine (En U.u1o).F.okX Gm (fun vs H Q E h=>?_) (fun cdv A V0 s H vs Q E hr h=>?_);obtain⟨_,_,_,_,_,_,_,rfl,_⟩:=h;rfl;obtain⟨fs,T0,R0,vf,v1,v2,o,rfl,rep,ok,r1,why,wish⟩:=h;rcases why with ⟨b,hd,ho⟩|⟨hd,⟨r0,fo⟩,hn,rfl⟩
 ·refine⟨_,(Ra (Vb (ae u4l (hr.mono (by lia)) rfl (En U.u0f).g (En U.u0f).F.kp (En U.u0f).b .nil zm (Aa (pv 0) Da)))
  jp),?_⟩
  walk_at "rs";refine⟨fs,vf,rfl,rep,ok.lk.1,ok.lk.2,fun o' z=>?_,fun z=>(by rw[hd]at z;cases z)⟩;rw[hd]at z;cases z;rw[ho]at wish;unfold XDue;cases b<;>exact wish
 have u3y:=Zu u4l;refine⟨_,(Ra (Vb (zb u3y (En U.u0f) (Aa (pv 0) Da)))
 (Ra (Vb (ae u8r (hr.mono (by lia)) rfl (En U.u2n).g (En U.u2n).F.kp (En U.u2n).b .nil zm (Aa (pv 1) Da)))
 jp)),?_⟩
 walk_at "rs";exact⟨fs,vf,rfl,rep,ok,hd,fun H1 s1=>⟨T0,r0,R0,v1,rfl,Rep.mono s1 _ _ r1,fo,hn,wish.mono s1⟩⟩
def Oo:Sp:=fun vs H Q _=>∃(fs:List (Str×List AB))(T0:Str)(R0:List (Str×Pat))(p:AB)(vf v1 v2:V),vs=[vf,v1,v2]/\Rep H (.lst (fs.map Ua)) vf/\YB fs/\Rep H (kb T0 R0) v1/\LB T0 R0/\Rep H (pD p) v2/\Ga p<=210000/\xa (yE fs [p])<=2000/\dpL (yE fs [p])<=90 /\
 ∀H',BB H H'->Q (.bl (zH T0 R0 (yE fs [p]))) H'
def p0l(U:AE P w base K mg)
  (u3y:FE U CX0 4 U.u0f Yu)(u5c:FE U CX0 25 U.u2n (spD Vn))(u6p:FE U CX0 3 U.u3b Qu)(u6d:FE U CX0 31 U.u2o Du)(kts:kitOne K (.type "tuple") (.type "str")=some false):FE U CX0 32 U.u1o Oo:=by
 refine (En U.u1o).F.ok Gm (fun vs H Q E h=>?_) (fun cdv A V0 s H vs Q E hr h=>?_);obtain⟨_,_,_,_,_,_,_,rfl,_⟩:=h;rfl;obtain⟨fs,T0,R0,p,vf,v1,v2,rfl,rf,ok,r1,fo,r2,b1,c1,c2,q⟩:=h;have hu:=wb hr;refine⟨_,(Ra (Vb (zb u3y (En U.u0f) (Aa (pv 0) Da)))
  (Ra (Vb (zb u5c (En U.u2n) (Aa (pv 1) Da)))
  (Ra (Cb (i:=3) Gm.nd rfl (Or.inl rfl) (zb u6p (En U.u3b) (Aa (Bk (Nl rfl) rfl U.T.z_dict boot_dict (Aa (pv 0) Da)) (Aa (ac (Aa (pv 2) Da)) Da))))
  (Ya (Sc (oi (og bb (Tc oh rfl U.T.z_len PySem.boot_len (Aa (pv 3) Da)) Ab (Ha _)) (oi (ap (Tc (Hk (K:=K) rfl) rfl U.T.z_isinstance boot_isinstance (Aa (Bb Ae (pv 3) Ab (fun _ _=>rfl)) (Aa (li (v:=.ty "str") rfl U.T.z_str boot_str rfl) Da)))) (uk (zb u6d (En U.u2o) (Aa (pv 1) (Aa (Bb Ae (pv 3) Ab (fun _ _=>rfl)) Da))))))))))),?_⟩
 have sz:=Oa;walk_at "rs";refine⟨fs,vf,rfl,rf,ok.x,ok.due,fun H1 s1=>?_⟩;have rf:=Rep.mono s1 _ _ rf;have r1:=Rep.mono s1 _ _ r1;have r2:=Rep.mono s1 _ _ r2;refine Dd (ds:=[kb T0 R0]) (Qd:=fun b d _=>True) ⟨_,_,rfl,r1,rfl⟩ ⟨T0,R0,rfl,fo,trivial⟩ fun b d δ' v H2 s2 _ _=>?_;have rf:=Rep.mono s2 _ _ rf;have r1:=Rep.mono s2 _ _ r1;have r2:=Rep.mono s2 _ _ r2;obtain⟨fa,fv,rfl,hfa,rfa⟩:=rf;have rfa':DB H2 ((fs.map fun r=>(r.1,D.lst (pDs r.2))).map fun p=>D.tup [.str p.1,p.2]) fv:=by
  rw[map_map];exact rfa
 obtain⟨qs,q1,q2,q3⟩:=ij rfa';have q4:=q3 [] [] rfl;rw[show([]:List (Key×D))=Jd [] from rfl,Ru fs [] ok.nd]at q4;refine⟨fa,rfl,fv,hfa,qs,q1,q2,fun l hl'=>⟨by lia,fun l2 n2 hl2=>?_⟩⟩;have s3:BB H2 (upd (upd H2 l (.dK (ce [] qs))) l2 (.lst [v2])):=(BB.of_new hl').upd hl2;have e1:upd (upd H2 l (.dK (ce [] qs))) l2 (.lst [v2]) l=some (.dK (ce [] qs)):=by rw[ya (Ne.symm n2),z0g]
 have lk:∀r∈fs,xa r.2<=40/\stL r.2<=1:=fun r hr=>⟨(ok.ok r hr).sz,(ok.ok r hr).st⟩;have wl:=Lo lk [p];simp only[xa]at wl;refine⟨_,fs,l,l2,_,[v2],[p],rfl,BB.refl _,.inl e1,JB.mono s3 _ _ q4,z0g,⟨_,_,rfl,Rep.mono s3 _ _ r2,rfl⟩,fun r hr=>by have:=(lk r hr).1;lia,by simp only[xa];lia,by lia,fun l3 us o Fp H3 h1 h2 h3 h4 h5 h6=>?_⟩;have sQ:∀H4,BB H3 H4->BB H H4:=fun H4 s4=>(((s1.trans s2).trans s3).trans h2).trans s4;have r1:=Rep.mono h2 _ _ (Rep.mono s3 _ _ r1);have rr:=QB.reps h4;have hlen:=rr.len;rw[Cc]at hlen;generalize yE fs [p]=ps at h4 rr c1 c2 q hlen;refine⟨l3,rfl,us,h3,jB (fun hl1=>?_) fun hl1=>?_⟩
 ·cases us with
  |nil=>simp at hl1
  |cons u us =>
   cases us with
   |cons u' us=>simp at hl1;lia
   |nil =>
   cases ps with
   |nil=>cases(show u::[]=[] from rr)
   |cons p ps =>
    cases ps with
    |cons p' ps=>simp at hlen
    |nil =>
    obtain⟨u',us',eu,ru,_⟩:=rr;cases eu;refine⟨l3,rfl,_,h3,_,aC,?_⟩;cases p with
    |txt z =>
     cases(show u=.str z from ru);exact⟨_,.str _,true,rfl,false,rfl,kB (q _ (sQ _ (BB.refl _)))⟩
    |tup n is =>
     have ru0:=ru;obtain⟨a,vs,rfl,ha,_⟩:=ru;simp only[xa,Ga,dpL,dp1]at c1 c2;exact⟨_,.tup ha,false,kts,true,rfl,aF ⟨l3,rfl,_,h3,_,aC,T0,R0,n,is,v1,_,rfl,r1,ru0,fo,by lia,by lia,fun H4 s4=>q _ (sQ _ s4)⟩⟩
 have e:zH T0 R0 ps=false:=by
  cases ps with
  |nil=>rfl
  |cons p ps =>
   cases ps with
   |nil=>simp at hlen;exact absurd (by rw[<-hlen];rfl) hl1
   |cons p' ps=>cases p<;>rfl
 have:=q _ (sQ _ (BB.refl _));rw[e]at this;exact this
noncomputable def cg:Option (Kd×Str)->List Str
 |none=>[]
 |some (c,n)=>[c.str,n]
def XR.xc (Y:XR K mg CF CT CN CS Ct Cp Ck)(c:Kd):∃fI,iE K (c.cls CT CN CS) (.ref CF::bF) fI=true:=by
 cases c with
 |tw=>obtain⟨fI,_,_,_,q,_⟩:=Y.i_Twice;exact⟨fI,q⟩
 |nn=>obtain⟨fI,_,_,_,q,_⟩:=Y.i_NoName;exact⟨fI,q⟩
 |st=>obtain⟨fI,_,_,_,q,_⟩:=Y.i_Stars;exact⟨fI,q⟩
def Qb{D:GC}(h0:σ[0]? = some (some v))(hc:(∃T,c=.ty T/\cv=.type T) \/ ∃C2,c=.ref C2/\cv=.ref C2)
  (hx:(v=.non/\ty=.type "NoneType") \/ ∃y C dx bm fI,v=.ref y/\H y=some (XO C dx y)/\iE K C bm fI=true/\ty=.ref C)(hk:kitOne K ty cv=some b)(h:if b=true then t D σ H else u D σ H):tIfS (tB (tCB (rIsX K) (y0i (tVar 0) (y0i (tC c) tNil)))) t u D σ H :=
 ifS ⟨v,h0,v,c,cv,ty,b,rfl,hc,hx,hk,b,rfl,h⟩
def q2r (CT CN CS:Addr):Sp:=fun vs H Q _=>∃(v:V)(o:Option (Kd×Str)),vs=[v]/\(match o with|none=>v=.non|some (c,nm)=>∃x dx,v=.ref x/\H x=some (XO (c.cls CT CN CS) dx x)/\H dx=some (.xd [("name",.str nm)])) /\
 ∀l H',H l=none->BB H H'->H' l=some (.lst ((cg o).map .str))->Q (.ref l) H'
def j5k (Y:XR K mg CF CT CN CS Ct Cp Ck)(U:AE P w base K mg):FE U CX0 1 U.u2f (q2r CT CN CS):=by
 refine (En U.u2f).F.ok ff (fun vs H Q E h=>?_) (fun cdv A V0 s H vs Q E hr h=>?_);obtain⟨_,_,rfl,_⟩:=h;rfl;obtain⟨v,o,rfl,hv,q⟩:=h;have hu:=wb hr;refine⟨_,(Ra (Cb (i:=1) ff.nd rfl (Or.inl rfl) (ac Da))
  (Ra (vc (Zc (Tc Mf rfl U.T.z_isinstance boot_isinstance (Aa (pv 0) (Aa (Ig rfl Y.g_Twice) Da)))) (Ya (Cb (i:=1) ff.nd rfl (Or.inl rfl) (Se ub (pv 1) (ac (Aa Md (Aa (Hg (by simp) (pv 0) rfl) Da)))))) dc)
  (Ra (vc (Zc (Tc Mf rfl U.T.z_isinstance boot_isinstance (Aa (pv 0) (Aa (Ig rfl Y.g_NoName) Da)))) (Ya (Cb (i:=1) ff.nd rfl (Or.inl rfl) (Se ub (pv 1) (ac (Aa Md (Aa (Hg (by simp) (pv 0) rfl) Da)))))) dc)
  (Ra (vc (Zc (Tc Mf rfl U.T.z_isinstance boot_isinstance (Aa (pv 0) (Aa (Ig rfl Y.g_Stars) Da)))) (Ya (Cb (i:=1) ff.nd rfl (Or.inl rfl) (Se ub (pv 1) (ac (Aa Md (Aa (Hg (by simp) (pv 0) rfl) Da)))))) dc)
  (Ra (vc (Zc (Tc Mf rfl U.T.z_isinstance boot_isinstance (Aa (pv 0) (Aa (Ig rfl Y.g_NoText) Da)))) (Ya (Cb (i:=1) ff.nd rfl (Or.inl rfl) (Se ub (pv 1) (ac (Aa Md (Aa (Hg (by simp) (pv 0) rfl) Da)))))) dc)
  (Ra (vc (Zc (Tc Mf rfl U.T.z_isinstance boot_isinstance (Aa (pv 0) (Aa (Ig rfl Y.g_NoPort) Da)))) (Ya (Cb (i:=1) ff.nd rfl (Or.inl rfl) (Se ub (pv 1) (ac (Aa Md (Aa (Hg (by simp) (pv 0) rfl) Da)))))) dc)
  (Ra (vc (Zc (Tc Mf rfl U.T.z_isinstance boot_isinstance (Aa (pv 0) (Aa (Ig rfl Y.g_Taken) Da)))) (Ya (Cb (i:=1) ff.nd rfl (Or.inl rfl) (Se ub (pv 1) (ac (Aa Md (Aa (Hg (by simp) (pv 0) rfl) Da)))))) dc)
  (Ra (vc (PW.pt (mi (Yd Bp (pv 0) gg (Ha _)) (y8 (sk (Zc (Tc Mf rfl U.T.z_isinstance boot_isinstance (Aa (pv 0) (Aa (li (v:=.ty "ValueError") rfl Y.z_ValueError j5g rfl) Da)))))))) (Ya (Vb (Be PySem.F.slot_list_append PySem.F.type_list_append qf (pv 1) (Aa Md Da)))) dc)
  (Ya (Sc (pv 1))))))))))),?_⟩
 have sz:=Oa;have cr:∀C:Addr,(∃T,V.ref C=.ty T/\Value.ref C=.type T) \/ ∃C2,V.ref C=.ref C2/\Value.ref C=.ref C2:=fun C=>.inr ⟨C,rfl,rfl⟩;cases o with
 |none =>
  subst hv;have hx:∀H1:Hp,((V.non=.non/\tyK CT CN CS none=.type "NoneType") \/ ∃y C dx bm fI,V.non=.ref y/\H1 y=some (XO C dx y)/\iE K C bm fI=true/\tyK CT CN CS none=.ref C):=fun _=>.inl ⟨rfl,rfl⟩;walk_at "rs";refine⟨by lia,fun l hl=>Qb rfl (cr _) (hx _) (Y.n_Twice _) (kB ?_)⟩;walk_at "rs";refine Qb rfl (cr _) (hx _) (Y.n_NoName _) (kB ?_);walk_at "rs";refine Qb rfl (cr _) (hx _) (Y.n_Stars _) (kB ?_);walk_at "rs";refine Qb rfl (cr _) (hx _) (Y.n_NoText _) (kB ?_);walk_at "rs";refine Qb rfl (cr _) (hx _) (Y.n_NoPort _) (kB ?_);walk_at "rs";refine Qb rfl (cr _) (hx _) (Y.n_Taken _) (kB ?_);walk_at "rs";refine ifS ?_;walk_at "rd";exact⟨false,by simp,kB (q l _ hl (BB.of_new hl) z0g)⟩
 |some o =>
  obtain⟨c,nm⟩:=o;obtain⟨x,dx,rfl,hx,hdx⟩:=hv;obtain⟨fI,hxc⟩:=Y.xc c;have sx:∀{l:Addr},H l=none->BB H (upd H l (.lst [])):=fun h=>BB.of_new h;have ix:∀H1:Hp,BB H H1->((V.ref x=.non/\tyK CT CN CS (some c)=.type "NoneType") \/ ∃y C dx bm fI,V.ref x=.ref y/\H1 y=some (XO C dx y)/\iE K C bm fI=true/\tyK CT CN CS (some c)=.ref C):=fun H1 s=>.inr ⟨x,_,dx,_,fI,rfl,s _ _ hx,hxc,rfl⟩;cases c with
  |tw =>
   walk_at "rs";refine⟨by lia,fun l hl=>Qb rfl (cr _) (ix _ (sx hl)) (Y.n_Twice _) (aF ?_)⟩;walk_at "rs";refine⟨_,dx,sx hl _ _ hx,_,sx hl _ _ hdx,_,fI,hxc,⟨nm,rfl⟩,by lia,fun p np hp=>⟨[],by rw[ya (Ne.symm np),z0g],by show 0+2<=sizeLine;lia,fun p1 n1 n2 hp1=>?_⟩⟩;have s3:∀{a b:HO},BB H (upd (upd (upd H l (.lst [])) p a) p1 b):=((sx hl).upd hp).upd hp1;refine Qb rfl (cr _) (ix _ s3) (Y.n_NoName _) (kB ?_);walk_at "rs";refine Qb rfl (cr _) (ix _ s3) (Y.n_Stars _) (kB ?_);walk_at "rs";refine Qb rfl (cr _) (ix _ s3) (Y.n_NoText _) (kB ?_);walk_at "rs";refine Qb rfl (cr _) (ix _ s3) (Y.n_NoPort _) (kB ?_);walk_at "rs";refine Qb rfl (cr _) (ix _ s3) (Y.n_Taken _) (kB ?_);walk_at "rs";refine ifS ?_;walk_at "rd";exact⟨true,by simp,aF ⟨_,⟨_,dx,s3 _ _ hx,_,fI,hxc,rfl⟩,_,Y.n_ValueError (some _),by rw[if_neg (by simp)];exact q p1 _ hp1 s3 z0g⟩⟩
  |nn =>
   walk_at "rs";refine⟨by lia,fun l hl=>Qb rfl (cr _) (ix _ (sx hl)) (Y.n_Twice _) (kB ?_)⟩;walk_at "rs";refine Qb rfl (cr _) (ix _ (sx hl)) (Y.n_NoName _) (aF ?_);walk_at "rs";refine⟨_,dx,sx hl _ _ hx,_,sx hl _ _ hdx,_,fI,hxc,⟨nm,rfl⟩,by lia,fun p np hp=>⟨[],by rw[ya (Ne.symm np),z0g],by show 0+2<=sizeLine;lia,fun p1 n1 n2 hp1=>?_⟩⟩;have s3:∀{a b:HO},BB H (upd (upd (upd H l (.lst [])) p a) p1 b):=((sx hl).upd hp).upd hp1;refine Qb rfl (cr _) (ix _ s3) (Y.n_Stars _) (kB ?_);walk_at "rs";refine Qb rfl (cr _) (ix _ s3) (Y.n_NoText _) (kB ?_);walk_at "rs";refine Qb rfl (cr _) (ix _ s3) (Y.n_NoPort _) (kB ?_);walk_at "rs";refine Qb rfl (cr _) (ix _ s3) (Y.n_Taken _) (kB ?_);walk_at "rs";refine ifS ?_;walk_at "rd";exact⟨true,by simp,aF ⟨_,⟨_,dx,s3 _ _ hx,_,fI,hxc,rfl⟩,_,Y.n_ValueError (some _),by rw[if_neg (by simp)];exact q p1 _ hp1 s3 z0g⟩⟩
  |st =>
   walk_at "rs";refine⟨by lia,fun l hl=>Qb rfl (cr _) (ix _ (sx hl)) (Y.n_Twice _) (kB ?_)⟩;walk_at "rs";refine Qb rfl (cr _) (ix _ (sx hl)) (Y.n_NoName _) (kB ?_);walk_at "rs";refine Qb rfl (cr _) (ix _ (sx hl)) (Y.n_Stars _) (aF ?_);walk_at "rs";refine⟨_,dx,sx hl _ _ hx,_,sx hl _ _ hdx,_,fI,hxc,⟨nm,rfl⟩,by lia,fun p np hp=>⟨[],by rw[ya (Ne.symm np),z0g],by show 0+2<=sizeLine;lia,fun p1 n1 n2 hp1=>?_⟩⟩;have s3:∀{a b:HO},BB H (upd (upd (upd H l (.lst [])) p a) p1 b):=((sx hl).upd hp).upd hp1;refine Qb rfl (cr _) (ix _ s3) (Y.n_NoText _) (kB ?_);walk_at "rs";refine Qb rfl (cr _) (ix _ s3) (Y.n_NoPort _) (kB ?_);walk_at "rs";refine Qb rfl (cr _) (ix _ s3) (Y.n_Taken _) (kB ?_);walk_at "rs";refine ifS ?_;walk_at "rd";exact⟨true,by simp,aF ⟨_,⟨_,dx,s3 _ _ hx,_,fI,hxc,rfl⟩,_,Y.n_ValueError (some _),by rw[if_neg (by simp)];exact q p1 _ hp1 s3 z0g⟩⟩
def Po (CT CN CS:Addr):Sp:=fun vs H Q _=>∃(fs:List (Str×List AB))(T0:Str)(R0:List (Str×Pat))(vf v1 v2:V)(o:Kd×Str),vs=[vf,v1,v2]/\Rep H (.lst (fs.map Ua)) vf/\ZC fs/\Rep H (kb T0 R0) v1/\WhyX CT CN CS fs T0 R0 o /\
 ∀l H',H l=none->BB H H'->H' l=some (.lst ((cg (some o)).map .str))->Q (.ref l) H'
def x7p(Y:XR K mg CF CT CN CS Ct Cp Ck)(U:AE P w base K mg)(u6e:FE U (CX1 P w) 26 U.u1o (gv CT CN CS)):FE U CX0 27 U.u1w (Po CT CN CS):=by
 have u5t:=j5k Y U;refine (En U.u1w).F.ok Im (fun vs H Q E h=>?_) (fun cdv A V0 s H vs Q E hr h=>?_);obtain⟨_,_,_,_,_,_,_,rfl,_⟩:=h;rfl;obtain⟨fs,T0,R0,vf,v1,v2,o,rfl,rf,ok,r1,why,q⟩:=h;refine⟨_,(Ra (Cb (i:=3) Im.nd rfl (Or.inl rfl) gg)
  (Ra (ps_try (ie:=4) (iy:=3) u6e (hr.mono (by lia)) rfl (En U.u1o).g (En U.u1o).F.kp (En U.u1o).b (Aa (pv 0) (Aa (pv 1) (Aa (pv 2) Da))) ⟨rfl,rfl⟩ rfl Im.nd rfl rfl rfl (Or.inl rfl) (Or.inl rfl) rfl Y.g_FerryError Y.q_FerryError)
  (Ya (Sc (zb u5t (En U.u2f) (Aa (pv 3) Da)))))),?_⟩
 walk_at "rs";refine⟨fs,T0,R0,vf,v1,v2,o,rfl,rf,ok,r1,why,fun x dx H1 s1 hx hdx=>?_⟩;obtain⟨fI,hxc⟩:=Y.xc o.1;refine⟨x,rfl,?_⟩;refine⟨_,dx,rfl,hx,⟨_,fI,hxc,by simp⟩,.ref x,some o,rfl,⟨x,dx,rfl,hx,hdx⟩,fun l H' n s e=>q l H' (s1.free n) (s1.trans s) e⟩
def j7p {ic:List (Option Addr)}{Hx F H H':Hp}{δ:List VL.Slot}{σ:L2.St}{r:Addr}{c:D}{n:Nat}(I:EI ic Hx F F δ σ H)(hn:n=σ.length)(s:BB H H')(hr:H r=none)(h:AC F H' r c):EI (none::ic) Hx F F (.ob false c::replicate n .no) (some (.ref r)::σ) H' where
 base:=I.base.trans s
 sub:=I.sub.trans s
 ext:=BB.refl _
 new:=fun b o e z=>by rw[z]at e;cases e
 len:=by simp[hn]
 get:=fun i t e=>by
  cases i with
  |zero=>cases e;exact⟨r,rfl,I.base.free hr,I.sub.free hr,h,fun z=>by cases z⟩
  |succ i =>
   have e:(replicate n VL.Slot.no)[i]? = some t:=e;rw[getElem?_replicate]at e;split at e;cases e;trivial;cases e
 apart:=fun i j b c b' c' a hij e1 e2 _ _=>by
  have no:∀(i:Nat)(b:Bool)(c:D),(replicate n VL.Slot.no)[i]? ≠ some (.ob b c):=fun i b c e=>by
   rw[getElem?_replicate]at e;split at e<;>cases e
  cases i with
  |succ i=>exact no i b c e1
  |zero =>
   cases j with
   |zero=>exact hij rfl
   |succ j=>exact no j b' c' e2
def jv(e:δ=[a,b,c])(h:δ.length=(vs.map some).length):∃x y z,vs=[x,y,z]:=by subst e;rw[length_map]at h;obtain⟨x,t,e0,h⟩:=lnz (n:=2) h.symm;obtain⟨y,t1,e1,h⟩:=lnz h;obtain⟨z,t2,e2,h⟩:=lnz h;rw[e0,e1,e2,List.eq_nil_of_length_eq_zero h];exact⟨x,y,z,rfl⟩
def Qo (CT CN CS:Addr):RD:=fun δ Q=>∃(fs:List (Str×List AB))(T0:Str)(R0:List (Str×Pat))(d:D)(o:Kd×Str),δ=[.fz (.lst (fs.map Ua)),.fz (kb T0 R0),.fz d]/\ZC fs/\WhyX CT CN CS fs T0 R0 o/\Q true (.lst ((cg (some o)).map .str)) [.no,.no,.no]
def x3i(G:MB P w K mg base CX0 k f fd ["_law_ferry_here","_law_form_here","_law_paper_here"] (Po CT CN CS)):MB P w K mg base CX0 k f fd ["_law_ferry_here","_law_form_here","_law_paper_here"] (spD (Qo CT CN CS)):=by
 have key:∀vs H Q E,spD (Qo CT CN CS) vs H Q E->Po CT CN CS vs H Q E:=by
  rintro vs H Q E ⟨Hx,ic,F,δ,Qd,hic,I,⟨fs,T0,R0,d,o,rfl,ok,why,q⟩,back⟩;obtain⟨v0,e0,r0⟩:=I.get 0 _ rfl;obtain⟨v1,e1,r1⟩:=I.get 1 _ rfl;obtain⟨a,b,c,rfl⟩:=jv rfl I.len;cases(show a=v0 from Option.some.inj e0);cases(show b=v1 from Option.some.inj e1);refine⟨fs,T0,R0,v0,v1,c,o,rfl,Rep.mono I.sub _ _ r0,ok,Rep.mono I.sub _ _ r1,why,fun l H' n s e=>?_⟩;refine back true (.lst ((cg (some o)).map .str)) (.ref l) [.no,.no,.no] F H' (j7p (n:=3) I rfl s n ⟨_,e,?_⟩) q;generalize cg (some o)=ss;induction ss with
  |nil=>rfl
  |cons x ss ih=>exact⟨_,_,rfl,rfl,ih⟩
 exact⟨fun vs H Q E q=>G.1 _ _ _ _ (key _ _ _ _ q),fun A V0 s H args us vs Q E a b c d q=>G.2 A V0 s H args us vs Q E a b c d (key _ _ _ _ q)⟩
def EI_bl {ic:List (Option Addr)}{Hx F H H':Hp}{δ:List VL.Slot}{σ:L2.St}{b:Bool}{n:Nat}(I:EI ic Hx F F δ σ H)(hn:n=σ.length)(s:BB H H'):EI (none::ic) Hx F F (.fz (.bl b)::replicate n .no) (some (.bl b)::σ) H' where
 base:=I.base.trans s
 sub:=I.sub.trans s
 ext:=BB.refl _
 new:=fun b o e z=>by rw[z]at e;cases e
 len:=by simp[hn]
 get:=fun i t e=>by
  cases i with
  |zero=>cases e;exact⟨_,rfl,rfl⟩
  |succ i =>
   have e:(replicate n VL.Slot.no)[i]? = some t:=e;rw[getElem?_replicate]at e;split at e;cases e;trivial;cases e
 apart:=fun i j b c b' c' a hij e1 e2 _ _=>by
  cases i with
  |zero=>cases e1
  |succ i =>
   have e:(replicate n VL.Slot.no)[i]? = some (.ob b c):=e1;rw[getElem?_replicate]at e;split at e<;>cases e
def lv:RD:=fun δ Q=>∃(fs:List (Str×List AB))(T0:Str)(R0:List (Str×Pat))(p:AB),δ=[.fz (.lst (fs.map Ua)),.fz (kb T0 R0),.fz (pD p)]/\YB fs/\LB T0 R0/\Ga p<=210000/\xa (yE fs [p])<=2000/\dpL (yE fs [p])<=90/\Q false (.bl (zH T0 R0 (yE fs [p]))) [.no,.no,.no]
def k0a(G:MB P w K mg base CX0 k f fd ["ferry","form","paper"] Oo):MB P w K mg base CX0 k f fd ["ferry","form","paper"] (spD lv):=by
 have key:∀vs H Q E,spD lv vs H Q E->Oo vs H Q E:=by
  rintro vs H Q E ⟨Hx,ic,F,δ,Qd,hic,I,⟨fs,T0,R0,p,rfl,ok,fo,b1,c1,c2,q⟩,back⟩;obtain⟨v0,e0,r0⟩:=I.get 0 _ rfl;obtain⟨v1,e1,r1⟩:=I.get 1 _ rfl;obtain⟨v2,e2,r2⟩:=I.get 2 _ rfl;obtain⟨a,b,c,rfl⟩:=jv rfl I.len;cases(show a=v0 from Option.some.inj e0);cases(show b=v1 from Option.some.inj e1);cases(show c=v2 from Option.some.inj e2);exact⟨fs,T0,R0,p,v0,v1,v2,rfl,Rep.mono I.sub _ _ r0,ok,Rep.mono I.sub _ _ r1,fo,Rep.mono I.sub _ _ r2,b1,c1,c2,fun H' s=>back false _ _ [.no,.no,.no] F H' (EI_bl (n:=3) I rfl s) q⟩
 exact⟨fun vs H Q E q=>G.1 _ _ _ _ (key _ _ _ _ q),fun A V0 s H args us vs Q E a b c d q=>G.2 A V0 s H args us vs Q E a b c d (key _ _ _ _ q)⟩
def x5b:RD:=fun δ Q=>∃(zs:List Str)(ns:List Int),δ=[.fz (.lst (zs.map .str)),.ob true (.lst (ns.map .int))]/\0<zs.length/\(∀z∈zs,TB z) /\
 ∀(fs:List (Str×List AB))(ms:List Int),YB fs->Q true (.lst (fs.map Ua)) [.no,.ob true (.lst (ms.map .int))]
def q2n(U:AE P w base K mg) :
  FE U CX0 7 U.u1p (spD x5b):=by
 have u0g:=Zf U;have u5k:=q9i U;refine VL.Fun.dok (En U.u1p).F Sf (by walk_at "a") (by decide) ?_;walk_at "f";obtain⟨zs,ns,rfl,hz,ok,q⟩:=h;refine⟨_,(ka (dq 2 Sf.nd (Ia ja))
  (ka (dsF (fb (Xb (i:=1) u5k (En U.u2b) (bG (dv 0) (kD (pv 1) (bG (za Wa Va (Xb (i:=1) u0g (En U.u0b) (kD (pv 1) Wb)) ba) Wb))))) (We (n:=2) rfl (Ac (dn 3 Sf.nd) (Ac (dn 4 Sf.nd) Ve))) (ka (dq 5 Sf.nd (Xb (i:=1) u0g (En U.u0b) (kD (pv 1) Wb)))
  (ka (Ja (La gb bb (za Wa Va (dv 5) ba) ba (Ha _)) (ma (dq 4 Sf.nd (Ia (aa (Xa (aa (dv 3) (aa (Ia (aa (Xa (aa Fa (aa (Ia ja) ja))) ja)) ja))) ja)))) Pa)
  (ka (Ja (La gb bb (za Wa Va (dv 5) ba) ba (Ha _)) (ma (dq 4 Sf.nd (Ia (aa (Xa (aa (xL 0 (za Wa Va (za Nb Mb (dv 5) ba) (dlL 0 U.T.z_len))) (aa (Ia (aa (Xa (aa Fa (aa (Ia ja) ja))) ja)) ja))) ja)))) Pa)
  (ma (Gb (dAp 2 (Xa (aa (dv 3) (aa (dv 4) ja))))))))))
  (ma (Ea (dm 2))))),?_⟩
 have sz:=Oa;w_how;refine⟨by lia,fun x ms=>?_⟩;have m1:=xb (a:=x) (b:=5) (by decide);have m2:=yb (a:=x) (b:=5) (by decide);refine⟨by decide,zs,ms,_,rfl,m1,by lia,hz,ok,fun fs ms2 o=>?_⟩;w_how;have h0:(0:Int)<((List.map D.str zs).length:Int):=by rw[length_map];lia
 refine Jb [3,4,5] (fun r δ=>∃(pre l0 gs:List (Str×List AB))(ms:List Int),fs=pre++l0/\r=l0.map Ua/\gs.map (·.1)=pre.map (·.1)/\(∀r∈gs,JC r)/\δ=[.fz (.lst (zs.map .str)),.ob true (.lst (ms.map .int)),.ob false (.lst (gs.map Ua)),.no,.no,.no]) ⟨[],fs,[],ms2,rfl,rfl,rfl,(fun r h=>by cases h),rfl⟩ ?_ ?_
 ·rintro d r δ ⟨pre,l0,gs,ms3,e1,e2,e3,hg,rfl⟩;cases l0 with
  |nil=>cases e2
  |cons r0 l0 =>
   obtain⟨nm,row⟩:=r0;cases e2;simp only[Ua];have or:=o.ok (nm,row) (by rw[e1];simp);have ol:=o.len;have e4:=congrArg List.length e1;have e5:=congrArg List.length e3;simp only[length_append,length_map,length_cons]at e4 e5;have put:∀(ms':List Int)(row':List AB),xa row' <= 40->stL row' <= 1->dpL row' <= 3->∃(pre' suf' gs':List (Str×List AB))(ms'':List Int),fs=pre'++suf'/\l0.map Ua=suf'.map Ua/\gs'.map (·.1)=pre'.map (·.1)/\(∀r∈gs',JC r) /\
     ([.fz (.lst (zs.map .str)),.ob true (.lst (ms'.map .int)),.ob false (.lst (gs.map Ua++[.tup [.str nm,.lst (pDs row')]])),.no,.no,.no]:List VL.Slot)=[.fz (.lst (zs.map .str)),.ob true (.lst (ms''.map .int)),.ob false (.lst (gs'.map Ua)),.no,.no,.no]:=fun ms' row' s1 s2 s3=>by
    refine⟨pre++[(nm,row)],l0,gs++[(nm,row')],ms',by simp[e1],rfl,by simp[e3],fun r hr=>?_,by simp[Ua]⟩;rcases mem_append.mp hr with h|h;exact hg r h;cases mem_singleton.mp h;exact⟨or.nm,s1,s2,s3⟩
   have one:∀z:Str,z ≠ "*"->xa [.tup z [.tup "*" []]]<=40/\stL [.tup z [.tup "*" []]]<=1/\dpL [.tup z [.tup "*" []]]<=3:=fun z hz=>by
    simp[xa,Ga,stL,st1,dpL,dp1,hz]
   w_how;intro y ms4;obtain⟨d,hd1,e⟩:=Ye (xs:=List.map D.str zs) (i:=y / 8 % ((List.map D.str zs).length:Int)) (xb h0) (yb h0);obtain⟨z,hz1,rfl⟩:=mem_map.mp hd1;obtain⟨a1,a2,a3⟩:=one z (ok z hz1);obtain⟨b1,b2,b3⟩:=one nm or.nm;have z1:1<=sizeLine:=by lia
   have z2:2<=sizeLine:=by lia
   have gl:(gs.map Ua).length<sizeLine:=by rw[length_map];lia
   have PA:=put ms4 _ a1 a2 a3;have PB:=put ms4 _ b1 b2 b3;exact⟨by decide,jB (fun _=>⟨zero_le _,z2,z1,z2,z1,by decide,jB (fun _=>⟨⟨by decide,by decide⟩,h0,_,e,zero_le _,z2,z1,z2,z1,z2,gl,PA⟩) fun _=>⟨z2,gl,PB⟩⟩) fun _=>⟨by decide,jB (fun _=>⟨⟨by decide,by decide⟩,h0,_,e,zero_le _,z2,z1,z2,z1,z2,gl,PA⟩) fun _=>⟨z2,gl,put ms4 row or.sz or.st or.dp⟩⟩⟩
 rintro δ ⟨pre,l0,gs,ms3,e1,e2,e3,hg,rfl⟩;cases l0 with
 |cons z l0=>cases e2
 |nil =>
  rw[append_nil]at e1;subst e1;w_how;have e5:=congrArg List.length e3;simp only[length_map]at e5;exact q gs ms3 ⟨by have:=o.len;lia,by rw[e3];exact o.nd,hg⟩
mutual
theorem Ro:∀p:Pat,eqb (bB p)=true
 |.none=>by simp[bB,eqb,cC]
 |.one s=>by simp[bB,eqb,cC]
 |.row ps=>by simp[bB,eqb,cC,So ps]
 |.any ps=>by simp[bB,eqb,cC,So ps]
 |.wrap k p=>by simp[bB,eqb,cC,Ro p]
theorem So:∀ps:List Pat,cC (Ma ps)=true
 | []=>rfl
 |p::ps=>by simp[Ma,cC,Ro p,So ps]
end
mutual
theorem Uo:∀p:Pat,dep (bB p)<=2 * dpP p+2
 |.none=>by simp[bB,dep,nB]
 |.one s=>by simp[bB,dep,nB]
 |.row ps=>by have:=Vo ps;simp only[bB,dep,nB,dpP];lia
 |.any ps=>by have:=Vo ps;simp only[bB,dep,nB,dpP];lia
 |.wrap k p=>by have:=Uo p;simp only[bB,dep,nB,dpP];lia
theorem Vo:∀ps:List Pat,nB (Ma ps)<=2 * yB ps+2
 | []=>by simp[Ma,nB]
 |p::ps=>by simp only[Ma,nB,yB];exact max_le.mpr ⟨le_trans (Uo p) (add_le_add_right (mul_le_mul_left _ (le_max_left _ _)) _),le_trans (Vo ps) (add_le_add_right (mul_le_mul_left _ (le_max_right _ _)) _)⟩
end
theorem nv:∀R0:List (Str×Pat),cC (R0.map fun r=>D.tup [.str r.1,bB r.2])=true
 | []=>rfl
 |r::rs=>by simp only[map_cons,cC,eqb,Ro,nv rs];rfl
theorem qv:∀R0:List (Str×Pat),(∀r∈R0,dpP r.2<=20)->nB (R0.map fun r=>D.tup [.str r.1,bB r.2])<=50
 | [],_=>by simp[nB]
 |r::rs,h=>by
  have h1:=Uo r.2;have h2:=h r mem_cons_self;have h3:=qv rs fun r hr=>h r (mem_cons_of_mem _ hr);simp only[map_cons,nB,dep]
  lia
theorem cut2(h:∀R,R=c->kG a (kG b R) E δ):kG a (kG b c) E δ:=h c rfl
theorem cut1(h:∀R,R=c->kG a R E δ):kG a c E δ:=h c rfl
def ck (K:W.Frag):RD:=fun δ Q=>∃ns:List Int,δ=[.sc K ns]/\Q false (.bl true) [.no]
structure AllE (K:W.Frag)(mg:Str->Option Value):Prop where
 A:∀P w base,AE P w base K mg
 kts:kitOne K (.type "tuple") (.type "str")=some false
 Y:∃CF CT CN CS Ct Cp Ck,XR K mg CF CT CN CS Ct Cp Ck
def u9q (p0m:Ent K mg "law" gH ["_law_script"] f fd)(U:AllE K mg):MB P w K mg base CX0 80 f fd ["_law_script"] (spD (ck K)):=by
 obtain⟨U0,kts,⟨CF,CT,CN,CS,Ct,Cp,Ck,Y⟩⟩:=U;have U:=U0 P w base;have u5b:=j4s U;have u2t:=Bn U;have u5w:=j3l U;have u5x:=j5y U;have u5l:=q7s U;have u3t:=q7e U 31;have u4o:=q2n U;have u3f:=x1l U 11;have u2m:=j4q U 30;have u4s:=q8l U;have u4p:=j5v U 31;have u5c:=j4x U;have u5e:=q1e U;have u2e:=j8e U;have u5r:=q8h U;have u5f:=q1j U u5c u5e u2e u5r;have u6x:=k0a (P:=P) (w:=w) (base:=base) (p0l U (Zu (Vu Y U)) u5c (x7n U kts) (j7t U u5f) kts);have u4c:MB P w K mg base CX0 27 _ _ _ (spD (Qo CT CN CS)) :=
  x3i (x7p Y U (p0k U (Vu Y U) (j7z Y U)))
 refine VL.Fun.dok p0m.F Bd (by walk_at "a") (by decide) ?_;walk_at "f";obtain⟨ns,rfl,q⟩:=h;have hu:=wb hr;refine⟨_,(ka (dq 1 Bd.nd (Lh u5x (En U.u2y) (pv 0) (aa ba (aa (Ka u5w (En U.u2x) (aa (Lh u5b (En U.u2d) (pv 0) (aa ba ja)) ja)) ja))))
  (ka (dq 2 Bd.nd (Kz u5l (hr.mono (by lia)) rfl (En U.u2a).g (En U.u2a).F.kp (En U.u2a).b tf (dv 1) (pv 0) (aa ba (aa ba ja))))
  (ka (dq 3 Bd.nd (Lh u2t (En U.u0j) (pv 0) (aa ba (aa ba ja))))
  (ka (Nf 4 Bd.nd tg2 (fb (xT 1 ba)) (fun _=>Vc) (fun _=>(dv 0)))
  (ka (dq 5 Bd.nd (Xb (i:=3) u4o (En U.u1p) (bG (za Sb ub (dv 4) (Ia (aa Fa ja))) (kD (pv 3) Wb))))
  (ka (dq 6 Bd.nd (Ka u3f (En U.u1v) (aa (dv 5) (aa (Ia (aa (dv 2) ja)) ja))))
  (ka (Ja (La Ah ng (Ka u3t (En U.u2g) (aa (dv 6) ja)) ba (Ha _)) (ma (Ea Te)) Pa)
  (ka (dq 7 Bd.nd (Ui (yh gb bb (dlL 6 U.T.z_len) ba (Ha _)) (Ui (Mx (dII U.T.kit U.T.z_isinstance (xL 6 ba) U.T.z_str boot_str)) (Zk (yh (Qi hu) rg (Ka u4p (En U.u1n) (aa (dv 1) (aa (xL 6 ba) ja))) (Ia ja) (Ha _))))))
  (ka (dq 8 Bd.nd (Ia (aa (Oc tg2 (fb (dv 5)) (fun _=>Vc) (fun _=>(Xa (aa (dv 0) (aa (Ka u2m (En U.u1c) (aa (dv 1) ja)) ja))))) (aa (Ka u4s (En U.u1u) (aa (dv 1) ja)) ja))))
  (ka (dq 9 Bd.nd (Xa (aa (xT 2 ba) (aa (Ka u2m (En U.u1c) (aa (xT 2 ba) ja)) ja))))
  (ka (dsF (ke rfl U.T.z_range (aa ba ja)) (dn 10 Bd.nd) (ka (dq 11 Bd.nd (Ka u6x (En U.u1o) (aa (xL 8 ba) (aa (xL 8 ba) (aa (dv 9) ja)))))
  (ma (Ja (aG (Eh (fe (Mc (dII U.T.kit U.T.z_isinstance (dv 11) U.T.z_bool boot_bool))) (Dh (La wg lf (dv 11) (dv 7) (Ha _))))) (ma (Ea Te)) Pa))))
  (ka (Ja (La (Bh hu) Ji (Ka u4c (En U.u1w) (aa (dv 5) (aa (Xa (aa Fa (aa (xT 1 ba) ja))) (aa (dv 2) ja)))) (Ia (aa Fa (aa Fa ja))) (Ha _)) (ma (Ea Te)) Pa)
  (ka (Ja (La (Kr hu) Jr (Ny (Ka u4c (En U.u1w) (aa (za Sb ub (dv 5) (Ia (aa (Xa (aa Fa (aa (Ia (aa (Xa (aa Fa (aa (Ia ja) ja))) (aa (Xa (aa Fa (aa (Ia ja) ja))) ja))) ja))) ja))) (aa (Xa (aa Fa (aa (xT 1 ba) ja))) (aa (dv 2) ja)))) Bc (bc ba)) (Ia (aa Fa ja)) (Ha _)) (ma (Ea Te)) Pa)
  (ma (Ea (Ui (Jq (Qi hu) rg (pv 8) (Ia (aa (dv 5) (aa (dv 1) ja))) (Ha _)) (Zk (Jq (oz hu) Vw (pv 9) (dv 2) (Ha _))))))))))))))))))),?_⟩
 have sz:=Oa;w_how;refine⟨ns,0,rfl,?_⟩;w_how;refine⟨_,rfl,fun m hm1 hm2=>?_⟩;w_how;refine⟨ns,2,m,rfl,by lia,hm1,hm2,fun T0 R0 ok=>?_⟩;have hrl:=ok.len;w_how;refine⟨T0,R0,ns,200,rfl,ok,by lia,fun ps hs hd I0=>?_⟩;simp only[kb,pD];w_how;refine⟨ns,500,70,rfl,by lia,by lia,fun ms hms=>?_⟩;w_how;refine Tn (fun r=>.str r.1) (by lia) (fun r hr P hP=>?_) ?_;w_how;exact hP;have em:R0.map (fun r=>D.str r.1)=(R0.map (·.1)).map D.str:=by rw[map_map];rfl
 rw[em];w_how;have em2:List.map D.str (List.map (fun x=>x.fst) R0)++[D.str (Str.ofString "zzzzzzzzzzzz")]=(R0.map (·.1)++[("zzzzzzzzzzzz":Str)]).map D.str:=by rw[map_append];rfl
 rw[em2];refine⟨by lia,by simp;lia,_,ms,rfl,by simp,fun z hz=>?_,fun fs ms2 o=>?_⟩
 ·rcases mem_append.mp hz with h|h;exact(ok.ns z h).1;cases mem_singleton.mp h;exact(by decide +kernel:("zzzzzzzzzzzz":Str) ≠ "*")
 w_how;have fz:=ii o [.tup T0 ps];simp only[xa,Ga,dpL,dp1]at fz;refine⟨by lia,fs,[.tup T0 ps],rfl,by simp only[dpL,dp1];lia,o,by simp only[xa,Ga];lia,?_⟩;generalize hL:bC fs [.tup T0 ps]=L at fz ⊢;generalize eR:kG (lG 8 _) _=R;w_how;refine⟨L,rfl,by lia,?_⟩;w_how;refine jB (fun _=>q) fun hn2=>?_;have hsz:xa L<=2000:=by lia
 have gB:R { nx:=fun δ'=>Qd false .non (outS 1 δ'),rt:=fun b d δ'=>Qd b d (outS 1 δ') } [.sc K ns,.fz (kb T0 R0),.fz (pD (.tup T0 ps)),.ob false (.lst (ms2.map .int)),.fz (.lst ((R0.map (·.1)).map .str)),.fz (.lst (fs.map Ua)),.fz (.lst (pDs L)),.fz (.bl (zH T0 R0 L)),.no,.no,.no,.no]:=by
  subst eR;simp only[kb,pD];have ol:=o.len;refine cut2 fun R2 eR2=>?_;w_how;refine Tn (xs:=fs) (a:=fun r=>.str r.1) (b:=fun r=>.lst (pDs r.2)) Ua (by lia) (fun r hr P hP=>?_) ?_;have or:=o.ok r hr;have o1:=or.sz;have o2:=or.dp;w_how;exact⟨r.2,rfl,by lia,by lia,by lia,hP⟩;w_how;refine⟨T0,R0,rfl,ok,?_⟩;w_how;refine⟨by lia,ps,rfl,by lia,by lia,?_⟩;w_how;refine⟨by lia,?_⟩;subst eR2;refine cut1 fun R3 eR3=>?_;w_how;have ec:yE fs [.tup T0 ps]=L:=by
   rw[Jo _ (by simp only[stL,st1,(ok.ns T0 ok.T0).1,if_false,I0]),hL]
  have ep:Ga (.tup T0 ps)<=210000:=by simp only[Ga];lia
  refine⟨by decide,by decide,Jf [10,11] (fun i δ=>δ=[.sc K ns,.fz (kb T0 R0),.fz (pD (.tup T0 ps)),.ob false (.lst (ms2.map .int)),.fz (.lst ((R0.map (·.1)).map .str)),.fz (.lst (fs.map Ua)),.fz (.lst (pDs L)),.fz (.bl (zH T0 R0 L)),.ob false (.lst [.lst (fs.map Ua),kb T0 R0]),.fz (pD (.tup T0 ps)),.no,.no]) rfl ?_ ?_⟩;rintro i δ hi rfl;w_how;refine⟨_,aC,_,tF,fs,T0,R0,.tup T0 ps,rfl,o,ok,ep,by rw[ec];exact hsz,by rw[ec];lia,?_⟩;rw[ec];w_how;rintro δ rfl;subst eR3;simp only[kb,pD];refine cut1 fun R4 eR4=>?_;w_how;refine⟨by lia,fs,"zzzzzzzzzzzz",R0,_,(.nn,"zzzzzzzzzzzz"),rfl,o.x,.inr ⟨o.due,⟨T0,ok⟩,fun h=>(ok.ns _ h).2 rfl,rfl⟩,?_⟩;simp only[cg,Kd.str];w_how;refine⟨by lia,_,_,rfl,rfl,.inr ⟨rfl,rfl,by simp[nB,dep],?_⟩⟩;w_how;subst eR4;refine cut1 fun R5 eR5=>?_;w_how;have z1:1<=sizeLine:=by lia
  have z2:2<=sizeLine:=by lia
  obtain⟨b5,hb5⟩:=Xu (r:=(("b":Str),[AB.tup "*" [],.tup "*" []])) (by decide +kernel) fs [] o.due;refine⟨zero_le _,z2,zero_le _,z2,z2,z2,z1,by rw[length_map];lia,z2,fs++[(("b":Str),[AB.tup "*" [],.tup "*" []])],"zzzzzzzzzzzz",R0,_,(if b5 then .tw else .st,"b"),by rw[map_append];rfl,⟨by rw[length_append];simp only[length_cons,length_nil];lia,fun r hr=>?_⟩,.inl ⟨b5,hb5,rfl⟩,?_⟩
  ·rcases mem_append.mp hr with h|h;exact(o.ok r h).sz;cases mem_singleton.mp h;decide
  have fin:R5 { nx:=fun δ'=>Qd false .non (outS 1 δ'),rt:=fun b d δ'=>Qd b d (outS 1 δ') } [.sc K ns,.fz (kb T0 R0),.fz (pD (.tup T0 ps)),.ob false (.lst (ms2.map .int)),.fz (.lst ((R0.map (·.1)).map .str)),.fz (.lst (fs.map Ua)),.fz (.lst (pDs L)),.fz (.bl (zH T0 R0 L)),.ob false (.lst [.lst (fs.map Ua),kb T0 R0]),.fz (pD (.tup T0 ps)),.no,.no]:=by
   subst eR5;simp only[kb,pD];w_how;have dr:=qv R0 fun r hr=>(ok.pat r hr).dp;have er:=nv R0;have df:=Su fs fun r hr=>(o.ok r hr).dp;have ef:=Tu fs;have dq:=Zj ps;have eq:=ak ps;refine⟨z2,_,_,rfl,rfl,.inr ⟨rfl,by simp only[cC,eqb,er,ef];rfl,by simp only[nB,dep];exact max_le.mpr ⟨le_trans (succ_le_succ df) (by decide),max_le.mpr ⟨le_trans (succ_le_succ (max_le.mpr ⟨zero_le _,max_le.mpr ⟨succ_le_succ dr,zero_le _⟩⟩)) (by decide),zero_le _⟩⟩,?_⟩⟩;w_how;exact⟨_,rfl,rfl,by simp only[cC,eqb,eq];rfl,by simp only[nB,dep];lia,q⟩
  have c1:∀a b:D,oB [a,b] none (some 1)=[a]:=fun a b=>Ze [a,b] 1;cases b5<;>simp only[cg,Kd.str,if_true,if_false]<;>w_how<;>rw[c1];refine⟨z1,["stars"],["none"],rfl,rfl,?_⟩;rw[decide_eq_false (by decide +kernel)];exact fin;refine⟨z1,["twice"],["none"],rfl,rfl,?_⟩;rw[decide_eq_false (by decide +kernel)];exact fin
 cases L with
 |nil=>exact gB
 |cons p L =>
  cases L with
  |cons p' L =>
   rw[if_neg (by simp only[pDs,length_cons];lia)];cases p<;>exact gB
  |nil =>
   rw[if_pos (show((pDs [p]).length:Int)=1 from rfl)];refine⟨_,aC,?_⟩;cases p with
   |txt z =>
    simp only[pD];w_how;exact gB
   |tup n is =>
    simp only[pD];w_how;refine⟨_,aC,?_⟩;simp only[xa,Ga,dpL,dp1]at hsz fz;refine⟨T0,R0,n,is,rfl,ok,by lia,by lia,by lia,fun b=>?_⟩;w_how;have e:(Yc (x8 T0 R0 n is)).isEmpty=decide (x8 T0 R0 n is=[]):=by cases x8 T0 R0 n is<;>simp[Yc]
    rw[e];exact⟨by lia,gB⟩
open PyProof.Rows
@[elab_as_elim] theorem lnS{P:List α->Prop}(us:List α) (h:us.length=n+1) (k:∀a r,r.length=n->P (a::r)):P us:=by
 cases us with
 |nil=>cases h
 |cons a r=>exact k a r (Nat.succ.inj h)
@[elab_as_elim] theorem ln0{P:List α->Prop}(us:List α) (h:us.length=0) (k:P []):P us:=by
 cases us with
 |nil=>exact k
 |cons a r=>cases h
@[elab_as_elim] theorem ln1 {α:Type _}{P:List α->Prop}(us:List α) (h:us.length=1) (k:∀a,P [a]):P us :=
 lnS us h fun a r h=>ln0 (P:=fun r=>P (a::r)) r h (k a)
@[elab_as_elim] theorem ln2{P:List α->Prop}(us:List α) (h:us.length=2) (k:∀a b,P [a,b]):P us :=
 lnS us h fun a r h=>ln1 (P:=fun r=>P (a::r)) r h (k a)
@[elab_as_elim] theorem ln3{P:List α->Prop}(us:List α) (h:us.length=3) (k:∀a b c,P [a,b,c]):P us :=
 lnS us h fun a r h=>ln2 (P:=fun r=>P (a::r)) r h (k a)
@[elab_as_elim] theorem ln4{P:List α->Prop}(us:List α) (h:us.length=4) (k:∀a b c d,P [a,b,c,d]):P us :=
 lnS us h fun a r h=>ln3 (P:=fun r=>P (a::r)) r h (k a)
@[elab_as_elim] theorem ln5{P:List α->Prop}(us:List α) (h:us.length=5) (k:∀a b c d e,P [a,b,c,d,e]):P us :=
 lnS us h fun a r h=>ln4 (P:=fun r=>P (a::r)) r h (k a)
def EK (K:W.Frag)(x:Str)(st:Stmt):Prop:=∃f oc od kV doc pm an cdv ct O0,nsIn K mainGlobals x=some (some (.ref f))/\K.lookup f=some ⟨oc,od,.func (fnOf x x (md st) (jc st) (Ca st) .none kV doc pm an cdv ct),O0⟩/\codeIn K cdv x=true/\keepIn K (.ref f)=true
def ek_mk{st:Stmt}{kV doc pm cdv ct:Value}(a:nsIn K mainGlobals x=some (some (.ref f)))(l:K.lookup f=some ⟨oc,od,.func (fnOf x x (md st) (jc st) (Ca st) .none kV doc pm an cdv ct),O0⟩)(c:codeIn K cdv x=true)(k:keepIn K (.ref f)=true):EK K x st :=
 ⟨_,_,_,_,_,_,_,_,_,_,a,l,c,k⟩
def Na{st:Stmt}(X:K.In h)(G:h.Ns mainGlobals mg)(e:EK K x st)
  (hb:∀(kV doc pm:Value)(an:Option Addr)(cdv ct:Value)(us:List Value),us.length=ps.length->bindArgs (fnOf x x (md st) (jc st) (Ca st) .none kV doc pm an cdv ct) ⟨us,[]⟩=pure (ps.zip us):=by intro _ _ _ _ _ _ us hl;repeat (first|exact ln0 us hl rfl|refine lnS us hl fun _ us hl=>?_)):∃f fd,Ent K mg x st ps f fd:=by
 obtain⟨_,_,_,_,_,_,_,_,_,_,a,l,c,k⟩:=e;exact eA X G hb a l c k
def NZ (K:W.Frag)(x:Str):Prop:=nsIn K mainGlobals x=some none
def Dc(X:K.In h)(G:h.Ns mainGlobals mg)(z:NZ K x):mg x=none:=mg_none_of X G z
noncomputable def Wo (K:W.Frag)(C:Addr):Option Addr:=match K.lookup C with
 |some ⟨_,_,.cls k,_⟩=>(match nsIn K k.ns "__init__" with|some (some (.ref f))=>some f|_=>none)
 |_=>none
def xr_mk(X:K.In h)(G:h.Ns mainGlobals mg)
  (z_ValueError:nsIn K mainGlobals "ValueError" = some none)
  (g_FerryError:nsIn K mainGlobals "FerryError" = some (some (.ref CF)))
  (g_Twice:nsIn K mainGlobals "Twice" = some (some (.ref CT)))
  (g_NoName:nsIn K mainGlobals "NoName" = some (some (.ref CN)))
  (g_Stars:nsIn K mainGlobals "Stars" = some (some (.ref CS)))
  (g_NoText:nsIn K mainGlobals "NoText" = some (some (.ref Ct)))
  (g_NoPort:nsIn K mainGlobals "NoPort" = some (some (.ref Cp)))
  (g_Taken:nsIn K mainGlobals "Taken" = some (some (.ref Ck)))
  (q_FerryError:xH K CF=true)
  (u_Twice:Wo K CT=some fT)
  (x_Twice:iE K CT (.ref CF::bF) fT=true)(l_Twice:K.lookup fT=some ⟨.type "function",od_Twice,.func (fnOf "__init__" "Twice.__init__" (md i_Twice) (jc i_Twice) (Ca i_Twice) .none kV_Twice dc_Twice pm_Twice an_Twice cd_Twice ct_Twice),sl_Twice⟩)(c_Twice:codeIn K cd_Twice "Twice.__init__" = true)(k_Twice:keepIn K (.ref fT)=true)(kc_Twice:keepIn K (.ref CT)=true)
  (u_NoName:Wo K CN=some fN)
  (x_NoName:iE K CN (.ref CF::bF) fN=true)(l_NoName:K.lookup fN=some ⟨.type "function",od_NoName,.func (fnOf "__init__" "NoName.__init__" (md i_NoName) (jc i_NoName) (Ca i_NoName) .none kV_NoName dc_NoName pm_NoName an_NoName cd_NoName ct_NoName),sl_NoName⟩)(c_NoName:codeIn K cd_NoName "NoName.__init__" = true)(k_NoName:keepIn K (.ref fN)=true)(kc_NoName:keepIn K (.ref CN)=true)
  (u_Stars:Wo K CS=some fS)
  (x_Stars:iE K CS (.ref CF::bF) fS=true)(l_Stars:K.lookup fS=some ⟨.type "function",od_Stars,.func (fnOf "__init__" "Stars.__init__" (md i_Stars) (jc i_Stars) (Ca i_Stars) .none kV_Stars dc_Stars pm_Stars an_Stars cd_Stars ct_Stars),sl_Stars⟩)(c_Stars:codeIn K cd_Stars "Stars.__init__" = true)(k_Stars:keepIn K (.ref fS)=true)(kc_Stars:keepIn K (.ref CS)=true)
  (n_Twice:∀t:Option Kd,kitOne K (tyK CT CN CS t) (.ref CT)=some (isK t .tw))
  (n_NoName:∀t:Option Kd,kitOne K (tyK CT CN CS t) (.ref CN)=some (isK t .nn))
  (n_Stars:∀t:Option Kd,kitOne K (tyK CT CN CS t) (.ref CS)=some (isK t .st))
  (n_NoText:∀t:Option Kd,kitOne K (tyK CT CN CS t) (.ref Ct)=some (false))
  (n_NoPort:∀t:Option Kd,kitOne K (tyK CT CN CS t) (.ref Cp)=some (false))
  (n_Taken:∀t:Option Kd,kitOne K (tyK CT CN CS t) (.ref Ck)=some (false))
  (n_ValueError:∀t:Option Kd,kitOne K (tyK CT CN CS t) (.type "ValueError")=some (t.isSome))
  : ∃CF CT CN CS Ct Cp Ck,XR K mg CF CT CN CS Ct Cp Ck:=by
 exact⟨_,_,_,_,_,_,_,mg_none_of X G z_ValueError,mg_of X G g_FerryError,q_FerryError,mg_of X G g_Twice,mg_of X G g_NoName,mg_of X G g_Stars,mg_of X G g_NoText,mg_of X G g_NoPort,mg_of X G g_Taken,⟨_,_,_,_,x_Twice,lh (st:=i_Twice) l_Twice c_Twice k_Twice,.all fun us hl=>ln2 us hl fun _ _=>rfl,l_Twice⟩,⟨_,_,_,_,x_NoName,lh (st:=i_NoName) l_NoName c_NoName k_NoName,.all fun us hl=>ln2 us hl fun _ _=>rfl,l_NoName⟩,⟨_,_,_,_,x_Stars,lh (st:=i_Stars) l_Stars c_Stars k_Stars,.all fun us hl=>ln2 us hl fun _ _=>rfl,l_Stars⟩,kc_Twice,kc_NoName,kc_Stars,n_Twice,n_NoName,n_Stars,n_NoText,n_NoPort,n_Taken,n_ValueError⟩
set_option maxHeartbeats 0 in
def j9r(X:K.In h)(G:h.Ns mainGlobals mg)(kit:Wi K)(kts:kitOne K (.type "tuple") (.type "str")=some false)(Y:∃CF CT CN CS Ct Cp Ck,XR K mg CF CT CN CS Ct Cp Ck)
  (g0:nsIn K mainGlobals "TEXT_SIGN" = some (some (.str "#" uk0)))
  (g1:nsIn K mainGlobals "STAR" = some (some (.str "*" uk1)))
  (z1:NZ K "list")
  (z2:NZ K "reversed")
  (z3:NZ K "isinstance")
  (z4:NZ K "str")
  (z5:NZ K "len")
  (z6:NZ K "int")
  (z7:NZ K "bool")
  (z8:NZ K "range")
  (z9:NZ K "all")
  (z10:NZ K "any")
  (z11:NZ K "zip")
  (z12:NZ K "tuple")
  (z13:NZ K "dict")
  (z14:NZ K "set")
  (z15:NZ K "enumerate")
  (z16:NZ K "max")
  (e1:EK K "all_parts" oE)
  (e2:EK K "tuples_beneath" gC)
  (e3:EK K "tuples_with_paths" lB)
  (e4:EK K "sign_of" wF)
  (e5:EK K "word" lH)
  (e6:EK K "patterns_within" vB)
  (e7:EK K "signs" tG)
  (e8:EK K "bare" mH)
  (e9:EK K "firsts" fG)
  (e10:EK K "lasts" uG)
  (e11:EK K "link" nH)
  (e12:EK K "link_row" fF)
  (e13:EK K "link_all" jF)
  (e14:EK K "nexts" vG)
  (e15:EK K "table" wG)
  (e16:EK K "agrees" gG)
  (e17:EK K "look_twice" vD)
  (e18:EK K "look_names" wD)
  (e19:EK K "look" oH)
  (e20:EK K "tables" hG)
  (e21:EK K "holds" xG)
  (e22:EK K "faults" iG)
  (e23:EK K "is_paper" kF)
  (e24:EK K "stars" yG)
  (e25:EK K "look_ferry" xD)
  (e26:EK K "jobs" zG)
  (e27:EK K "carry" aH)
  (e28:EK K "carried" xF)
  (e29:EK K "arrives" yF)
  (e30:EK K "_law_cell_at" uC)
  (e31:EK K "_law_draws" yD)
  (e32:EK K "_law_pop" lF)
  (e33:EK K "_law_name" pE)
  (e34:EK K "_law_wrapped" vC)
  (e35:EK K "_law_pattern" wC)
  (e36:EK K "_law_signs" zD)
  (e37:EK K "_law_form" qE)
  (e38:EK K "_law_text" rE)
  (e39:EK K "_law_word" sE)
  (e40:EK K "_law_grown" aE)
  (e41:EK K "_law_more" tE)
  (e42:EK K "_law_ends" uE)
  (e43:EK K "_law_fits" vE)
  (e44:EK K "_law_faults" lD)
  (e45:EK K "_law_all_faults" wB)
  (e46:EK K "_law_paper" bE)
  (e47:EK K "_law_plain" cE)
  (e48:EK K "_law_starred" xC)
  (e49:EK K "_law_ferry" dE)
  (e50:EK K "_law_filled" mD)
  (e51:EK K "_law_ferried" yC)
  (e52:EK K "_law_copy_pattern" mB)
  (e53:EK K "_law_copy_form" iC)
  (e54:EK K "_law_copy_row" mC)
  (e55:EK K "_law_many" wE)
  (e56:EK K "_law_kind" xE)
  (e57:EK K "_law_some_ferry" xB)
  (e58:EK K "_law_refused" zC)
  (e59:EK K "_law_parts" eE)
  (e60:EK K "law" gH)
  : AllE K mg/\∃f fd,Ent K mg "law" gH ["_law_script"] f fd :=
 ⟨⟨fun _ _ _=>⟨⟨Dc X G z1,Dc X G z2,Dc X G z3,Dc X G z4,Dc X G z5,Dc X G z6,Dc X G z7,Dc X G z8,Dc X G z9,Dc X G z10,Dc X G z11,Dc X G z12,Dc X G z13,Dc X G z14,Dc X G z15,Dc X G z16,⟨uk0,mg_of X G g0⟩,⟨uk1,mg_of X G g1⟩,kit⟩,Na X G e1,Na X G e2,Na X G e3,Na X G e4,Na X G e5,Na X G e6,Na X G e7,Na X G e8,Na X G e9,Na X G e10,Na X G e11,Na X G e12,Na X G e13,Na X G e14,Na X G e15,Na X G e16,Na X G e17,Na X G e18,Na X G e19,Na X G e20,Na X G e21,Na X G e22,Na X G e23,Na X G e24,Na X G e25,Na X G e26,Na X G e27,Na X G e28,Na X G e29,Na X G e30,Na X G e31,Na X G e32,Na X G e33,Na X G e34,Na X G e35,Na X G e36,Na X G e37,Na X G e38,Na X G e39,Na X G e40,Na X G e41,Na X G e42,Na X G e43,Na X G e44,Na X G e45,Na X G e46,Na X G e47,Na X G e48,Na X G e49,Na X G e50,Na X G e51,Na X G e52,Na X G e53,Na X G e54,Na X G e55,Na X G e56,Na X G e57,Na X G e58,Na X G e59⟩,kts,Y⟩,Na X G e60⟩
def j8c {l:W.OpenLaw}(Z:AllE K mg/\∃f fd,Ent K mg "law" gH ["_law_script"] f fd)(hmg:mg "law" = some (.ref fa)) :
  ∃fd:FuncData,(∀(s:Shared)(u:Value),BindsTo s fd ⟨[u],[]⟩ [("_law_script",u)])/\∀base:Heap,K.In base->base.Ns mainGlobals mg->MB l.prog w K mg base CX0 80 fa fd ["_law_script"] (spD (ck K)):=by
 obtain⟨L,f,fd,E⟩:=Z;have e:=hmg.symm.trans E.g;cases e;obtain⟨oc,od,kV,doc,pm,an,cdv,ct,O0,rfl,lk,hcd⟩:=E.F.ex;exact⟨_,fun s u=>.of_eq rfl,fun base _ _=>u9q E L⟩
def j9q{ns:List Int}(hS:SqL K H a (ns.map V.int)):spD (ck K) [.ref a] H (fun v _=>v=.bl true) E:=by refine⟨H,[none],H,[.sc K ns],fun b d _=>d=.bl true,fun p a e=>by cases p<;>simp at e,(Cg (ds:=[]) (vs:=[]) (BB.refl _) rfl).push (s:=.sc K ns) (v:=.ref a) ⟨a,rfl,hS⟩ (fun b c a e=>by cases e),⟨ns,rfl,rfl⟩,fun b d v δ' F' H' I q=>?_⟩;obtain⟨F2,s,I2,rv⟩:=I.fr;cases q;exact rv
end
end K04
open PySem PySem.W PyProof.Rows
set_option maxRecDepth 100000 in
set_option maxHeartbeats 0 in
theorem PySem.Challenge.cw_formferry_k13_papers_that_arrive_holds : PySem.Challenge.rw_formferry_k13_papers_that_arrive.Holds := by
 w_on;o_law;z_head;(case hw=>w_witness2)
 k_fill
 refine L2.dA (l:=PySem.Challenge.rw_formferry_k13_papers_that_arrive) (n:=63) (k:=80) (x:="_law_script") (CX:=L2.CX0) (sp:=fun K=>VL.spD (K04.ck K)) rfl (by decide) rfl ⟨rfl,by decide,by decide⟩ rfl (by decide) (fun _=>rfl) ?F (fun K H a ns hl hO hS=>K04.j9q hS) (fun _ _ _ _ z=>z)
 case F =>
  intro w mg fa h KX G hmg;have Z:=by
   refine' K04.j9r KX G ?kit ?kts ?Y ?kg0 ?kg1 ?_ ?_ ?_ ?_ ?_ ?_ ?_ ?_ ?_ ?_ ?_ ?_ ?_ ?_ ?_ ?_ ?_ ?_ ?_ ?_ ?_ ?_ ?_ ?_ ?_ ?_ ?_ ?_ ?_ ?_ ?_ ?_ ?_ ?_ ?_ ?_ ?_ ?_ ?_ ?_ ?_ ?_ ?_ ?_ ?_ ?_ ?_ ?_ ?_ ?_ ?_ ?_ ?_ ?_ ?_ ?_ ?_ ?_ ?_ ?_ ?_ ?_ ?_ ?_ ?_ ?_ ?_ ?_ ?_ ?_ ?_ ?_ ?_ ?_ ?_ ?_
   (case kg0=>k_is)
   (case kg1=>k_is)
   (case kit =>
    intro t ht T hT;simp only[List.mem_cons,List.not_mem_nil,or_false]at ht hT;rcases ht with rfl|rfl|rfl|rfl|rfl|rfl|rfl<;>rcases hT with rfl|rfl|rfl|rfl|rfl|rfl<;>rfl)
   (case kts=>rfl)
   (case Y =>
    refine' K04.xr_mk KX G ?z_ValueError ?g_FerryError ?g_Twice ?g_NoName ?g_Stars ?g_NoText ?g_NoPort ?g_Taken ?q_FerryError ?u_Twice ?x_Twice ?l_Twice ?c_Twice ?k_Twice ?kc_Twice ?u_NoName ?x_NoName ?l_NoName ?c_NoName ?k_NoName ?kc_NoName ?u_Stars ?x_Stars ?l_Stars ?c_Stars ?k_Stars ?kc_Stars ?n_Twice ?n_NoName ?n_Stars ?n_NoText ?n_NoPort ?n_Taken ?n_ValueError
    (case z_ValueError=>k_is)
    (case g_FerryError=>k_is)
    (case g_Twice=>k_is)
    (case g_NoName=>k_is)
    (case g_Stars=>k_is)
    (case g_NoText=>k_is)
    (case g_NoPort=>k_is)
    (case g_Taken=>k_is)
    (case q_FerryError=>rfl)
    (case u_Twice=>rfl)
    (case x_Twice=>kernel_rfl)
    (case l_Twice=>k_is)
    (case c_Twice=>k_is)
    (case k_Twice=>k_is)
    (case kc_Twice=>k_is)
    (case u_NoName=>rfl)
    (case x_NoName=>kernel_rfl)
    (case l_NoName=>k_is)
    (case c_NoName=>k_is)
    (case k_NoName=>k_is)
    (case kc_NoName=>k_is)
    (case u_Stars=>rfl)
    (case x_Stars=>kernel_rfl)
    (case l_Stars=>k_is)
    (case c_Stars=>k_is)
    (case k_Stars=>k_is)
    (case kc_Stars=>k_is)
    (case n_Twice=>intro t;rcases t with _|c;rfl;cases c<;>rfl)
    (case n_NoName=>intro t;rcases t with _|c;rfl;cases c<;>rfl)
    (case n_Stars=>intro t;rcases t with _|c;rfl;cases c<;>rfl)
    (case n_NoText=>intro t;rcases t with _|c;rfl;cases c<;>rfl)
    (case n_NoPort=>intro t;rcases t with _|c;rfl;cases c<;>rfl)
    (case n_Taken=>intro t;rcases t with _|c;rfl;cases c<;>rfl)
    (case n_ValueError=>intro t;rcases t with _|c;rfl;cases c<;>rfl))
   iterate 16 (refine(show PySem.W.nsIn _ mainGlobals _=some none from ?_);k_is)
   iterate 60 (refine' K04.ek_mk ?a ?l ?c ?k;(case a=>k_is);(case l=>k_is);(case c=>k_is);(case k=>k_is))
  exact K04.j8c Z hmg

