import PyProof.Rows.All
import Wide.All
import OpenK.AllK
import Wide.FinOn
import Lean
import PyProof.EqAt
import PyProof.EqKinds
import PyProof.TupleCall
import PySem.Challenge.RW_lots_k21_whole_read_again
set_option Elab.async false
set_option linter.all false
set_option maxRecDepth 100000
set_option compiler.extract_closed false
local macro_rules | `(tactic| omega) => `(tactic| first | with_reducible assumption | lia | omega +splitDisjunctions)
open PySem.W renaming Frag->r6,nsIn->rD,findIn->rK,mg_of->rR,mg_none_of->se,mroIn->sk,kitOne->sE,emptyDict->t5,instObj->tE,keepIn->tK,fnOf->tO,kitMeta->tP,typeIn->tW,plainGet->ui,codeIn->uD,hasDictIn->uG,specialIn->uH,isFn->uR,looks_findIn->uS,plainGet_of->uW,lookIn->uY,InstAt->uZ,callWith_K->v9,excIn->w9,subIn->x3,methodObj->x9,plainOver->y0,kitx_list->y2,takerIn->z6,makesIn->z7,takesIn->z8,OpenLaw->A0,findObj->A2,isClsIn->A6,cellsFrom_some->A8,methodCall_KW->Ae,kitCls->Ag,clsIn->Al,kitx_tuple->As,kitx_dict->Ax,handedIn->AI,kIn_of->B3,WalkO->Bc,KitX->Bo
open List renaming getElem?_eq_getElem->r9,getElem?_eq_some_iff->rg,length_map->rh,length_append->rk,length_cons->rl,getD_eq_getElem?_getD->rp,getElem?_map->rq,size_toArray->rA,getElem?_append_left->rB,length_singleton->rC,mem_cons_of_mem->rF,getElem?_append_right->rL,mem_cons_self->rM,mem_of_getElem?->rV,map_append->rW,mem_cons->rX,range->rY,take_succ_eq_append_getElem->sd,map_cons->sj,all_eq_true->sr,append_assoc->sv,getElem?_eq_none->sy,mem_append->sA,mem_append_right->sC,take_length->sF,mem_singleton->sG,length_take->sL,set->sM,replicate->sN,lookup_cons->sQ,cons_append->sR,append_nil->sT,find?_cons->sU,length_eq_zero_iff->sX,getElem?_set_ne->sY,getElem_map->sZ,flatten_append->t6,length_set->t7,map_map->t8,mem_map->t9,drop_eq_getElem_cons->tD,getElem?_set->tG,all_cons->tH,lookup->tL,mem_iff_getElem->tV,getElem?_range->tZ,nodup_cons->u9,flatten_cons->ub,dropLast_concat_getLast->ug,take_append_drop->uh,getElem_mem->uk,drop_length->um,append->uq,filterMap_cons->ur,map_nil->ux,map->uB,length_drop->uN,not_mem_nil->uO,mem_append_left->uQ,mem_range->uX,length->v5,getElem_range->w5,any_cons->w6,ext_getElem?->y3,getElem?_take_of_lt->y8,ext_getElem->z4,getElem?_replicate->z5,of_mem_zip->z9,range_succ->A3,length_nil->A4,all_append->A5,getElem?_set_self->A7,drop_eq_nil_of_le->Ac,dropLast_eq_take->Ai,take_succ_cons->Ao,mem_filterMap->Aq,mem_set->Av,map_set->Aw,take_add_one->Ay,length_range->Az,all_eq_false->AA,find?_isSome->AB,getElem_inj->AH,mem_filter->AQ,foldl_cons->AW,foldr_cons->B2,drop_drop->B8,drop_left->B9,take_nil->Bd,all_map->Bp,any->Bq
open Nat renaming le_refl->rj,ne_of_lt->rQ,zero_le->rS,lt_of_lt_of_le->rZ,le_trans->si,lt_of_le_of_lt->sx,le_of_lt->sD,pow_le_pow_right->sJ,lt_succ_self->sP,lt_irrefl->sS,le_of_succ_le->tj,le_succ->tM,lt_succ_of_lt->tU,sub_self->tY,le_of_eq->ud,succ_le_succ->uo,add_comm->uC,add_assoc->uM,ne_of_gt->y7,zero_add->y9,toDigits->z3,lt_trans->Ar,succ_ne_self->AK,le_max_right->AO,not_lt->AV,le_max_left->B1,one_le_pow->B5,add_le_add->Ba,max_assoc->Be
open Or renaming inl->rm
open Option renaming bind_some->rE,map_eq_some_iff->rG,bind_eq_some_iff->rP,isSome_iff_exists->tX,getD_some->uj,isSome_map->uI,bind->v7,map_some->A1,getD_none->AJ,map_map->B7
open PySem.F renaming plainAttrs_list->rH,slot_list_append->rN,type_list_append->rO,plainAttrs_str->t4,slot_str_join->tQ,type_str_join->tR,args_tuple_add_2->uw,slot_list_extend->uy,type_list_extend->uz,entry_tuple_add->uF,slot_tuple_add->uJ,slot_str_split->A9,type_str_split->Aa
open Bool renaming false_ne_true->rJ,and_eq_true->rT,false_and->tu,true_and->tI,eq_iff_iff->u5,or_eq_true->uU,and_true->x5,beq_eq_decide_eq->Ad,and_false->Ah,and_assoc->Aj,true_bne->Am,false_bne->B4,or_false->Bb,true_or->Br
open PyProof.Rows renaming slot_tuple_getitem->sf,callWith_type1->tN,callWith_builtin1->uT
open List.cons renaming inj->sq,injEq->AX
open Option.some renaming inj->su,injEq->sI
open Int renaming toNat_natCast->sH,emod_nonneg->sV,emod_lt_of_pos->sW,mul_le_mul_of_nonneg_left->tJ,natCast_add->tT,mul_le_mul->uf,zero_add->uA,mul_add->uL,mul_comm->uV,mul_assoc->x8,add_mul->Ab,add_assoc->An,pow_succ->Au,mul_one->AG,mul_nonneg->B6
open PySem renaming intBits_le_iff->sO,mem_of_lookup->tm,intText?->uE,frameOf->Ak,Within->Ap,call->AU
open Ne renaming symm->tf
open False renaming elim->tF
open HAppend renaming hAppend->tS
open Append renaming append->u3
open True renaming intro->u6
open ForInStep renaming yield->ua
open Sum renaming inr->uc,inl->y6
open Array renaming length_toList->uv,all_eq_true_iff_forall_mem->uP,append_assoc->v8,getElem?_toList->Af,toList->Bj
open PySem.Builtin.Str renaming strSliceIndices->uK,glued->Bs
open Prod.mk renaming injEq->x4
open Classical renaming byContradiction->y4
open Sum.inr renaming inj->AF
open List.range renaming loop->AY
open PySem.EqMixed renaming eq_bool_str->Bf,eq_str_bool->Bg,ne_bool_str->Bh,ne_str_bool->Bi,eq_int_str->Bk,eq_str_int->Bl,ne_int_str->Bm,ne_str_int->Bn
open PySem.W.Looks renaming here->Bt
open List.Pairwise renaming nil->Bu,map->Bv
local macro_rules|`(∅)=>`(by decide)
local macro_rules|`(⋯)=>`(by omega)
local macro_rules|`(nofun)=>`(fun z=>by cases z)
local macro_rules|`(*...*)=>`(by decide+kernel)
structure PySem.W.Fast:Prop where(tw10000904806879478559 tw10019402817727312797 tw10023276501867681336 tw10053430019434402913 tw10065337460608362956 tw10076213427525020021 tw10123398425687966033 tw10146316473743220128 tw10146677911054890990 tw10248679894155266305 tw10383022520005824712 tw10406460883906629270 tw10426724104094947347 tw10430884576466652240 tw10454319628713140712 tw10518251438849491423 tw10525912652885925466 tw10531351227390228315 tw10733850305002054805 tw10774504946601653852 tw10810294228626055685 tw10867977000352461071 tw10932251150338630463 tw10995822251102542274 tw11097862937397769930 tw11147056583355891127 tw11152697824470262505 tw11167641725746616492 tw11169138316683983454 tw11251441966419340282 tw11274756271166871008 tw11351576193648250832 tw11361398642369543721 tw11385302604824028678 tw114253131126773245 tw11475684815472081118 tw11480112821643369891 tw11584441699970837783 tw11615063957415013752 tw11626516094448015423 tw11634512151682516268 tw11640807929795958179 tw11661851600990508516 tw11664114245394334617 tw11677736847442519613 tw11717089942822986655 tw11724173209149092366 tw11807557292255084259 tw11859008884505266494 tw11860303358841046928 tw11956365794142531589 tw11960706394072284906 tw12062496548135820030 tw12108839123700773816 tw12177492388596597830 tw12223891357352748366 tw12260186020698015220 tw12280502565673924568 tw12338974678435721897 tw12354349653818007190 tw12370273156307399286 tw12405270999648093753 tw12405963699738706775 tw12407116722219289674 tw12415219942002340911 tw12418954067767133057 tw12448901586512197290 tw12492081139110750256 tw12523850444494121999 tw125244157842577642 tw12556357412771802618 tw12580694142382681803 tw12594187575387080677 tw12652490746669376749 tw12746883473419290169 tw12755747969109029961 tw12761735087345437061 tw12767421436904214290 tw12806608140275066495 tw12810378375892682698 tw12815837940816013735 tw12862520945322071807 tw12939223806193482645 tw12966259304885748989 tw12997417261039916108 tw13007258079958846658 tw13021807769171741172 tw13033978469620818127 tw13036544744254580949 tw13055810809136192353 tw13125055272714282253 tw13205480967165170351 tw13220621769928348791 tw13221219814045053969 tw13232384099500223210 tw13241152727602537461 tw1328606666260794291 tw13345629146545266435 tw13387721363180104559 tw13424995465221107591 tw13458619840961935352 tw1348240546171309755 tw13581082724766082643 tw13584122438231307927 tw13683178770835684423 tw13714119530615965380 tw13714735028446499394 tw1371953001031701280 tw1377050178209631339 tw13774011758771690442 tw13901809174597819999 tw13916228988043615748 tw13921282181447642795 tw14019408145232593170 tw14031780644658633558 tw14054333800248589439 tw14096819746210027019 tw14223823798236391015 tw14270944915053442418 tw14427340020123136139 tw14450011233070132874 tw1451383976687950675 tw14524621482368092728 tw14547691820865905738 tw14720887016078865147 tw14758429239760222992 tw14799601044293752609 tw14821491302969475775 tw14829305648814209858 tw14837874100170958404 tw14907965620301059399 tw14922103162491672116 tw15002097000988358611 tw15056265931452460660 tw15064213709003169140 tw15071640821879681608 tw15122921918102203535 tw15137455548520628915 tw15163341827642052307 tw15168476290128121382 tw15207932711522426704 tw15238596668925469693 tw15296351027759465583 tw15301078815586695154 tw15400460219403793762 tw15406789839503755657 tw15536981487490492201 tw15557525977282831688 tw15594351180157495549 tw15606812325300547889 tw15746906718954335454 tw15754208093113877829 tw15772271057001715685 tw15773179472991525679 tw15785169723107856122 tw158295342391683355 tw15856283578389300158 tw15882318422685035206 tw15969794666729895843 tw15974814100776848730 tw16051460913880648932 tw16087630090550842028 tw16106500704208653894 tw1612154356753204402 tw1620149524247407535 tw16206842350367229806 tw16313289300890803657 tw16350481672377284513 tw16446291424905184425 tw16448227285709284330 tw16504152509528864521 tw16542506407724430921 tw16666863549547854763 tw16692134920969042038 tw16707582099351296066 tw16744793005921216183 tw16787500015000333005 tw16797157301372691607 tw16818327988512751379 tw16869483158252877275 tw16883267992476655006 tw16902891703141741580 tw16903102708160786465 tw16914640913196539287 tw1697159285096631998 tw17049234797359945673 tw17071653653274771711 tw17110644960876991394 tw17114331850280181285 tw17169961972504091676 tw17213471328497833439 tw17241620192367544668 tw17260990623043568983 tw1731628386383708994 tw17348886412149718750 tw17396508202653278648 tw17431573970236349164 tw17447686165266614146 tw17558594351285444532 tw17572115412101912551 tw17611979994153948795 tw17632952369530203983 tw17659825681843529842 tw17678501552054993298 tw17698266733154629261 tw17768835360363499841 tw17777966759740396627 tw17907377713580623020 tw18004449407019338748 tw1802250952242991494 tw18145156980521681007 tw18206283959961421689 tw18225512066065647828 tw18232884033828071970 tw18237576790720608998 tw1826122600918640559 tw18331844767109384638 tw18360865711254811257 tw18383937495569315780 tw18390183932791071473 tw1876508760161641152 tw1930255149854766434 tw1970480584183846715 tw1998894423530398752 tw2022941287254648542 tw2027794583421932995 tw2029242467071717393 tw205190812777755092 tw2091126905583975449 tw2120136496939318029 tw2128325573340378551 tw21306065632211370 tw2163041410757528733 tw2166006952977905540 tw2169976927188737472 tw2208638562797129722 tw2236273684637696818 tw2252617778127774808 tw2263142301183682929 tw2273484233649258478 tw2317926002801614558 tw2318978076421342014 tw2324908621199355562 tw2338388288590791648 tw2379840830775194273 tw2445831828434144121 tw2446890136476057993 tw2548193352145294887 tw2588910430651884164 tw2594047292383828016 tw2672460036387066314 tw2716509839139843172 tw273531707195684839 tw2738630256697595928 tw2790498277840090620 tw2800742999532325883 tw2822514007227351963 tw2864302271427720459 tw290636589227286402 tw2921291988424034401 tw29612790487460284 tw296781843614732183 tw3012938141847303826 tw3057780107844218458 tw3120169581455896074 tw3143981858511477034 tw3151969648402013337 tw3173857242096068509 tw320513971249437548 tw3209478944753934861 tw3279370692113650201 tw3291511597716332489 tw3317854595914896223 tw3354375624192001794 tw3380389747787972927 tw342213912142746590 tw3534496718069002582 tw3585393262223113853 tw3593723990786370315 tw3643461298095432696 tw366210942018619178 tw3696300719104912088 tw3698469901001663528 tw3847676676188159820 tw3894751433832589339 tw3921531837085999892 tw3937220601986546219 tw3949672466557521961 tw3971918922146911646 tw4094462418463005821 tw4218247155484862548 tw4219278408265960015 tw4309665953400170771 tw4382592126210174020 tw4394018186602027571 tw4403892124991217679 tw4435105044911807085 tw4459965794305045112 tw452445945712622556 tw4553552198251273555 tw4623272215847785119 tw462533762180439453 tw4682377235043722127 tw4718019458995367179 tw4762419193676268761 tw4870730208241775085 tw492632009861334611 tw494109947912198218 tw4956466021333411192 tw4980908428383215851 tw5025433778339466373 tw5039589633352928502 tw505466319062745679 tw5068770657636735498 tw509722275180318363 tw5119290550464866443 tw5172763710511651175 tw5208870539924743498 tw5431048756054693042 tw5543272241987274393 tw5651795160187241019 tw5669498930151771658 tw5675371318411343436 tw5729719848123653066 tw57451209543886356 tw5823969647663886596 tw5825537293267892404 tw5831250090020800321 tw5852337926743748365 tw587818318568540657 tw5882219482703728845 tw5893415797845186637 tw5960166965701578394 tw5977640201954696446 tw6013747231579008205 tw6044695444999872712 tw6054488273316168227 tw6161069785880781846 tw6161070343666093453 tw6163044660282130241 tw6170125395022365666 tw6176468197515242083 tw6216863499708280847 tw6341944066091669724 tw6355304379756507167 tw6360669795143914405 tw6374058849688193675 tw6386329648990250938 tw65287250266320779 tw6574107200317700063 tw6642018950054717496 tw6653381964594337879 tw665490349110577962 tw6655257177394110249 tw6806996462248097944 tw6869799601881156435 tw6994217110005284122 tw6998363449601951795 tw6998743627995128837 tw7201045651911185618 tw7203469341949524259 tw7226336084175515467 tw7290281430927354565 tw7302442334656033888 tw7325059127676014666 tw7357642240024778362 tw7396551527160926979 tw7428719232835828082 tw74526418746385405 tw7479463442680226 tw7509365945200968283 tw7555539200462662211 tw7676971756459067721 tw7679255868563286634 tw7683273689179121198 tw7711644276065720626 tw7753689901128617566 tw7785391265037845861 tw7827778424506162612 tw7829315588740660326 tw7833067498474446312 tw7835154625197570526 tw7845957679494146654 tw785847865910555084 tw7894186803138983768 tw7902242971233340168 tw7934728837191110843 tw798249747336853237 tw7994520018349190516 tw809218598513489839 tw8111151302484749842 tw8114023049761965055 tw8132854364153118056 tw8306278597177636227 tw8412669776762770670 tw8451143629910915952 tw8457811312690405780 tw8472144814256735420 tw8496336980299497694 tw8504236055772397059 tw8519730274171714033 tw8533525181084495212 tw8538958928253337434 tw8649222666601865160 tw8697658327161087781 tw871391602390681063 tw8883977541513620113 tw888854118721238938 tw8895723079792725508 tw8991237742420130793 tw8992860364711806151 tw9088591034051849348 tw9089572523158660447 tw9343315969191743899 tw939992641190063547 tw942792809121215707 tw9444197396441443170 tw9566964591557896918 tw9658852232917343315 tw9660789122059397876 tw9790313530013722810 tw9804618238304799357 tw9810377563348661797 tw9890840464985450871:True)
namespace L2
open PySem PySem.Spec PyProof.Rows
abbrev Key:=Sum Int Str
noncomputable def zcX:Key->Value->Bool
 | .inl k,v=>Value.isInt k v
 | .inr x,v=>Value.isStrOf x v
noncomputable def zmH (w:World):Key->Int
 | .inl k=>hashInt k
 | .inr x=>hashStr w x
theorem xA:∀{k:Key} {v:Value},zcX k v=true->(∃i t,k=y6 i/\v=Value.int i t)\/(∃x t,k=uc x/\v=Value.str x t)
 | .inl i,v,h=>by
  obtain⟨t,e⟩:=Value.isInt_shape (k:=i) (v:=v) h;exact .inl ⟨i,t,rfl,e⟩
 | .inr x,v,h=>by
  obtain⟨t,e⟩:=Value.isStrOf_shape (x:=x) (v:=v) h;exact .inr ⟨x,t,rfl,e⟩
theorem zcY (i:Int) (t:Tok):zcX (.inl i) (.int i t)=true:=by simp[zcX,Value.isInt]
theorem zcZ (x:Str) (t:Tok):zcX (.inr x) (.str x t)=true:=by simp[zcX,Value.isStrOf]
theorem zmI (a b:Int):decide ((y6 a:Key)=y6 b)=(a==b):=by
 by_cases e:a=b
 .subst e;simp
 .have h:¬(y6 a:Key)=y6 b:=λq=>e (Sum.inl.inj q);rw[decide_eq_false h];exact (beq_eq_false_iff_ne.mpr e).symm
theorem zmJ (a b:Str):decide ((uc a:Key)=uc b)=decide (a=b):=by
 by_cases e:a=b
 .subst e;simp
 .have h:¬(uc a:Key)=uc b:=λq=>e (AF q);rw[decide_eq_false h,decide_eq_false e]
theorem zmK (a:Int) (b:Str):decide ((y6 a:Key)=uc b)=false:=decide_eq_false (λq=>nomatch q)
theorem zmL (a:Str) (b:Int):decide ((uc a:Key)=y6 b)=false:=decide_eq_false (λq=>nomatch q)
noncomputable def vb (prog:Program) (w:World):PySem.KeyKind prog w Key where
 is:=zcX
 hash:=zmH w
 inj:=λv a b ha hb=>by
  rcases xA ha with⟨i,t,rfl,rfl⟩|⟨x,t,rfl,rfl⟩
  .rcases xA hb with⟨j,u,rfl,e⟩|⟨y,u,rfl,e⟩
   .injection e with e1 _;rw[e1]
   .exact nomatch e
  .rcases xA hb with⟨j,u,rfl,e⟩|⟨y,u,rfl,e⟩
   .exact nomatch e
   .injection e with e1 _;rw[e1]
 byValue:=λk v h=>by
  rcases xA h with⟨i,t,rfl,rfl⟩|⟨x,t,rfl,rfl⟩<;>rfl
 pyHash:=λhv h=>by
  rcases xA hv with⟨i,t,rfl,rfl⟩|⟨x,t,rfl,rfl⟩
  .exact wpAny_pyHash_int h
  .exact wpAny_pyHash_str h
 eqBool:=λhu hv h=>by
  rcases xA hu with⟨i,t,rfl,rfl⟩|⟨x,t,rfl,rfl⟩
  .rcases xA hv with⟨j,u,rfl,rfl⟩|⟨y,u,rfl,rfl⟩
   .rw[zmI] at h;exact wpAny_eqBool_int h
   .rw[zmK] at h;exact SeqAt.EqAt.int_str i t y u _ _ _ _ h
  .rcases xA hv with⟨j,u,rfl,rfl⟩|⟨y,u,rfl,rfl⟩
   .rw[zmL] at h;exact SeqAt.EqAt.str_int x t j u _ _ _ _ h
   .rw[zmJ] at h;exact wpAny_eqBool_str h
 «strs» :=λk x t v h=>by
  rcases xA h with⟨i,u,rfl,e⟩|⟨y,u,rfl,e⟩
  .exact nomatch e
  .injection e with e1 _
   subst e1;cases v<;>rfl
theorem zes (prog:Program) (w:World) (i:Int) (t:Tok):(vb prog w).is (.inl i) (.int i t)=true:=zcY i t
theorem zet (prog:Program) (w:World) (x:Str) (t:Tok):(vb prog w).is (.inr x) (.str x t)=true:=zcZ x t
inductive V where
 |non|bl (b:Bool)|int (i:Int)|str (x:Str)|byt (b:Array UInt8)|flt (b:UInt64)|ref (a:Addr)|ty (n:String)
 deriving DecidableEq
def yr:V->Value->Prop
 | .non,u=>u=Value.none
 | .bl b,u=>u=Value.bool b
 | .int i,u=>∃t,u=Value.int i t
 | .str x,u=>∃t,u=Value.str x t
 | .byt b,u=>∃t,u=Value.bytes b t
 | .flt b,u=>∃t,u=Value.float b t
 | .ref a,u=>u=Value.ref a
 | .ty n,u=>u=Value.type n
noncomputable abbrev yf:List V->List Value->Prop:=Paired yr
theorem yf.length {xs:List V} {us:List Value} (r:yf xs us):xs.length=us.length:=Paired.length r
theorem yf.get:∀{xs:List V} {us:List Value} {i:Nat} {x:V},yf xs us->xs[i]? =some x->∃u,us[i]? =some u/\yr x u
 |_,_,_,_,.nil,e=>by simp at e
 |_,_,0,_,.cons r _,e=>by simp at e;subst e;exact⟨_,rfl,r⟩
 |_,_,i+1,x,.cons _ t,e=>by
  obtain⟨u,h1,h2⟩:=yf.get (i:=i) (x:=x) t (by simpa using e);exact⟨u,by simpa using h1,h2⟩
theorem yf.set {x:V} {u:Value} (r:yr x u):∀{xs:List V} {us:List Value} (i:Nat),yf xs us->yf (xs.set i x) (us.set i u)
 |_,_,_,.nil=> .nil
 |_,_,0,.cons _ t=> .cons r t
 |_,_,i+1,.cons q t=> .cons q (yf.set r i t)
theorem yf.append:∀{xs ys:List V} {us ws:List Value},yf xs us->yf ys ws->yf (xs++ys) (us++ws)
 |_,_,_,_,.nil,s=>s
 |_,_,_,_,.cons r t,s=> .cons r (yf.append t s)
theorem yf.take:∀{xs:List V} {us:List Value} (n:Nat),yf xs us->yf (xs.take n) (us.take n)
 |_,_,0,_=> .nil
 |_,_,_+1,.nil=> .nil
 |_,_,n+1,.cons r t=> .cons r (yf.take n t)
theorem yf.drop:∀{xs:List V} {us:List Value} (n:Nat),yf xs us->yf (xs.drop n) (us.drop n)
 |_,_,0,r=>r
 |_,_,_+1,.nil=> .nil
 |_,_,n+1,.cons _ t=>yf.drop n t
def Ur:Option V->Option Value->Prop
 |some v,some u=>yr v u
 |none,none=>True
 |_,_=>False
def KV {κ:Type}:List (κ×V)->List (κ×Value)->Prop:=Paired λ(p:κ×V) (q:κ×Value)=>p.1=q.1/\yr p.2 q.2
noncomputable def kV:Key->V
 | .inl i=> .int i
 | .inr x=> .str x
inductive NK where
 |int (i:Int)|str (x:Str)|tup (l:List NK)
noncomputable instance:DecidableEq NK:=λa b=>Classical.propDecidable (a=b)
mutual
noncomputable def ziJ (w:World):NK->Int
 | .int i=>zmH w (.inl i)
 | .str x=>zmH w (.inr x)
 | .tup l=>reduceHash (Builtin.Tuple.tupleHashOf (ziK w l))
noncomputable def ziK (w:World):List NK->List Int
 |[]=>[]
 |k::r=>ziJ w k::ziK w r
end
mutual
noncomputable def zkM:NK->Nat
 | .int _=>0
 | .str _=>0
 | .tup l=>zl9 l+1
noncomputable def zl9:List NK->Nat
 |[]=>0
 |k::r=>max (zkM k) (zl9 r)
end
noncomputable def zmM (w:World) (x:NK×Addr×Value):DictEntry:={hash:=ziJ w x.1,key:= .ref x.2.1,val:=x.2.2}
inductive HO where
 |lst (xs:List V)
 |tup (xs:List V)
 |dK (aj:List (Key×V))|dT (aj:List (List Key×V))
 |dN (ks:List (NK×Addr×V))
 |set (S:Int->Bool) (n:Nat)
 |ins (C dx:Addr) (fs:List (Str×V))
 |own (x:Addr)
 |xd (fs:List (Str×V))
 |met (f x:Addr)
 |rng (lo hi:Int)
 |frz (o:Obj) (u:HO)
 |tbl (ps:Array Value)
 |ext (φ:Heap->Prop)
abbrev Hp:=Addr->Option HO
noncomputable def upd (H:Hp) (a:Addr) (o:HO):Hp:=λb=>if b=a then some o else H b
theorem yP {H:Hp} {a:Addr} {o:HO}:upd H a o a=some o:=by unfold upd;rw[if_pos rfl]
theorem yz {H:Hp} {a b:Addr} {o:HO} (h:b≠a):upd H a o b=H b:=by unfold upd;rw[if_neg h]
theorem Zo {H:Hp} {a b:Addr} {o:HO} (h:H a=some o) (h':H b=none):a≠b:=by
 intro e;subst e;rw[h] at h';cases h'
def XI (h:Heap) (a:Addr) (items:Array Value):Prop:=∃o,h.get? a=some o/\o.cls= .type "tuple"/\∃n,o.data= .seq items n/\o.dict=none
theorem XI.tup {h:Heap} {a:Addr} {items:Array Value} (x:XI h a items):IsTup h a items:=by
 obtain⟨o,e,c,n,d,_⟩:=x;exact⟨o,e,c,n,d⟩
theorem XI.new (h:Heap) (items:Array Value):XI (h.push {cls:= .type "tuple",data:= .seq items}) h.objs.size items:=⟨_,Heap.get?_push_size _ rfl,rfl,_,rfl,rfl⟩
section
variable (P:Program) (w:World)
def xB (H:Hp) (h:Heap) (a:Addr):HO->Prop
 | .lst xs=>xs.length<=sizeLine/\∃(af:List Value) (n:Nat),yf xs af/\h.get? a=some {cls:= .type "list",data:= .seq af.toArray n}
 | .tup xs=>xs.length<=sizeLine/\∃af:List Value,yf xs af/\XI h a af.toArray
 | .dK aj=>aj.length<=sizeLine/\(a==sysModules)=false/\∃vs,KV aj vs/\h.DictOf (vb P w) a vs
 | .dT aj=>aj.length<=sizeLine/\(a==sysModules)=false/\∃xs:List (List Key×Addr×Value),
   Paired (λ(p:List Key×V) (q:List Key×Addr×Value)=>p.1=q.1/\H q.2.1=some (.tup (p.1.map kV))/\yr p.2 q.2.2) aj xs/\
   ∃o es ep,h.get? a=some o/\o.ExactDict/\o.data= .dict es ep/\es.toList=xs.map (entryOfKey (tupleKind (vb P w)))/\(xs.map (·.1)).Nodup
 | .dN ks=>ks.length<=sizeLine/\(a==sysModules)=false/\∃xs:List (NK×Addr×Value),Paired (λ(p:NK×Addr×V) (q:NK×Addr×Value)=>p.1=q.1/\p.2.1=q.2.1/\yr p.2.2 q.2.2) ks xs/\
   ∃o es ep,h.get? a=some o/\o.ExactDict/\o.data= .dict es ep/\es.toList=xs.map (zmM w)/\(xs.map (·.1)).Nodup
 | .set S n=>h.SetOf (intKind P w) a S n
 | .ins C dx fs=>H dx=some (.own a)/\fs.length<=1000/\dx≠a/\h.get? a=some (tE C dx)/\
   ∃mA,h.Ns1 dx mA/\(∀f,Ur (fs.lookup f) (mA f))/\Ap mA (fs.map (·.1))
 | .own _=>∃o,h.get? a=some o
 | .xd fs=>∃mA,h.Ns1 a mA/\∀f,Ur (fs.lookup f) (mA f)
 | .rng lo hi=>∃t u v,h.get? a=some {cls:= .type "range",data:= .fields #[.int lo t,.int hi u,.int 1 v]}
 | .frz o u=>h.get? a=some o/\xB H h a u
 | .tbl ps=>h.get? a=some {cls:= .none,data:= .fields ps}
 | .met f x=>h.get? a=some (x9 (.ref f) (.ref x))
 | .ext φ=>φ h/\(∃o,h.get? a=some o)/\∀h1 h2:Heap,φ h1->(∀o,h1.get? a=some o->h2.get? a=some o)->φ h2
def HOk (H:Hp) (h:Heap):Prop:=∀a o,H a=some o->xB P w H h a o
end
section
variable {P:Program} {w:World} {H H':Hp} {h h':Heap} {a:Addr} {o:HO}
theorem xB.lt (x:xB P w H h a o):a<h.objs.size:=by
 cases o with
 |lst xs=>obtain⟨_,_,_,_,e⟩:=x;exact Heap.lt_size e
 |tup xs=>obtain⟨_,_,_,p⟩:=x;exact p.tup.lt
 |dK aj=>obtain⟨_,_,_,_,o,_,_,e,_⟩:=x;exact Heap.lt_size e
 |dT aj=>obtain⟨_,_,_,_,o,_,_,e,_⟩:=x;exact Heap.lt_size e
 |dN ks=>obtain⟨_,_,_,_,o,_,_,e,_⟩:=x;exact Heap.lt_size e
 |set S n=>obtain⟨o,_,_,_,e,_⟩:=x;exact Heap.lt_size e
 |ins C dx fs=>obtain⟨_,_,_,e,_⟩:=x;exact Heap.lt_size e
 |own y=>obtain⟨_,e⟩:=x;exact Heap.lt_size e
 |xd fs=>obtain⟨_,⟨_,_,_,e,_⟩,_⟩:=x;exact Heap.lt_size e
 |rng lo hi=>obtain⟨_,_,_,e⟩:=x;exact Heap.lt_size e
 |frz ob u=>obtain⟨e,_⟩:=x;exact Heap.lt_size e
 |tbl ps=>exact Heap.lt_size (show h.get? a=some _ from x)
 |met f y=>exact Heap.lt_size (show h.get? a=some _ from x)
 |ext φ=>obtain⟨_,⟨_,e⟩,_⟩:=x;exact Heap.lt_size e
theorem Paired.mapP {α β:Type} {F G:α->β->Prop}:∀{l₁:List α} {l₂:List β},Paired F l₁ l₂->(∀a b,F a b->G a b)->Paired G l₁ l₂
 |_,_,.nil,_=> .nil
 |_,_,.cons r t,f=> .cons (f _ _ r) (Paired.mapP t f)
theorem xB.stay (x:xB P w H h a o) (k:∀b u,(b=a\/H b=some (.own a))->h.get? b=some u->h'.get? b=some u)
  (ho:∀b,H b=some (.own a)->H' b=some (.own a)) (ht:∀b xs,H b=some (.tup xs)->H' b=some (.tup xs)):xB P w H' h' a o:=by
 induction o with
 |lst xs=>obtain⟨z,af,n,r,e⟩:=x;exact⟨z,af,n,r,k _ _ (.inl rfl) e⟩
 |tup xs=>obtain⟨z,af,r,ob,e,c⟩:=x;exact⟨z,af,r,ob,k _ _ (.inl rfl) e,c⟩
 |dK aj=>obtain⟨z,y,vs,r,ob,es,ep,e,c⟩:=x;exact⟨z,y,vs,r,ob,es,ep,k _ _ (.inl rfl) e,c⟩
 |dT aj=>
  obtain⟨z,y,xs,r,ob,es,ep,e,c⟩:=x;exact⟨z,y,xs,Paired.mapP r λp q z=>⟨z.1,ht _ _ z.2.1,z.2.2⟩,ob,es,ep,k _ _ (.inl rfl) e,c⟩
 |dN ks=>obtain⟨z,y,xs,r,ob,es,ep,e,c⟩:=x;exact⟨z,y,xs,r,ob,es,ep,k _ _ (.inl rfl) e,c⟩
 |set S n=>obtain⟨ob,es,ep,t,e,c⟩:=x;exact⟨ob,es,ep,t,k _ _ (.inl rfl) e,c⟩
 |ins C dx fs=>
  obtain⟨d,z,ne,e,mA,⟨od,es,ep,e2,c⟩,r⟩:=x;exact⟨ho _ d,z,ne,k _ _ (.inl rfl) e,mA,⟨od,es,ep,k _ _ (.inr d) e2,c⟩,r⟩
 |own y=>obtain⟨ob,e⟩:=x;exact⟨ob,k _ _ (.inl rfl) e⟩
 |xd fs=>obtain⟨mA,⟨od,es,ep,e,c⟩,r⟩:=x;exact⟨mA,⟨od,es,ep,k _ _ (.inl rfl) e,c⟩,r⟩
 |rng lo hi=>obtain⟨t,u,v,e⟩:=x;exact⟨t,u,v,k _ _ (.inl rfl) e⟩
 |frz ob u ih=>obtain⟨e,q⟩:=x;exact⟨k _ _ (.inl rfl) e,ih q⟩
 |tbl ps=>
  have e:h.get? a=some {cls:= .none,data:= .fields ps}:=x;show h'.get? a=some {cls:= .none,data:= .fields ps};exact k a _ (.inl rfl) e
 |met f y=>
  have e:h.get? a=some (x9 (.ref f) (.ref y)):=x;show h'.get? a=some (x9 (.ref f) (.ref y));exact k a _ (.inl rfl) e
 |ext φ=>obtain⟨p,⟨o,e⟩,st⟩:=x;exact⟨st _ _ p λo q=>k _ _ (.inl rfl) q,⟨o,k _ _ (.inl rfl) e⟩,st⟩
theorem HOk.lt (x:HOk P w H h) (e:H a=some o):a<h.objs.size:=(x a o e).lt
theorem HOk.fresh (x:HOk P w H h) (e:h.objs.size<=a):H a=none:=by
 cases q:H a with
 |none=>rfl
 |some u=>exact absurd (rZ (x.lt q) e) (sS _)
theorem HOk.kept (x:HOk P w H h) (k:∀b u,h.get? b=some u->h'.get? b=some u):HOk P w H h':=λa o e=>
 (x a o e).stay (λb u _ q=>k b u q) (λ_ q=>q) λ_ _ q=>q
theorem HOk.laid (x:HOk P w H h) (k:∀b u,h.get? b=some u->h'.get? b=some u) (hp:h.objs.size<=a) (new:xB P w (upd H a o) h' a o):HOk P w (upd H a o) h':=λb u e=>by
 have hn:=x.fresh hp;by_cases hb:b=a
 .subst hb;rw[yP] at e;cases e;exact new
 .rw[yz hb] at e;exact (x b u e).stay (λc v _ q=>k c v q) (λc q=>by rw[yz (Zo q hn)];exact q) λc xs q=>by rw[yz (Zo q hn)];exact q
end
def Rd (H:Hp) (a:Addr) (u:HO):Prop:=H a=some u\/∃o,H a=some (.frz o u)
theorem Rd.ok {P:Program} {w:World} {H:Hp} {h:Heap} {a:Addr} {u:HO} (r:Rd H a u) (x:HOk P w H h):xB P w H h a u:=by
 rcases r with r|⟨o,r⟩
 .exact x a u r
 .obtain⟨_,q⟩:=x a _ r;exact q
def Mut:Option HO->Prop
 |some (.lst _)=>True
 |some (.dK _)=>True
 |some (.dT _)=>True
 |some (.dN _)=>True
 |some (.set _ _)=>True
 |some (.ins _ _ _)=>True
 |some (.ext _)=>True
 |_=>False
section
variable {P:Program} {w:World} {H:Hp} {h h':Heap} {x e:Addr} {o':HO}
theorem HOk.write (ok:HOk P w H h) (mu:Mut (H x)) (he:e=x\/H e=some (.own x)) (k:∀b u,b≠e->h.get? b=some u->h'.get? b=some u) (j7:∃u,h'.get? e=some u)
  (new:xB P w (upd H x o') h' x o'):HOk P w (upd H x o') h':=λb u q=>by
 have jS:∀c y,H c=some (.own y)->c≠x:=λc y r z=>by subst z;rw[r] at mu;exact mu
 have lK:∀c xs,H c=some (.tup xs)->c≠x:=λc xs r z=>by subst z;rw[r] at mu;exact mu
 by_cases hb:b=x
 .subst hb;rw[yP] at q;cases q;exact new
 .rw[yz hb] at q;by_cases jB:b=e
  .have q':H b=some (.own x):=by
    rcases he with z|z
    .exact absurd (jB.trans z) hb
    .rw[jB];exact z
   rw[q] at q';cases q';obtain⟨v,hv⟩:=j7;exact⟨v,by rw[jB];exact hv⟩
  .refine (ok b u q).stay (λc v hc r=>k c v ?_ r) (λc r=>by rw[yz (jS c b r)];exact r) λc xs r=>by rw[yz (lK c xs r)];exact r
   rcases hc with rfl|hc
   .exact jB
   .rintro rfl;rcases he with z|z
    .exact jS c b hc z
    .rw[hc] at z;cases z;exact hb rfl
end
structure Un (fs ex:List Addr) (H H':Hp) (h h':Heap):Prop where
 keep:∀b o,h.get? b=some o->H b=none->b∉fs->b∉ex->h'.get? b=some o
 slot:∀b o,h.get? b=some o->H b=none->b∈fs->b∉ex->∃sl,h'.get? b=some {o with slots:=sl}
 free:∀b o,h.get? b=some o->H b=none->b∉ex->H' b=none
 there:∀b o,h.get? b=some o->b∉ex->∃o',h'.get? b=some o'
 tups:∀b xs,H b=some (.tup xs)->H' b=some (.tup xs)
 frzs:∀b o u,H b=some (.frz o u)->H' b=some (.frz o u)
 tbls:∀b ps,H b=some (.tbl ps)->∃more,H' b=some (.tbl (ps++more))
section
variable {fs fs' ex ex':List Addr} {H H1 H2:Hp} {h h1 h2 h':Heap} {a x e:Addr} {o:HO}
theorem Un.any (u:Un fs ex H H1 h h1) {b:Addr} {ob:Obj} (q:h.get? b=some ob) (n:H b=none) (hx:b∉ex):∃sl,h1.get? b=some {ob with slots:=sl}:=by
 by_cases hb:b∈fs
 .exact u.slot b ob q n hb hx
 .exact⟨ob.slots,u.keep b ob q n hb hx⟩
theorem Un.trans (a:Un fs ex H H1 h h1) (b:Un fs ex H1 H2 h1 h2):Un fs ex H H2 h h2 where
 keep:=λc ob q n hc hx=>b.keep c ob (a.keep c ob q n hc hx) (a.free c ob q n hx) hc hx
 slot:=λc ob q n hc hx=>by
  obtain⟨sl,e1⟩:=a.slot c ob q n hc hx;obtain⟨sl',e2⟩:=b.slot c _ e1 (a.free c ob q n hx) hc hx;exact⟨sl',e2⟩
 free:=λc ob q n hx=>by
  obtain⟨o',e1⟩:=a.there c ob q hx;exact b.free c o' e1 (a.free c ob q n hx) hx
 there:=λc ob q hx=>by
  obtain⟨o',e1⟩:=a.there c ob q hx;exact b.there c o' e1 hx
 tups:=λc xs q=>b.tups c xs (a.tups c xs q)
 frzs:=λc ob xs q=>b.frzs c ob xs (a.frzs c ob xs q)
 tbls:=λc ps q=>by
  obtain⟨m1,e1⟩:=a.tbls c ps q;obtain⟨m2,e2⟩:=b.tbls c _ e1;exact⟨m1++m2,by rw[e2,v8]⟩
theorem Un.kept (k:∀b u,h.get? b=some u->h'.get? b=some u):Un fs ex H H h h':=
 ⟨λb ob q _ _ _=>k b ob q,λb ob q _ _ _=>⟨ob.slots,k b ob q⟩,λ_ _ _ n _=>n,λb ob q _=>⟨ob,k b ob q⟩,λ_ _ q=>q,λ_ _ _ q=>q,λ_ ps q=>⟨#[],by rw[q];simp⟩⟩
theorem Un.refl:Un fs ex H H h h:=Un.kept λ_ _ q=>q
theorem Un.laid (k:∀b u,h.get? b=some u->h'.get? b=some u) (hp:h.objs.size<=a) (hn:H a=none):Un fs ex H (upd H a o) h h' where
 keep:=λb u q _ _ _=>k b u q
 slot:=λb u q _ _ _=>⟨u.slots,k b u q⟩
 free:=λb u q n _=>by rw[yz (rQ (rZ (Heap.lt_size q) hp))];exact n
 there:=λb u q _=>⟨u,k b u q⟩
 tups:=λb xs q=>by rw[yz (Zo q hn)];exact q
 frzs:=λb u xs q=>by rw[yz (Zo q hn)];exact q
 tbls:=λb ps q=>⟨#[],by rw[yz (Zo q hn),q];simp⟩
theorem Un.write (mu:Mut (H x)) (he:e=x\/H e=some (.own x)) (k:∀b u,b≠e->h.get? b=some u->h'.get? b=some u) (j7:∃u,h'.get? e=some u):Un fs ex H (upd H x o) h h':=by
 have hx:∀b,H b=none->b≠x:=λb n z=>by subst z;rw[n] at mu;exact mu
 have hb:∀b,H b=none->b≠e:=λb n z=>by
  subst z;rcases he with r|r
  .exact hx b n r
  .rw[n] at r;cases r
 have hm:∀b u,H b=some u->¬Mut (some u)->b≠x:=λb u q nm z=>by subst z;rw[q] at mu;exact nm mu
 refine⟨λb u q n _ _=>k b u (hb b n) q,λb u q n _ _=>⟨u.slots,k b u (hb b n) q⟩,λb u q n _=>by rw[yz (hx b n)];exact n,λb u q _=> ?_,
  λb xs q=>by rw[yz (hm b _ q λz=>z)];exact q,λb u xs q=>by rw[yz (hm b _ q λz=>z)];exact q,λb ps q=>⟨#[],by rw[yz (hm b _ q λz=>z),q];simp⟩⟩
 by_cases jB:b=e
 .subst jB;exact j7
 .exact⟨u,k b u jB q⟩
end
noncomputable def trk (h:Heap) (H:Hp):List Addr:=(rY h.objs.size).filter λa=>(H a).isSome
noncomputable def zdz (h:Heap) (H:Hp):Heap:=PySem.W.hideAll h (trk h H)
theorem zhU (h:Heap) (H:Hp):(zdz h H).objs.size=h.objs.size:=PySem.W.hideAll_size _ _
theorem ziL {h:Heap} {H:Hp} {b:Addr} {o:Obj} (e:h.get? b=some o) (n:H b=none):(zdz h H).get? b=some o:=
 PySem.W.hideAll_get _ e λhm=>by
  have q:(H b).isSome=true:=(AQ.mp hm).2;rw[n] at q;simp at q
theorem zkN {h:Heap} {H:Hp} {b:Addr} {o:Obj} (e:(zdz h H).get? b=some o):h.get? b=some o/\H b=none:=by
 have e':h.get? b=some o:=PySem.W.of_hideAll (trk h H) e;refine⟨e',?_⟩;cases q:H b with
 |none=>rfl
 |some x=>
  have hm:b∈trk h H:=AQ.mpr ⟨uX.mpr (Heap.lt_size e'),by simp[q]⟩;have z:(zdz h H).get? b=none:=PySem.W.hideAll_none (trk h H) hm;rw[z] at e;cases e
structure Mod (K:r6) (mg:Str->Option Value) (base:Heap):Prop where
 kin:K.In base
 glob:base.Ns mainGlobals mg
 blt:∃mb,base.Ns builtinsNs mb/\∀x:Str,x≠"__name__"->mb x=bootBuiltins x
 nolimit:base.NoLimit
structure Cx where
 prog:Program
 w:World
 K:r6
 mg:Str->Option Value
 base:Heap
 A:Around
 N:List Str
 s₀:Shared
 H₀:Hp
 env:Env
 outer:List Env
 stack:List Env
 ex:List Addr
 fn:Str->Bool
 calm:Bool
 pn:List (Addr×Obj)
 xe:Value->Shared->Prop
noncomputable def frs (l:List Env):List Addr:=l.filterMap (·.frame)
noncomputable abbrev Cx.fs (X:Cx):List Addr:=frs X.outer
def Vis (sc:Scope) (x:Str):Prop:=sc.names.lookup x=some .local\/sc.names.lookup x=some .cell\/sc.names.lookup x=some .free
def Loc (sc:Scope) (x:Str):Prop:=sc.names.lookup x=some .local\/sc.names.lookup x=some .cell
def zpM (env:Env) (h:Heap) (m:Str->Option Value) (x:Str) (u:Value):Prop:=
 (env.kindOf x=some .local/\m x=some u)\/((env.kindOf x=some .cell\/env.kindOf x=some .free)/\∃c,env.cells.lookup x=some c/\h.IsCell c (some u))
structure Cx.Ok (X:Cx):Prop where
 mod:Mod X.K X.mg X.base
 kind:X.env.scope.kind= .function
 glob:X.env.globals=mainGlobals
 blt:X.env.builtins=builtinsNs
 above:X.s₀.heap.objs.size<=X.env.locals
 inj:∀x y c,X.env.cells.lookup x=some c->X.env.cells.lookup y=some c->x=y
 has:∀x,(X.env.kindOf x=some .cell\/X.env.kindOf x=some .free)->∃c,X.env.cells.lookup x=some c
 cab:∀x c,X.fn x=true->X.env.cells.lookup x=some c->X.s₀.heap.objs.size<=c
 hd:X.calm=true->X.A.handled=none
 frames:X.A.frames=some X.stack
 stk:X.stack=X.outer\/(X.stack=X.env::X.outer/\X.env.frame=some X.env.locals)
 exf:∀b∈X.ex,b≠X.env.locals/\∀x c,X.env.cells.lookup x=some c->c≠b
 bs:∀b o,X.base.get? b=some o->X.s₀.heap.get? b=some o/\X.H₀ b=none
 bsz:X.base.objs.size<=X.s₀.heap.objs.size
 noex:∀b o,X.base.get? b=some o->b∉X.ex
 exfs:∀b∈X.ex,b∉X.fs
 funs:X.s₀.heap.FunFrames X.base X.outer
 frf:∀b∈X.fs,X.H₀ b=none
structure Inv (X:Cx) (pins:List (Addr×Obj)) (σ:List (Option V)) (H:Hp) (s:Shared):Prop where
 ok:X.Ok
 os:s.os=X.s₀.os
 bare:AllBare s.gens
 base:Un X.fs X.ex X.H₀ H X.s₀.heap s.heap
 loc:∃m,s.heap.Ns X.env.locals m/\∀(i:Nat) (x:Str) (v:V),X.N[i]? =some x->σ[i]? =some (some v)->Vis X.env.scope x->∃u,yr v u/\zpM X.env s.heap m x u
 cell:∀x c,X.env.cells.lookup x=some c->∃v,s.heap.IsCell c v
 free:H X.env.locals=none
 freeC:∀x c,X.env.cells.lookup x=some c->H c=none
 pin:∀p∈X.pn++pins,s.heap.get? p.1=some p.2/\H p.1=none/\p.1≠X.env.locals/\p.1∉X.fs/\∀v,p.2.data≠ .cell v
 hok:HOk X.prog X.w H s.heap
 len:σ.length=X.N.length
section
variable {X:Cx} {pins:List (Addr×Obj)} {σ:List (Option V)} {H H':Hp} {s:Shared} {h':Heap}
theorem Cx.Ok.nofr (ok:X.Ok) {b:Addr} {o:Obj} (e:X.base.get? b=some o):b∉X.fs:=λhb=>by
 have:=(ok.funs.mem hb).1;rw[e] at this;cases this
theorem Inv.bs (I:Inv X pins σ H s):∀b o,X.base.get? b=some o->s.heap.get? b=some o/\H b=none:=λb o e=>
 ⟨I.base.keep b o (I.ok.bs b o e).1 (I.ok.bs b o e).2 (I.ok.nofr e) (I.ok.noex b o e),I.base.free b o (I.ok.bs b o e).1 (I.ok.bs b o e).2 (I.ok.noex b o e)⟩
theorem Inv.bk (I:Inv X pins σ H s):∀b o,X.base.get? b=some o->s.heap.get? b=some o:=λb o e=>(I.bs b o e).1
theorem Inv.mod (I:Inv X pins σ H s):Mod X.K X.mg X.base:=I.ok.mod
theorem Inv.kIn (I:Inv X pins σ H s):X.K.In s.heap:=I.ok.mod.kin.keeps I.bk
theorem Inv.lt (I:Inv X pins σ H s):X.env.locals<s.heap.objs.size:=let ⟨_,hn,_⟩:=I.loc;hn.lt
theorem Inv.sz (I:Inv X pins σ H s):X.s₀.heap.objs.size<=s.heap.objs.size:=si I.ok.above (sD I.lt)
theorem Inv.nofs (I:Inv X pins σ H s) {a:Addr} (h:s.heap.objs.size<=a):a∉X.fs:=λhb=>by
 obtain⟨_,o,ho,_⟩:=I.ok.funs.mem hb;exact absurd (rZ (Heap.lt_size ho) (si I.sz h)) (sS _)
theorem Inv.cne (I:Inv X pins σ H s):∀x c,X.env.cells.lookup x=some c->c≠X.env.locals:=λx c e z=>by
 obtain⟨v,o,ho,hd⟩:=I.cell x c e;obtain⟨m,⟨o',es,ep,gE,mL,_⟩,_⟩:=I.loc;rw[z,gE] at ho;cases ho;rw[mL] at hd;cases hd
theorem Inv.funs (I:Inv X pins σ H s):s.heap.FunFrames X.base X.outer:=by
 have all:∀(l:List Env),(∀b∈frs l,b∈X.fs)->X.s₀.heap.FunFrames X.base l->s.heap.FunFrames X.base l:=by
  intro l
  induction l with
  |nil=>intro _ _;trivial
  |cons env r ih=>
   intro hs hl;obtain⟨hk,⟨L,o,hf,hn,ho,hd⟩,hr⟩:=hl;have hL:L∈X.fs:=hs L (by unfold frs;rw[ur,hf];exact rM);obtain⟨sl,e⟩:=I.base.slot L o ho (I.ok.frf L hL) hL λz=>I.ok.exfs L z hL;exact⟨hk,⟨L,_,hf,hn,e,hd⟩,ih (λb hb=>hs b (by unfold frs;rw[ur,hf];exact rF _ hb)) hr⟩
 exact all X.outer (λ_ hb=>hb) I.ok.funs
theorem Inv.stack (I:Inv X pins σ H s):s.heap.FunFrames X.base X.stack:=by
 rcases I.ok.stk with e|⟨e,hf⟩
 .rw[e];exact I.funs
 .rw[e];obtain⟨m,hn,_⟩:=I.loc;refine .cons (by rw[I.ok.kind];decide) hf hn ?_ I.funs;exact Heap.get?_none_of_le (si I.ok.bsz I.ok.above)
theorem Inv.stkSub (I:Inv X pins σ H s):∀b∈frs X.stack,b∈X.env.locals::X.fs:=λb hb=>by
 rcases I.ok.stk with e|⟨e,hf⟩
 .rw[e] at hb;exact rF _ hb
 .rw[e] at hb;unfold frs at hb;rw[ur,hf] at hb;exact hb
theorem Inv.stkFree (I:Inv X pins σ H s):∀b∈frs X.stack,H b=none:=λb hb=>by
 rcases rX.mp (I.stkSub b hb) with e|hb
 .rw[e];exact I.free
 .obtain⟨_,o,ho,_⟩:=I.ok.funs.mem hb;exact I.base.free b o ho (I.ok.frf b hb) λz=>I.ok.exfs b z hb
theorem Inv.step {g':Array GenState} {t':Nat} {d':Drawn} {ch:List Addr} (I:Inv X pins σ H s)
  (iq:∀b∈ch,(b∈X.ex\/X.s₀.heap.objs.size<=b)/\b≠X.env.locals/\(∀x c,X.env.cells.lookup x=some c->c≠b)/\∀p∈X.pn++pins,p.1≠b)
  (keep:∀b o,b≠X.env.locals->b∉X.fs->b∉ch->s.heap.get? b=some o->H b=none->h'.get? b=some o)
  (slot:∀b o,b≠X.env.locals->b∈X.fs->b∉ch->s.heap.get? b=some o->H b=none->∃sl,h'.get? b=some {o with slots:=sl}) (free:∀b o,b∉ch->s.heap.get? b=some o->H b=none->H' b=none)
  (there:∀b o,b∉ch->s.heap.get? b=some o->∃o',h'.get? b=some o')
  (tups:∀b xs,H b=some (.tup xs)->H' b=some (.tup xs)) (frzs:∀b o u,H b=some (.frz o u)->H' b=some (.frz o u)) (tbls:∀b ps,H b=some (.tbl ps)->∃more,H' b=some (.tbl (ps++more)))
  (ns:∀m,s.heap.Ns X.env.locals m->h'.Ns X.env.locals m) (hok:HOk X.prog X.w H' h') (hg:AllBare g'):
  Inv X pins σ H' {s with heap:=h',gens:=g',drawn:=d',toks:=t'}:=by
 have nk:∀b o,X.s₀.heap.get? b=some o->b≠X.env.locals:=λb o e=>rQ (rZ (Heap.lt_size e) I.ok.above);have kU:∀b o,X.s₀.heap.get? b=some o->b∉X.ex->b∉ch:=λb o e hx hb=>by
  rcases (iq b hb).1 with z|z
  .exact hx z
  .exact absurd (rZ (Heap.lt_size e) z) (sS _)
 have cellK:∀x c,X.env.cells.lookup x=some c->∀v,s.heap.IsCell c v->h'.IsCell c v:=λx c e v ⟨o,ho,hd⟩=>by
  have jX:c∉ch:=λz=>(iq c z).2.2.1 x c e rfl;by_cases hc:c∈X.fs
  .obtain⟨sl,q⟩:=slot c o (I.cne x c e) hc jX ho (I.freeC x c e);exact⟨_,q,hd⟩
  .exact⟨o,keep c o (I.cne x c e) hc jX ho (I.freeC x c e),hd⟩
 refine⟨I.ok,I.os,hg,⟨λb o e n hb hx=> ?_,λb o e n hb hx=> ?_,λb o e n hx=> ?_,λb o e hx=> ?_,λb xs e=>tups b xs (I.base.tups b xs e),λb o xs e=>frzs b o xs (I.base.frzs b o xs e),λb ps e=> ?_⟩,?_,λx c e=> ?_,?_,λx c e=> ?_,λp hp=> ?_,hok,I.len⟩
 .exact keep b o (nk b o e) hb (kU b o e hx) (I.base.keep b o e n hb hx) (I.base.free b o e n hx)
 .obtain⟨sl,e1⟩:=I.base.slot b o e n hb hx;obtain⟨sl',e2⟩:=slot b _ (nk b o e) hb (kU b o e hx) e1 (I.base.free b o e n hx);exact⟨sl',e2⟩
 .obtain⟨o',e1⟩:=I.base.there b o e hx;exact free b o' (kU b o e hx) e1 (I.base.free b o e n hx)
 .obtain⟨o',e1⟩:=I.base.there b o e hx;exact there b o' (kU b o e hx) e1
 .obtain⟨m1,e1⟩:=I.base.tbls b ps e;obtain⟨m2,e2⟩:=tbls b _ e1;exact⟨m1++m2,by rw[e2,v8]⟩
 .obtain⟨m,hn,hl⟩:=I.loc;refine⟨m,ns m hn,λi x v e1 e2 e3=> ?_⟩;obtain⟨u,r,l⟩:=hl i x v e1 e2 e3;refine⟨u,r,?_⟩;rcases l with l|⟨k,c,e,z⟩
  .exact .inl l
  .exact .inr ⟨k,c,e,cellK x c e _ z⟩
 .obtain⟨v,z⟩:=I.cell x c e;exact⟨v,cellK x c e v z⟩
 .obtain⟨m,⟨o,_,_,ho,_⟩,_⟩:=I.loc;exact free _ o (λz=>(iq _ z).2.1 rfl) ho I.free
 .obtain⟨v,o,ho,hd⟩:=I.cell x c e;exact free c o (λz=>(iq c z).2.2.1 x c e rfl) ho (I.freeC x c e)
 .obtain⟨e,n,ne,nf,d⟩:=I.pin p hp;have jX:p.1∉ch:=λz=>(iq p.1 z).2.2.2 p hp rfl;exact⟨keep p.1 p.2 ne nf jX e n,free p.1 p.2 jX e n,ne,nf,d⟩
theorem Inv.un {t':Nat} (I:Inv X pins σ H s) (u:Un X.fs [] H H' s.heap h') (hok:HOk X.prog X.w H' h'):Inv X pins σ H' {s with heap:=h',toks:=t'}:=by
 obtain⟨m,⟨o,es,ep,ho,r⟩,_⟩:=id I.loc;obtain⟨sl,hL⟩:=u.any ho I.free (by simp)
 exact I.step (g':=s.gens) (d':=s.drawn) (ch:=[]) (λ_ z=>nomatch z) (λb o _ hb _ e n=>u.keep b o e n hb (by simp)) (λb o _ hb _ e n=>u.slot b o e n hb (by simp)) (λb o _ e n=>u.free b o e n (by simp)) (λb o _ e=>u.there b o e (by simp)) u.tups u.frzs u.tbls (λm' hm=>by
  obtain⟨o',es',ep',gE,r'⟩:=hm;rw[ho] at gE;cases gE
  exact⟨_,es',ep',hL,r'⟩) hok I.bare
theorem Inv.call {g':Array GenState} {t':Nat} {d':Drawn} {ch:List Addr} (I:Inv X pins σ H s) (u:Un (frs X.stack) ch H H' s.heap h') (hok:HOk X.prog X.w H' h') (hg:AllBare g')
  (iq:∀b∈ch,(b∈X.ex\/X.s₀.heap.objs.size<=b)/\b≠X.env.locals/\(∀x c,X.env.cells.lookup x=some c->c≠b)/\∀p∈X.pn++pins,p.1≠b):
  Inv X pins σ H' {s with heap:=h',gens:=g',drawn:=d',toks:=t'}:=by
 obtain⟨m,⟨o,es,ep,ho,r⟩,_⟩:=id I.loc;obtain⟨sl,hL⟩:=u.any ho I.free λz=>(iq _ z).2.1 rfl
 exact I.step (ch:=ch) iq (λb o hL hb hc e n=>u.keep b o e n (λz=>(rX.mp (I.stkSub b z)).elim hL hb) hc) (λb o _ _ hc e n=>u.any e n hc) (λb o hc e n=>u.free b o e n hc) (λb o hc e=>u.there b o e hc) u.tups u.frzs u.tbls (λm' hm=>by
  obtain⟨o',es',ep',gE,r'⟩:=hm;rw[ho] at gE;cases gE
  exact⟨_,es',ep',hL,r'⟩) hok hg
theorem Inv.turned {t':Nat} {it:Addr} (I:Inv X pins σ H s) (k:∀b o,b≠it->s.heap.get? b=some o->h'.get? b=some o) (hn:H it=none) (hL:it≠X.env.locals)
  (h1:it∈X.ex\/X.s₀.heap.objs.size<=it) (h2:∀x c,X.env.cells.lookup x=some c->c≠it) (h3:∀p∈X.pn++pins,p.1≠it):Inv X pins σ H {s with heap:=h',toks:=t'}:=by
 have jW:∀b u,H b=some u->b≠it:=λb u e z=>by rw[z,hn] at e;cases e
 refine I.step (g':=s.gens) (d':=s.drawn) (ch:=[it]) (λb hb=> ?_) (λb o _ _ hc e _=>k b o (λz=>hc (by simp[z])) e) (λb o _ _ hc e _=>⟨o.slots,k b o (λz=>hc (by simp[z])) e⟩) (λ_ _ _ _ n=>n)
  (λb o hc e=>⟨o,k b o (λz=>hc (by simp[z])) e⟩) (λ_ _ e=>e) (λ_ _ _ e=>e) (λb ps e=>⟨#[],by rw[e];simp⟩) (λm hm=> ?_) (λb u e=> ?_) I.bare
 .have e:b=it:=by simpa using hb
  subst e;exact⟨h1,hL,h2,h3⟩
 .obtain⟨o,es,ep,ho,r⟩:=hm;exact⟨o,es,ep,k _ o (tf hL) ho,r⟩
 .refine (I.hok b u e).stay (λc v hc q=>k c v ?_ q) (λ_ q=>q) λ_ _ q=>q;rcases hc with z|z
  .rw[z];exact jW b u e
  .exact jW c _ z
theorem Inv.tok (I:Inv X pins σ H s) (t:Nat):Inv X pins σ H {s with toks:=t}:=I.un (h':=s.heap) (t':=t) Un.refl I.hok
theorem Inv.kept {t':Nat} (I:Inv X pins σ H s) (k:∀b u,s.heap.get? b=some u->h'.get? b=some u):Inv X pins σ H {s with heap:=h',toks:=t'}:=I.un (Un.kept k) (I.hok.kept k)
theorem Inv.laid {a:Addr} {o:HO} {t':Nat} (I:Inv X pins σ H s) (k:∀b u,s.heap.get? b=some u->h'.get? b=some u) (hp:s.heap.objs.size<=a) (new:xB X.prog X.w (upd H a o) h' a o):
  Inv X pins σ (upd H a o) {s with heap:=h',toks:=t'}:=I.un (Un.laid k hp (I.hok.fresh hp)) (I.hok.laid k hp new)
theorem Inv.write {x e:Addr} {o:HO} {t':Nat} (I:Inv X pins σ H s) (mu:Mut (H x)) (he:e=x\/H e=some (.own x)) (k:∀b u,b≠e->s.heap.get? b=some u->h'.get? b=some u) (j7:∃u,h'.get? e=some u)
  (new:xB X.prog X.w (upd H x o) h' x o):Inv X pins σ (upd H x o) {s with heap:=h',toks:=t'}:=I.un (Un.write mu he k j7) (I.hok.write mu he k j7 new)
theorem Inv.weak {σ':List (Option V)} (I:Inv X pins σ H s) (hl:σ'.length=σ.length) (w:∀(i:Nat) v,σ'[i]? =some (some v)->σ[i]? =some (some v)):Inv X pins σ' H s:=
 ⟨I.ok,I.os,I.bare,I.base,let ⟨m,hn,mC⟩:=I.loc;⟨m,hn,λi x v e1 e2 e3=>mC i x v e1 (w i v e2) e3⟩,I.cell,I.free,I.freeC,I.pin,I.hok,hl.trans I.len⟩
theorem Inv.pins_of {pins':List (Addr×Obj)} (I:Inv X pins σ H s) (h:∀p∈pins',s.heap.get? p.1=some p.2/\H p.1=none/\p.1≠X.env.locals/\p.1∉X.fs/\∀v,p.2.data≠ .cell v):Inv X pins' σ H s:=
 ⟨I.ok,I.os,I.bare,I.base,I.loc,I.cell,I.free,I.freeC,λp hp=>(sA.mp hp).elim (λz=>I.pin p (uQ _ z)) (h p),I.hok,I.len⟩
theorem zeu {N:List Str} (hN:N.Nodup) {i j:Nat} {x:Str} (a:N[i]? =some x) (b:N[j]? =some x):i=j:=by
 obtain⟨h1,e1⟩:=rg.mp a;obtain⟨h2,e2⟩:=rg.mp b;exact (AH hN).mp (e1.trans e2.symm)
theorem zc0 {M:Model} {A:Around} {E:Value->Shared->Prop} {i:Nat} {x:Str} {v:V} {u:Value} {Q:Unit->Shared->Prop} (I:Inv X pins σ H s) (hN:X.N.Nodup) (hi:X.N[i]? =some x) (hx:Loc X.env.scope x) (r:yr v u)
  (h:∀s',Inv X pins (σ.set i (some v)) H s'->(∃a,Heap.SameBut a s.heap s'.heap/\(a=X.env.locals\/X.env.cells.lookup x=some a))->Q () s') (hf:X.fn x=true\/X.env.scope.names.lookup x=some .local:=by first|exact .inl rfl|exact .inr rfl|assumption):wpAny M A (storeName X.env x u) Q E s:=by
 obtain⟨m,hn,hl⟩:=id I.loc;have mN:(X.env.scope.kind== .class||(X.env.scope.kind== .module&&X.env.locals !=X.env.globals))=false:=by rw[I.ok.kind];rfl
 have hiσ:i<σ.length:=by rw[I.len];exact (rg.mp hi).1
 have cne:=I.cne;have tracked:∀{a:Addr} {h':Heap},(∃o,s.heap.get? a=some o/\H a=none)->Heap.SameBut a s.heap h'->HOk X.prog X.w H h':=λ{a h'} ha hs b ob e=>by
  obtain⟨_,_,iZ⟩:=ha;refine (I.hok b ob e).stay (λc w' hc q=>(hs.2 c ?_).trans q) (λ_ q=>q) λ_ _ q=>q;rintro rfl;rcases hc with rfl|hc
  .rw[iZ] at e;cases e
  .rw[iZ] at hc;cases hc
 rcases hx with hk|hk
 .refine wpAny_storeName_local hk hn (λh' pF hs=> ?_) mN;obtain⟨oL,_,_,px,_⟩:=id hn;refine h _ ⟨I.ok,I.os,I.bare,⟨λb o e n hb hx=> ?_,λb o e n hb hx=> ?_,I.base.free,λb o e hx=> ?_,I.base.tups,I.base.frzs,I.base.tbls⟩,⟨_,pF,λj y v' e1 e2 e3=> ?_⟩,λy c e=> ?_,I.free,I.freeC,λp hp=> ?_,tracked ⟨oL,px,I.free⟩ hs,by simpa using I.len⟩ ⟨_,hs,.inl rfl⟩
  .exact (hs.2 b (rQ (rZ (Heap.lt_size e) I.ok.above))).trans (I.base.keep b o e n hb hx)
  .obtain⟨sl,e1⟩:=I.base.slot b o e n hb hx;exact⟨sl,(hs.2 b (rQ (rZ (Heap.lt_size e) I.ok.above))).trans e1⟩
  .obtain⟨o',e1⟩:=I.base.there b o e hx;exact⟨o',(hs.2 b (rQ (rZ (Heap.lt_size e) I.ok.above))).trans e1⟩
  .by_cases hj:j=i
   .subst hj;rw[hi] at e1;cases e1;rw[A7 hiσ] at e2;cases e2;exact⟨u,r,.inl ⟨hk,by simp⟩⟩
   .rw[sY (tf hj)] at e2;obtain⟨u',r',q⟩:=hl j y v' e1 e2 e3;refine⟨u',r',?_⟩;rcases q with⟨k,e⟩|⟨k,c,e,z⟩
    .refine .inl ⟨k,?_⟩;have:y≠x:=λe=>hj (zeu hN e1 (e ▸ hi));simp[this,e]
    .exact .inr ⟨k,c,e,z.sameBut hs (cne y c e)⟩
  .obtain⟨w',z⟩:=I.cell y c e;exact⟨w',z.sameBut hs (cne y c e)⟩
  .obtain⟨e,n,ne,nf,d⟩:=I.pin p hp;exact⟨(hs.2 p.1 ne).trans e,n,ne,nf,d⟩
 .have mJ:X.fn x=true:=by
   rcases hf with z|z
   .exact z
   .rw[z] at hk;cases hk
  obtain⟨c,hc⟩:=I.ok.has x (.inl hk);obtain⟨w',z⟩:=I.cell x c hc;refine wpAny_storeName_cell I.ok.kind hk hc z (λh' o3 hs=> ?_);obtain⟨oc,nT,mr⟩:=id z;refine h {s with heap:=h'} ⟨I.ok,I.os,I.bare,⟨λb o e n hb hx=> ?_,λb o e n hb hx=> ?_,I.base.free,λb o e hx=> ?_,I.base.tups,I.base.frzs,I.base.tbls⟩,⟨m,hn.sameBut hs (tf (cne x c hc)),λj y v' e1 e2 e3=> ?_⟩,λy c' e=> ?_,I.free,I.freeC,λp hp=> ?_,tracked ⟨oc,nT,I.freeC x c hc⟩ hs,by simpa using I.len⟩ ⟨c,hs,.inr hc⟩
  .exact (hs.2 b (rQ (rZ (Heap.lt_size e) (I.ok.cab x c mJ hc)))).trans (I.base.keep b o e n hb hx)
  .obtain⟨sl,e1⟩:=I.base.slot b o e n hb hx;exact⟨sl,(hs.2 b (rQ (rZ (Heap.lt_size e) (I.ok.cab x c mJ hc)))).trans e1⟩
  .obtain⟨o',e1⟩:=I.base.there b o e hx;exact⟨o',(hs.2 b (rQ (rZ (Heap.lt_size e) (I.ok.cab x c mJ hc)))).trans e1⟩
  .by_cases hj:j=i
   .subst hj;rw[hi] at e1;cases e1;rw[A7 hiσ] at e2;cases e2;exact⟨u,r,.inr ⟨.inl hk,c,hc,o3⟩⟩
   .rw[sY (tf hj)] at e2;obtain⟨u',r',q⟩:=hl j y v' e1 e2 e3;refine⟨u',r',?_⟩;rcases q with q|⟨k,c',e,z'⟩
    .exact .inl q
    .refine .inr ⟨k,c',e,z'.sameBut hs ?_⟩;rintro rfl;exact hj (zeu hN e1 (I.ok.inj _ _ _ e hc ▸ hi))
  .by_cases mO:c'=c
   .subst mO;exact⟨_,o3⟩
   .obtain⟨w2,z2⟩:=I.cell y c' e;exact⟨w2,z2.sameBut hs mO⟩
  .obtain⟨e,n,ne,nf,d⟩:=I.pin p hp;refine⟨(hs.2 p.1 ?_).trans e,n,ne,nf,d⟩;intro q;rw[q,nT] at e;have q':oc=p.2:=su e;exact d w' (by rw[<-q'];exact mr)
theorem zev {M:Model} {A:Around} {E:Value->Shared->Prop} {i:Nat} {x:Str} {v:V} {u:Value} {Q:Unit->Shared->Prop} (I:Inv X pins σ H s) (hN:X.N.Nodup) (hi:X.N[i]? =some x) (hx:Loc X.env.scope x) (r:yr v u)
  (h:∀s',Inv X pins (σ.set i (some v)) H s'->Q () s') (hf:X.fn x=true\/X.env.scope.names.lookup x=some .local:=by first|exact .inl rfl|exact .inr rfl|assumption):wpAny M A (storeName X.env x u) Q E s:=
 zc0 I hN hi hx r (λs' I' _=>h s' I') hf
theorem Inv.call' {s':Shared} {ch:List Addr} (I:Inv X pins σ H s) (ho:s'.os=s.os) (u:Un (frs X.stack) ch H H' s.heap s'.heap) (hok:HOk X.prog X.w H' s'.heap) (hg:AllBare s'.gens)
  (iq:∀b∈ch,(b∈X.ex\/X.s₀.heap.objs.size<=b)/\b≠X.env.locals/\(∀x c,X.env.cells.lookup x=some c->c≠b)/\∀p∈X.pn++pins,p.1≠b):Inv X pins σ H' s':=by
 obtain⟨h',g',d',t',o'⟩:=s';have e:o'=s.os:=ho;subst e;exact I.call (g':=g') (t':=t') (d':=d') u hok hg iq
end
abbrev XK:=Value->Option Addr->Hp->Prop
abbrev St:=List (Option V)
abbrev VK:=V->Hp->Prop
abbrev TE:=St->Hp->VK->Prop
abbrev TT:=St->Hp->(Bool->Hp->Prop)->Prop
abbrev TA:=St->Hp->(List V->Hp->Prop)->Prop
structure zak where
 nx:St->Hp->Prop
 rt:VK
 bk:St->Hp->Prop:=λ_ _=>False
 ct:St->Hp->Prop:=λ_ _=>False
noncomputable abbrev TS:=zak->St->Hp->Prop
def EP (X:Cx) (pins:List (Addr×Obj)) (σ:St) (Q:VK) (u:Value) (s':Shared):Prop:=∃v H',Inv X pins σ H' s'/\yr v u/\Q v H'
def TP (X:Cx) (pins:List (Addr×Obj)) (σ:St) (Q:Bool->Hp->Prop) (b:Bool) (s':Shared):Prop:=∃H',Inv X pins σ H' s'/\Q b H'
def AP (X:Cx) (pins:List (Addr×Obj)) (σ:St) (Q:List V->Hp->Prop) (us:List Value) (s':Shared):Prop:=∃vs H',Inv X pins σ H' s'/\yf vs us/\Q vs H'
def SP (X:Cx) (pins:List (Addr×Obj)) (D:zak) (f:Flow) (s':Shared):Prop:=
 match f with
 | .next=>∃σ' H',Inv X pins σ' H' s'/\D.nx σ' H'
 | .brk=>∃σ' H',Inv X pins σ' H' s'/\D.bk σ' H'
 | .cont=>∃σ' H',Inv X pins σ' H' s'/\D.ct σ' H'
 | .ret u=>∃v σ' H',Inv X pins σ' H' s'/\yr v u/\D.rt v H'
def PE (X:Cx) (e:Expr) (t:TE):Prop:=
 ∀(pins:List (Addr×Obj)) (s:Shared) (σ:St) (H:Hp) (Q:VK),Inv X pins σ H s->t σ H Q->wpAny (model X.prog X.w) X.A (eval e X.env) (EP X pins σ Q) X.xe s
def PT (X:Cx) (e:Expr) (t:TT):Prop:=
 ∀(pins:List (Addr×Obj)) (s:Shared) (σ:St) (H:Hp) (Q:Bool->Hp->Prop),Inv X pins σ H s->t σ H Q->wpAny (model X.prog X.w) X.A (isTrue e X.env (eval e X.env)) (TP X pins σ Q) X.xe s
def PW (X:Cx) (e:Expr) (t:TT):Prop:=
 ∀(whole:Sem Value) (pins:List (Addr×Obj)) (s:Shared) (σ:St) (H:Hp) (Q:Bool->Hp->Prop),Inv X pins σ H s->t σ H Q->wpAny (model X.prog X.w) X.A (isTrue e X.env whole) (TP X pins σ Q) X.xe s
theorem PW.pt {X:Cx} {e:Expr} {t:TT} (h:PW X e t):PT X e t:=h _
def PA (X:Cx) (es:List Expr) (t:TA):Prop:=
 ∀(pos:Pos) (pins:List (Addr×Obj)) (s:Shared) (σ:St) (H:Hp) (Q:List V->Hp->Prop),Inv X pins σ H s->t σ H Q->wpAny (model X.prog X.w) X.A (spliced (backTo pos (starEach es X.env))) (AP X pins σ Q) X.xe s
def PS (X:Cx) (st:Stmt) (t:TS):Prop:=
 ∀(pins:List (Addr×Obj)) (s:Shared) (σ:St) (H:Hp) (D:zak),Inv X pins σ H s->t D σ H->wpAny (model X.prog X.w) X.A (exec st X.env) (SP X pins D) X.xe s
def PSs (X:Cx) (st:List Stmt) (t:TS):Prop:=
 ∀(pins:List (Addr×Obj)) (s:Shared) (σ:St) (H:Hp) (D:zak),Inv X pins σ H s->t D σ H->wpAny (model X.prog X.w) X.A (execs st X.env) (SP X pins D) X.xe s
theorem thn {α:Type} {t:Sem α} {Q Q':α->Shared->Prop} {M:Model} {A:Around} {E:Value->Shared->Prop} {s:Shared} (h:wpAny M A t Q E s) (hQ:∀a s,Q a s->Q' a s):wpAny M A t Q' E s:=wpAny_mono h hQ λ_ _ x=>x
section
variable {X:Cx}
theorem bin {a b:Expr} {ta tb:TE} (ha:PE X a ta) (hb:PE X b tb) {pins:List (Addr×Obj)} {s:Shared} {σ:St} {H:Hp} {R:V->V->Hp->Prop} (I:Inv X pins σ H s) (h:ta σ H λx H1=>tb σ H1 λy H2=>R x y H2)
  {α:Type} {Q:α->Shared->Prop} {f:Value->Value->Sem α}
  (hf:∀v u s2 x y H2,Inv X pins σ H2 s2->yr x v->yr y u->R x y H2->wpAny (model X.prog X.w) X.A (f v u) Q X.xe s2):
  wpAny (model X.prog X.w) X.A (eval a X.env) (λv s₁=>wpAny (model X.prog X.w) X.A (eval b X.env) (λu s₂=>wpAny (model X.prog X.w) X.A (f v u) Q X.xe s₂) X.xe s₁) X.xe s:=by
 refine thn (ha pins s σ H _ I h) ?_;rintro v s1 ⟨x,H1,I1,r1,q1⟩;refine thn (hb pins s1 σ H1 _ I1 q1) ?_;rintro u s2 ⟨y,H2,I2,r2,q2⟩;exact hf v u s2 x y H2 I2 r1 r2 q2
def zmN (i:Nat):TE:=λσ H Q=>∃v,σ[i]? =some (some v)/\Q v H
def tC (v:V):TE:=λ_ H Q=>Q v H
theorem zmO {i:Nat} {x:Str} {pos:Pos} (hN:X.N[i]? =some x) (hv:Vis X.env.scope x) (hd:(x==("__debug__":Str))=false:=by decide) (fC:(x==("__classdict__":Str))=false:=by decide):PE X (.Name x pos) (zmN i):=by
 intro pins s σ H Q I h;obtain⟨v,e,h⟩:=h;obtain⟨m,hn,hl⟩:=I.loc;obtain⟨u,r,l⟩:=hl i x v hN e hv;have fin:EP X pins σ Q u s:=⟨v,H,I,r,h⟩;rcases l with⟨hk,hm⟩|⟨hk,c,hc,j8⟩
 .exact wpAny_Name (wpAny_loadName_local I.ok.kind hk hn hm fin) hd
 .rcases hk with hk|hk
  .exact wpAny_Name (wpAny_loadName_cell I.ok.kind hk hc j8 fin) hd
  .exact wpAny_Name (wpAny_loadName_free I.ok.kind hk hc j8 fin fC) hd
theorem zc {i j pos}:PE X (.Constant (.int i) j pos) (tC (.int i)):=λ_ _ _ H _ I h=>wpAny_Constant_int ⟨.int i,H,I.tok _,⟨_,rfl⟩,h⟩
theorem Vn {b j pos}:PE X (.Constant (.bool b) j pos) (tC (.bl b)):=λ_ _ _ H _ I h=>Constant_bool ⟨.bl b,H,I,rfl,h⟩
theorem ziM {j pos}:PE X (.Constant .none j pos) (tC .non):=λ_ _ _ H _ I h=>Constant_none ⟨.non,H,I,rfl,h⟩
theorem zg {x j pos}:PE X (.Constant (.str x) j pos) (tC (.str x)):=λ_ _ _ H _ I h=>Calls.Constant_str ⟨.str x,H,I.tok _,⟨_,rfl⟩,h⟩
def Gl (X:Cx) (x:Str):Prop:=X.env.kindOf x=some .globalImplicit
theorem zdA {E:Value->Shared->Prop} {pins:List (Addr×Obj)} {s:Shared} {σ:St} {H:Hp} {x:Str} {u:Value} {pos:Pos} {Q:Value->Shared->Prop} (I:Inv X pins σ H s) (hg:Gl X x) (hm:X.mg x=some u) (h:Q u s)
  (hd:(x==("__debug__":Str))=false:=by decide):wpAny (model X.prog X.w) X.A (eval (.Name x pos) X.env) Q E s:=
 Calls.Name_function_global I.ok.kind hg (Calls.loadGlobal_global (by rw[I.ok.glob];exact I.mod.glob.keeps I.bk) hm h) hd
theorem Vw {E:Value->Shared->Prop} {pins:List (Addr×Obj)} {s:Shared} {σ:St} {H:Hp} {x:Str} {u:Value} {pos:Pos} {Q:Value->Shared->Prop} (I:Inv X pins σ H s) (hg:Gl X x) (hm:X.mg x=none) (hv:bootBuiltins x=some u) (h:Q u s)
  (hn:x≠"__name__":=by decide) (hd:(x==("__debug__":Str))=false:=by decide):wpAny (model X.prog X.w) X.A (eval (.Name x pos) X.env) Q E s:=by
 obtain⟨mb,h1,h2⟩:=I.mod.blt;exact Calls.Name_function_global I.ok.kind hg (Calls.loadGlobal_builtin (by rw[I.ok.glob];exact I.mod.glob.keeps I.bk) hm (by rw[I.ok.blt];exact h1.keeps I.bk) ((h2 x hn).trans hv) h) hd
theorem xc {x:Str} {v:V} {u:Value} {pos:Pos} (hg:Gl X x) (hm:X.mg x=some u) (r:yr v u) (hd:(x==("__debug__":Str))=false:=by decide):PE X (.Name x pos) (tC v):=
 λ_ _ _ H _ I h=>zdA I hg hm ⟨v,H,I,r,h⟩ hd
theorem zba {x:Str} {v:V} {u:Value} {pos:Pos} (hg:Gl X x) (hm:X.mg x=none) (hv:bootBuiltins x=some u) (r:yr v u) (hn:x≠"__name__":=by decide) (hd:(x==("__debug__":Str))=false:=by decide):PE X (.Name x pos) (tC v):=
 λ_ _ _ H _ I h=>Vw I hg hm hv ⟨v,H,I,r,h⟩ hn hd
def t2I (ta tb:TE) (k:Int->Int->Hp->Prop):St->Hp->Prop:=λσ H=>ta σ H λx H1=>tb σ H1 λy H2=>∃i j,x= .int i/\y= .int j/\k i j H2
variable {a b:Expr} {ta tb:TE} {pos:Pos}
def PC (X:Cx) (op:CmpOp) (a b:Expr) (t:TE):Prop:=
 ∀(pins:List (Addr×Obj)) (s:Shared) (σ:St) (H:Hp) (Q:VK),Inv X pins σ H s->t σ H Q->
  wpAny (model X.prog X.w) X.A (eval a X.env) (λv s₁=>wpAny (model X.prog X.w) X.A (eval b X.env) (λu s₂=>wpAny (model X.prog X.w) X.A (compareOp op v u) (EP X pins σ Q) X.xe s₂) X.xe s₁) X.xe s
theorem zew (b:Expr) {op:CmpOp} (h:op≠ .In) (h2:op≠ .NotIn):behindInMarks op b=false:=by
 have e1:(op==CmpOp.In)=false:=by cases op<;>first|rfl|exact absurd rfl h
 have e2:(op==CmpOp.NotIn)=false:=by cases op<;>first|rfl|exact absurd rfl h2
 cases b<;>simp[behindInMarks,e1,e2]
def zex (p:Int->Int->Bool) (ta tb:TE):TE:=λσ H Q=>t2I ta tb (λi j H2=>Q (.bl (p i j)) H2) σ H
noncomputable abbrev tLt:TE->TE->TE:=zex λi j=>decide (i<j)
noncomputable abbrev tLe:TE->TE->TE:=zex λi j=>decide (i<=j)
noncomputable abbrev tGt:TE->TE->TE:=zex λi j=>decide (j<i)
noncomputable abbrev tGe:TE->TE->TE:=zex λi j=>decide (j<=i)
noncomputable abbrev zop:TE->TE->TE:=zex λi j=>decide (i=j)
noncomputable abbrev zoq:TE->TE->TE:=zex λi j=> !decide (i=j)
theorem zbn {op:CmpOp} {p:Int->Int->Bool} (ha:PE X a ta) (hb:PE X b tb)
  (rule:∀(i j:Int) (t u:Tok) (Q:Value->Shared->Prop) (s:Shared),Q (.bool (p i j)) s->wpAny (model X.prog X.w) X.A (compareOp op (.int i t) (.int j u)) Q X.xe s):PC X op a b (zex p ta tb):=by
 intro pins s σ H Q I h;refine bin ha hb I h λv u s2 x y H2 I2 rx ry q=> ?_;obtain⟨i,j,rfl,rfl,q⟩:=q;obtain⟨t,rfl⟩:=rx;obtain⟨t',rfl⟩:=ry;exact rule i j t t' _ s2 ⟨.bl _,H2,I2,rfl,q⟩
theorem zc1 (ha:PE X a ta) (hb:PE X b tb):PC X .Lt a b (tLt ta tb):=zbn ha hb λ_ _ _ _ _ _ h=>lt_int h
theorem ziN (ha:PE X a ta) (hb:PE X b tb):PC X .LtE a b (tLe ta tb):=zbn ha hb λ_ _ _ _ _ _ h=>le_int h
theorem Zm (ha:PE X a ta) (hb:PE X b tb):PC X .Gt a b (tGt ta tb):=zbn ha hb λ_ _ _ _ _ _ h=>gt_int h
theorem yT (ha:PE X a ta) (hb:PE X b tb):PC X .Eq a b (zop ta tb):=zbn ha hb λ_ _ _ _ _ _ h=>eq_int (by rw[Ad];exact h)
theorem zal (ha:PE X a ta) (hb:PE X b tb):PC X .NotEq a b (zoq ta tb):=zbn ha hb λ_ _ _ _ _ _ h=>ne_int (by rw[bne,Ad];exact h)
def zor (ta:TE):TE:=λσ H Q=>ta σ H λx H1=>Q (.bl (decide (x= .non))) H1
def zma (ta:TE):TE:=λσ H Q=>ta σ H λx H1=>Q (.bl (!decide (x= .non))) H1
theorem yr.none_iff {x:V} {v:Value} (r:yr x v):(v==Value.none)=decide (x= .non):=by
 cases x with
 |non=>cases r;rfl
 |bl _=>cases r;rfl
 |int _=>obtain⟨t,rfl⟩:=r;rfl
 |str _=>obtain⟨t,rfl⟩:=r;rfl
 |byt _=>obtain⟨t,rfl⟩:=r;rfl
 |flt _=>obtain⟨t,rfl⟩:=r;rfl
 |ref _=>cases r;rfl
 |ty _=>cases r;rfl
theorem zmP {j pos'} (ha:PE X a ta):PC X .Is a (.Constant .none j pos') (zor ta):=by
 intro pins s σ H Q I h;refine thn (ha pins s σ H _ I h) ?_;rintro v s1 ⟨x,H1,I1,r1,q1⟩;exact Constant_none (is_none_gen ⟨.bl _,H1,I1,by rw[r1.none_iff];rfl,q1⟩)
theorem zkO {j pos'} (ha:PE X a ta):PC X .IsNot a (.Constant .none j pos') (zma ta):=by
 intro pins s σ H Q I h;refine thn (ha pins s σ H _ I h) ?_;rintro v s1 ⟨x,H1,I1,r1,q1⟩;exact Constant_none (isnot_none_gen ⟨.bl _,H1,I1,by rw[r1.none_iff];rfl,q1⟩)
def tB (t:TE):TT:=λσ H Q=>t σ H λx H1=>∃c,x= .bl c/\Q c H1
theorem UH {op:CmpOp} {t:TE} (h:PC X op a b t) (h1:behindInMarks op b=false:=by first|exact zew _ ∅ ∅|rfl):PE X (.Compare a [op] [b] pos) t:=λpins s σ H Q I hw=>wpAny_Compare1 (h pins s σ H Q I hw) h1
theorem zN {op:CmpOp} {t:TE} (h:PC X op a b t) (h1:behindInMarks op b=false:=by first|exact zew _ ∅ ∅|rfl):PT X (.Compare a [op] [b] pos) (tB t):=by
 intro pins s σ H Q I hw;refine wpAny_isTrue_Compare1 (thn (h pins s σ H _ I hw) λv s1 h1=>thn h1 λu s2 h2=>thn h2 ?_) h1;rintro c s3 ⟨x,H1,I1,r1,q1⟩;obtain⟨d,rfl,q⟩:=q1;cases r1;exact wpAny_truthy_bool ⟨H1,I1,q⟩
theorem vt {e:Expr} {t:TE} (h:PE X e t) (he:∀whole,isTrue e X.env whole=(do let v <-whole;standAt e.pos;holding [v] (truthy v)):=by intro _;rfl):PT X e (tB t):=by
 intro pins s σ H Q I hw;refine isTrue_plain (thn (h pins s σ H _ I hw) ?_) (he _);rintro v s1 ⟨x,H1,I1,r1,q1⟩;obtain⟨d,rfl,q⟩:=q1;cases r1;exact wpAny_truthy_bool ⟨H1,I1,q⟩
variable {tA tB':TT} {rest:List Expr}
def zos (t u:TT):TT:=λσ H Q=>t σ H λc H1=>if c=true then u σ H1 Q else Q false H1
def tOr (t u:TT):TT:=λσ H Q=>t σ H λc H1=>if c=true then Q true H1 else u σ H1 Q
def zot (t:TT):TT:=λσ H Q=>t σ H λc H1=>Q (!c) H1
theorem wB (ha:PT X a tA):PW X (.BoolOp .And [a] pos) tA:=by
 intro wh pins s σ H Q I h;refine isTrue_and (thn (ha pins s σ H Q I h) λc s1 e=> ?_);cases c with
 |true=>exact isTrue_and_nil e
 |false=>exact e
theorem Zp (ha:PT X a tA):PW X (.BoolOp .Or [a] pos) tA:=by
 intro wh pins s σ H Q I h;refine isTrue_or (thn (ha pins s σ H Q I h) λc s1 e=> ?_);cases c with
 |false=>exact isTrue_or_nil e
 |true=>exact e
theorem Zq (ha:PT X a tA) (hb:PW X (.BoolOp .And (b::rest) pos) tB'):PW X (.BoolOp .And (a::b::rest) pos) (zos tA tB'):=by
 intro wh pins s σ H Q I h;refine isTrue_and (thn (ha pins s σ H _ I h) ?_);rintro c s1 ⟨H1,I1,q1⟩;cases c with
 |true=>exact hb wh pins s1 σ H1 Q I1 q1
 |false=>exact⟨H1,I1,q1⟩
theorem Wj (ha:PT X a tA) (hb:PW X (.BoolOp .Or (b::rest) pos) tB'):PW X (.BoolOp .Or (a::b::rest) pos) (tOr tA tB'):=by
 intro wh pins s σ H Q I h;refine isTrue_or (thn (ha pins s σ H _ I h) ?_);rintro c s1 ⟨H1,I1,q1⟩;cases c with
 |true=>exact⟨H1,I1,q1⟩
 |false=>exact hb wh pins s1 σ H1 Q I1 q1
theorem vG (ha:PT X a tA):PT X (.UnaryOp .Not a pos) (zot tA):=by
 intro pins s σ H Q I h;exact isTrue_not (ha pins s σ H (λc H1=>Q (!c) H1) I h)
def zmb (ta tb:TE):TE:=λσ H Q=>ta σ H λx H1=>∃c,x= .bl c/\if c=true then tb σ H1 Q else Q (.bl false) H1
def zou (ta tb:TE):TE:=λσ H Q=>ta σ H λx H1=>∃c,x= .bl c/\if c=true then Q (.bl true) H1 else tb σ H1 Q
def zmc (ta:TE):TE:=λσ H Q=>ta σ H λx H1=>∃c,x= .bl c/\Q (.bl (!c)) H1
theorem zam {op} {t:TE} (h:PE X a t):PE X (.BoolOp op [a] pos) t:=λpins s σ H Q I hw=>BoolOp_one (h pins s σ H Q I hw)
theorem zbo (ha:PE X a ta) (hb:PE X (.BoolOp .And (b::rest) pos) tb):PE X (.BoolOp .And (a::b::rest) pos) (zmb ta tb):=by
 intro pins s σ H Q I h;refine BoolOp_and (thn (ha pins s σ H _ I h) ?_);rintro v s1 ⟨x,H1,I1,r1,q1⟩;obtain⟨c,rfl,q1⟩:=q1;cases r1;refine wpAny_truthy_bool ?_;cases c with
 |true=>exact hb pins s1 σ H1 Q I1 q1
 |false=>exact⟨.bl false,H1,I1,rfl,q1⟩
theorem zov (ha:PE X a ta) (hb:PE X (.BoolOp .Or (b::rest) pos) tb):PE X (.BoolOp .Or (a::b::rest) pos) (zou ta tb):=by
 intro pins s σ H Q I h;refine BoolOp_or (thn (ha pins s σ H _ I h) ?_);rintro v s1 ⟨x,H1,I1,r1,q1⟩;obtain⟨c,rfl,q1⟩:=q1;cases r1;refine wpAny_truthy_bool ?_;cases c with
 |false=>exact hb pins s1 σ H1 Q I1 q1
 |true=>exact⟨.bl true,H1,I1,rfl,q1⟩
theorem zmQ (ha:PE X a ta):PE X (.UnaryOp .Not a pos) (zmc ta):=by
 intro pins s σ H Q I h;refine UnaryOp_ (thn (ha pins s σ H _ I h) ?_);rintro v s1 ⟨x,H1,I1,r1,q1⟩;obtain⟨c,rfl,q1⟩:=q1;cases r1;exact not_of (wpAny_truthy_bool ⟨.bl (!c),H1,I1,rfl,q1⟩)
def tIf (t:TT) (ta tb:TE):TE:=λσ H Q=>t σ H λc H1=>if c=true then ta σ H1 Q else tb σ H1 Q
theorem ziO {c:Expr} (hc:PT X c tA) (ha:PE X a ta) (hb:PE X b tb):PE X (.IfExp c a b pos) (tIf tA ta tb):=by
 intro pins s σ H Q I h;refine wpAny_IfExp (thn (hc pins s σ H _ I h) ?_);rintro d s1 ⟨H1,I1,q1⟩;cases d with
 |true=>exact ha pins s1 σ H1 Q I1 q1
 |false=>exact hb pins s1 σ H1 Q I1 q1
end
def SqL (K:r6) (H:Hp) (a:Addr) (xs:List V):Prop:=
 Rd H a (.lst xs)\/
  ∃(o:Obj) (af:Array Value) (n:Nat),K.lookup a=some o/\o.cls= .type "list"/\o.dict=none/\o.data= .seq af n/\af.size<=sizeLine/\yf xs af.toList
def SqT (K:r6) (H:Hp) (a:Addr) (xs:List V):Prop:=
 Rd H a (.tup xs)\/
  ∃(o:Obj) (af:Array Value) (n:Nat),K.lookup a=some o/\o.cls= .type "tuple"/\o.data= .seq af n/\af.size<=sizeLine/\yf xs af.toList
def SqX (K:r6) (H:Hp) (a:Addr) (xs:List V):Prop:=
 Rd H a (.lst xs)\/∃(af:Array Value) (n:Nat),K.lookup a=some {cls:= .type "list",data:= .seq af n}/\af.size<=sizeLine/\yf xs af.toList
theorem SqX.sql {K:r6} {H:Hp} {a:Addr} {xs:List V} (h:SqX K H a xs):SqL K H a xs:=by
 rcases h with h|⟨af,n,hk,hz,r⟩
 .exact .inl h
 .exact .inr ⟨_,af,n,hk,rfl,rfl,rfl,hz,r⟩
theorem SqX.of {K:r6} {H:Hp} {a:Addr} {xs:List V} (h:H a=some (.lst xs)):SqX K H a xs:= .inl (.inl h)
noncomputable def zpN:Value->Option V
 | .none=>some .non
 | .bool b=>some (.bl b)
 | .int i _=>some (.int i)
 | .str x _=>some (.str x)
 | .bytes b _=>some (.byt b)
 | .float b _=>some (.flt b)
 | .ref a=>some (.ref a)
 | .type n=>some (.ty n)
 |_=>none
theorem yr.abs {x:V} {u:Value} (r:yr x u):zpN u=some x:=by
 cases x with
 |non=>cases r;rfl
 |bl _=>cases r;rfl
 |int _=>obtain⟨t,rfl⟩:=r;rfl
 |str _=>obtain⟨t,rfl⟩:=r;rfl
 |byt _=>obtain⟨t,rfl⟩:=r;rfl
 |flt _=>obtain⟨t,rfl⟩:=r;rfl
 |ref _=>cases r;rfl
 |ty _=>cases r;rfl
theorem yr.inj {x y:V} {u:Value} (r:yr x u) (q:yr y u):x=y:=su (r.abs.symm.trans q.abs)
theorem yf.inj:∀{xs ys:List V} {us:List Value},yf xs us->yf ys us->xs=ys
 |_,_,_,.nil,.nil=>rfl
 |_,_,_,.cons r t,.cons r' t'=>by rw[r.inj r',yf.inj t t']
section
variable {X:Cx} {pins:List (Addr×Obj)} {σ:St} {H:Hp} {s:Shared} {a:Addr} {xs ys:List V}
theorem SqT.of {K:r6} (h:H a=some (.tup xs)):SqT K H a xs:= .inl (.inl h)
theorem Inv.list (I:Inv X pins σ H s) (h:SqL X.K H a xs):∃af:List Value,yf xs af/\PlainL s.heap a af.toArray/\xs.length<=sizeLine:=by
 rcases h with h|⟨o,af,n,hk,hc,hd,hs,hz,r⟩
 .obtain⟨z,af,n,r,e⟩:=h.ok I.hok;exact⟨af,r,⟨_,n,e,rfl,rfl,rfl⟩,z⟩
 .refine⟨af.toList,r,⟨o,n,I.kIn a o hk,hc,hd,by simpa using hs⟩,?_⟩;have e:=r.length;simp only[uv] at e;omega
theorem Inv.tuple (I:Inv X pins σ H s) (h:SqT X.K H a xs):∃af:List Value,yf xs af/\IsTup s.heap a af.toArray/\xs.length<=sizeLine:=by
 rcases h with h|⟨o,af,n,hk,hc,hs,hz,r⟩
 .obtain⟨z,af,r,p⟩:=h.ok I.hok;exact⟨af,r,p.tup,z⟩
 .refine⟨af.toList,r,⟨o,I.kIn a o hk,hc,n,by simpa using hs⟩,?_⟩;have e:=r.length;simp only[uv] at e;omega
theorem Inv.list_inj (I:Inv X pins σ H s) (h:SqL X.K H a xs) (h':SqL X.K H a ys):xs=ys:=by
 obtain⟨af,r,⟨o,n,e,_,_,d⟩,_⟩:=I.list h;obtain⟨its',r',⟨o',n',e',_,_,d'⟩,_⟩:=I.list h';rw[e] at e';cases e';rw[d] at d';injection d' with d1 _
 have:af=its':=by simpa using congrArg Bj d1
 subst this;exact r.inj r'
theorem Inv.tuple_inj (I:Inv X pins σ H s) (h:SqT X.K H a xs) (h':SqT X.K H a ys):xs=ys:=by
 obtain⟨af,r,⟨o,e,_,n,d⟩,_⟩:=I.tuple h;obtain⟨its',r',⟨o',e',_,n',d'⟩,_⟩:=I.tuple h';rw[e] at e';cases e';rw[d] at d';injection d' with d1 _
 have:af=its':=by simpa using congrArg Bj d1
 subst this;exact r.inj r'
end
noncomputable abbrev Cx.wish (X:Cx) (E:Value->Shared->Prop):Cx:={X with xe:=E}
noncomputable abbrev Cx.nox (X:Cx):Cx:=X.wish λ_ _=>False
section
variable {X:Cx} {pins:List (Addr×Obj)} {σ:St} {H:Hp} {s:Shared} {E:Value->Shared->Prop}
end
section
variable {X:Cx} {st:Stmt} {rest:List Stmt} {t u:TS} {e:Expr} {te:TE} {pos:Pos}
def zmd:TS:=λD σ H=>D.nx σ H
def zow (t u:TS):TS:=λD σ H=>t {D with nx:=u D} σ H
theorem zr:PSs X [] zmd:=λ_ _ σ H _ I h=>wpAny_execs_nil ⟨σ,H,I,h⟩
theorem ziP (h1:PS X st t) (h2:PSs X rest u):PSs X (st::rest) (zow t u):=by
 intro pins s σ H D I h;refine wpAny_execs_cons (thn (h1 pins s σ H {D with nx:=u D} I h) λf s1 q=> ?_);cases f with
 |next=>
  obtain⟨σ',H',I',q⟩:=q;exact h2 pins s1 σ' H' D I' q
 |ret v=>exact q
 |brk=>exact q
 |cont=>exact q
theorem zkP (h1:PS X st t):PSs X [st] t:=by
 intro pins s σ H D I h;refine wpAny_execs_cons (thn (h1 pins s σ H D I h) λf s1 q=> ?_);cases f with
 |next=>exact wpAny_execs_nil q
 |ret v=>exact q
 |brk=>exact q
 |cont=>exact q
theorem Inv.quiet {pins:List (Addr×Obj)} {σ:St} {H:Hp} {s:Shared} (I:Inv X pins σ H s):interactive X.env=false:=by simp[interactive,I.ok.kind]
def zme (te:TE):TS:=λD σ H=>te σ H λ_ H1=>D.nx σ H1
theorem yM (he:PE X e te) (hs:swapsWith e none pos.line X.env=pure false:=by rfl):PS X (.Expr e pos) (zme te):=by
 intro pins s σ H D I h;refine wpAny_Expr_any (thn (he pins s σ H _ I h) ?_) I.quiet hs;rintro v s1 ⟨x,H1,I1,r1,q1⟩;exact⟨σ,H1,I1,q1⟩
def zox (te:TE):TS:=λD σ H=>te σ H D.rt
theorem zmR (he:PE X e te):PS X (.Return (some e) pos) (zox te):=by
 intro pins s σ H D I h;refine wpAny_Return_some (thn (he pins s σ H _ I h) ?_);rintro v s1 ⟨x,H1,I1,r1,q1⟩;exact⟨x,σ,H1,I1,r1,q1⟩
def zoy (c:TT) (t u:TS):TS:=λD σ H=>c σ H λb H1=>if b=true then t D σ H1 else u D σ H1
theorem zD {c:Expr} {a b:List Stmt} {tc:TT} (hc:PT X c tc) (ha:PSs X a t) (hb:PSs X b u):PS X (.If c a b pos) (zoy tc t u):=by
 intro pins s σ H D I h;refine wpAny_If (thn (hc pins s σ H _ I h) ?_);rintro d s1 ⟨H1,I1,q1⟩;cases d with
 |true=>exact ha pins s1 σ H1 D I1 q1
 |false=>exact hb pins s1 σ H1 D I1 q1
def zmS:TS:=λ_ _ _=>False
theorem wo:PS X st zmS:=λ_ _ _ _ _ _ h=>h.elim
end
abbrev TG:=V->St->Hp->(St->Hp->Prop)->Prop
abbrev TGs:=List V->St->Hp->(St->Hp->Prop)->Prop
def PG (X:Cx) (target:Expr) (t:TG):Prop:=
 ∀(pins:List (Addr×Obj)) (s:Shared) (σ:St) (H:Hp) (v:V) (u:Value) (Q:St->Hp->Prop),Inv X pins σ H s->yr v u->t v σ H Q->
  wpAny (model X.prog X.w) X.A (assign target X.env u) (λ_ s'=>∃σ' H',Inv X pins σ' H' s'/\Q σ' H') X.xe s
def PGs (X:Cx) (ts:List Expr) (t:TGs):Prop:=
 ∀(pins:List (Addr×Obj)) (s:Shared) (σ:St) (H:Hp) (vs:List V) (us:List Value) (Q:St->Hp->Prop),Inv X pins σ H s->yf vs us->t vs σ H Q->
  wpAny (model X.prog X.w) X.A (assignInOrder ((assignEach ts X.env).map (·.2)) us) (λ_ s'=>∃σ' H',Inv X pins σ' H' s'/\Q σ' H') X.xe s
abbrev zmT:=V->V->V->Hp->(Hp->Prop)->Prop
def zoz (X:Cx) (t:zmT):Prop:=
 ∀(pins:List (Addr×Obj)) (s:Shared) (σ:St) (H:Hp) (o i v:V) (ov iv u:Value) (Q:Hp->Prop),Inv X pins σ H s->yr o ov->yr i iv->yr v u->t o i v H Q->
  wpAny (model X.prog X.w) X.A (setItem ov iv u) (λ_ s'=>∃H',Inv X pins σ H' s'/\Q H') X.xe s
abbrev TIp:=V->V->Hp->VK->Prop
section
variable {X:Cx} {pos:Pos}
def zc2 (i:Nat):TG:=λv σ H Q=>Q (σ.set i (some v)) H
theorem zL {i:Nat} {x:Str} (hN:X.N.Nodup) (hi:X.N[i]? =some x) (hx:Loc X.env.scope x) (hf:X.fn x=true\/X.env.scope.names.lookup x=some .local:=by first|exact .inl rfl|exact .inr rfl|assumption):PG X (.Name x pos) (zc2 i):=by
 intro pins s σ H v u Q I r h;exact wpAny_assign_Name (zev I hN hi hx r (λs' I'=>⟨_,H,I',h⟩) hf)
def zmU:TGs:=λvs σ H Q=>vs=[]/\Q σ H
def ziQ (t:TG) (u:TGs):TGs:=λvs σ H Q=>∃v r,vs=v::r/\t v σ H λσ' H'=>u r σ' H' Q
theorem ZB:PGs X [] zmU:=by
 intro pins s σ H vs us Q I r h;obtain⟨e,h⟩:=h;subst e;cases r;exact assignInOrder_nil ⟨σ,H,I,h⟩
theorem yF {e:Expr} {es:List Expr} {t:TG} {u:TGs} (h1:PG X e t) (h2:PGs X es u)
  (hs:(assignEach (e::es) X.env).map (·.2)=assign e X.env::(assignEach es X.env).map (·.2):=by rfl):PGs X (e::es) (ziQ t u):=by
 intro pins s σ H vs us Q I r h;obtain⟨v,vr,e1,h⟩:=h;subst e1;cases r with
 |cons r rr=>
  rw[hs];refine assignInOrder_cons (thn (h1 pins s σ H _ _ _ I r h) ?_);rintro _ s1 ⟨σ1,H1,I1,q1⟩;exact h2 pins s1 σ1 H1 _ _ Q I1 rr q1
def zkQ (K:r6) (n:Nat) (t:TGs):TG:=λv σ H Q=>∃a xs,v= .ref a/\SqT K H a xs/\xs.length=n/\t xs σ H Q
theorem zmV {es:List Expr} {k:Nat} {t:TGs} {n:Nat} (hc:X.calm=true) (h:PGs X es t)
  (hn:(assignEach es X.env).length=n:=by rfl) (fM:(assignEach es X.env).findIdx? (·.1)=none:=by rfl):PG X (.Tuple es k pos) (zkQ X.K n t):=by
 intro pins s σ H v u Q I r hw;obtain⟨a,xs,e1,hq,hl,hw⟩:=hw;subst e1;cases r;obtain⟨af,rv,ht,hz⟩:=I.tuple hq;refine assign_Tuple_tuple (I.ok.hd hc) ht (by simp[hn,<-hl,rv.length]) fM λh' hx=> ?_;have I1:Inv X pins σ H {s with heap:=h'}:=I.kept (t':=s.toks) λb o e=>hx b o (rQ (Heap.lt_size e)) e;exact h pins _ σ H xs _ Q I1 (by simpa using rv) hw
def zoA (to ti:TE) (t:zmT):TG:=λv σ H Q=>to σ H λo H1=>ti σ H1 λi H2=>t o i v H2 λH3=>Q σ H3
theorem zfO {o i:Expr} {to ti:TE} {t:zmT} (ho:PE X o to) (hi:PE X i ti) (hs:zoz X t)
  (ha:∀v,assign (.Subscript o i pos) X.env v=(do
   let ov <-holding [v] (eval o X.env)
   let iv <-holding [v,ov] (eval i X.env)
   standAt pos
   holding [v,ov,iv] (setItem ov iv v)
   release [v,ov,iv] []):=by intro _;rfl):PG X (.Subscript o i pos) (zoA to ti t):=by
 intro pins s σ H v u Q I r h;rw[ha];refine wpAny_bind (wpAny_holding (thn (ho pins s σ H _ I h) ?_));rintro ov s1 ⟨x,H1,I1,r1,q1⟩;refine wpAny_bind (wpAny_holding (thn (hi pins s1 σ H1 _ I1 q1) ?_));rintro iv s2 ⟨y,H2,I2,r2,q2⟩;refine wpAny_bind (wpAny_standAt (wpAny_bind (wpAny_holding (thn (hs pins s2 σ H2 x y v ov iv u _ I2 r1 r2 r q2) ?_))));rintro _ s3 ⟨H3,I3,q3⟩;exact wpAny_release ⟨σ,H3,I3,q3⟩
def zmW (te:TE) (g:TG):TS:=λD σ H=>te σ H λx H1=>g x σ H1 D.nx
theorem XJ {tg e:Expr} {te:TE} {g:TG} (he:PE X e te) (hg:PG X tg g) (hs:swapsWithSole [tg] e pos.line X.env=pure false:=by rfl) (hw:swappedStores [tg] e X.env=pure none:=by rfl)
  (h1:(assignEach [tg] X.env).map (·.2)=[assign tg X.env]:=by rfl):PS X (.Assign [tg] e pos) (zmW te g):=by
 intro pins s σ H D I h;refine wpAny_Assign_stores (thn (he pins s σ H _ I h) ?_) hs hw;rintro v s1 ⟨x,H1,I1,r1,q1⟩;rw[h1];exact thn (hg pins s1 σ H1 x v _ I1 r1 q1) λ_ s2 q=>q
theorem zmX {i:Nat} {x:Str} {e:Expr} {te:TE} {pos':Pos} (hN:X.N.Nodup) (hi:X.N[i]? =some x) (hx:Loc X.env.scope x) (he:PE X e te) (hs:swapsWith e (some (.Name x pos')) pos.line X.env=pure false:=by rfl) (hf:X.fn x=true\/X.env.scope.names.lookup x=some .local:=by first|exact .inl rfl|exact .inr rfl|assumption):
  PS X (.Assign [.Name x pos'] e pos) (zmW te (zc2 i)):=by
 intro pins s σ H D I h;refine wpAny_Assign_Name (thn (he pins s σ H _ I h) ?_) hs;rintro v s1 ⟨y,H1,I1,r1,q1⟩;exact zev I1 hN hi hx r1 (λs2 I2=>⟨_,H1,I2,q1⟩) hf
def ziR (c:TT) (tb:TS):TS:=λD σ H=>∃W:Nat->St->Hp->Prop,(∃m,W m σ H)/\∀m σ H,W m σ H->
 c σ H λb H1=>if b=true then ∃N:St->Hp->Prop,(∀σ' H',N σ' H'->∃m',m'<m/\W m' σ' H')/\tb {D with nx:=N,ct:=N,bk:=D.nx} σ H1 else D.nx σ H1
theorem Ya {c:Expr} {body:List Stmt} {tc:TT} {tb:TS} (hp:PassesOwn (model X.prog X.w) X.A X.env X.xe) (hc:PT X c tc) (hb:PSs X body tb):PS X (.While c body [] pos) (ziR tc tb):=by
 intro pins s σ H D I h;obtain⟨W,⟨m0,w0⟩,turn⟩:=h;refine wpAny_While (codeAny_whileLoop (λn s'=>∃σ' H',Inv X pins σ' H' s'/\W n σ' H') ?_ m0 ⟨σ,H,I,w0⟩);rintro n s1 ⟨σ1,H1,I1,w1⟩;refine wpAny_passesOwn hp (thn (hc pins s1 σ1 H1 _ I1 (turn n σ1 H1 w1)) ?_);rintro b s2 ⟨H2,I2,q2⟩;cases b with
 |true=>
  obtain⟨N,hN,q2⟩:=q2;rw[if_pos rfl];refine wpAny_passesOwn hp (thn (hb pins s2 σ1 H2 _ I2 q2) λf s3 q3=> ?_);cases f with
  |next=>
   obtain⟨σ3,H3,I3,n3⟩:=q3;obtain⟨m',hm,w3⟩:=hN σ3 H3 n3;exact⟨m',hm,σ3,H3,I3,w3⟩
  |cont=>
   obtain⟨σ3,H3,I3,n3⟩:=q3;obtain⟨m',hm,w3⟩:=hN σ3 H3 n3;exact⟨m',hm,σ3,H3,I3,w3⟩
  |brk=>exact q3
  |ret v=>exact q3
 |false=>
  rw[if_neg rJ];exact wpAny_execs_nil ⟨σ1,H2,I2,q2⟩
end
structure It where
 go:Nat->Hp->Prop
 yld:Nat->Hp->V->Hp->Prop
 stop:Nat->Hp->Prop
def zco (X:Cx) (pins:List (Addr×Obj)) (H:Hp) (b:Addr):Prop:=
 H b=none/\b≠X.env.locals/\b∉X.fs/\(b∈X.ex\/X.s₀.heap.objs.size<=b)/\(∀x c,X.env.cells.lookup x=some c->c≠b)/\∀p∈X.pn++pins,p.1≠b
theorem Inv.fpOk {X:Cx} {pins:List (Addr×Obj)} {σ:St} {H H':Hp} {s:Shared} {b:Addr} (I:Inv X pins σ H s) (hb:s.heap.objs.size<=b) (hn:H' b=none):zco X pins H' b:=by
 refine⟨hn,y7 (rZ I.lt hb),I.nofs hb,.inr (si I.sz hb),λx c e z=> ?_,λp hp z=> ?_⟩
 .obtain⟨v,q⟩:=I.cell x c e;exact absurd (rZ q.lt (by rw[z];exact hb)) (sS _)
 .exact absurd (rZ (Heap.lt_size (I.pin p hp).1) (by rw[z];exact hb)) (sS _)
structure zhV (P:Program) (w:World) (K:r6) (tg:Expr) (J:It) (fp:List Addr) (it:Addr) (tn:Nat->Heap->Prop):Prop where
 mem:it∈fp
 obj:∀i h,tn i h->∀b∈fp,∃o,h.get? b=some o/\∀v,o.data≠ .cell v
 keep:∀i h h',tn i h->(∀b∈fp,∀o,h.get? b=some o->h'.get? b=some o)->tn i h'
 item:∀(X:Cx),X.prog=P->X.w=w->X.K=K->X.calm=true->∀(i:Nat) (pins:List (Addr×Obj)) (s:Shared) (σ:St) (H:Hp) (E:Value->Shared->Prop),Inv X pins σ H s->(∀b∈fp,zco X pins H b)->tn i s.heap->J.go i H->
  wpAny (model P w) X.A (pyNext (.ref it)) (λr s1=>∃u,r=some u/\
   wpAny (model P w) X.A (letOwnedTupleGo tg (.ref it) u) (λ_ s2=>∃x H',Inv X pins σ H' s2/\yr x u/\J.yld i H x H'/\tn (i+1) s2.heap/\∀b∈fp,H' b=none) E s1) E s
 done:∀(X:Cx),X.prog=P->X.w=w->X.K=K->X.calm=true->∀(i:Nat) (pins:List (Addr×Obj)) (s:Shared) (σ:St) (H:Hp) (E:Value->Shared->Prop),Inv X pins σ H s->(∀b∈fp,zco X pins H b)->tn i s.heap->J.stop i H->
  wpAny (model P w) X.A (pyNext (.ref it)) (λr s1=>r=none/\Inv X pins σ H s1) E s
 self:∀(A:Around) (i:Nat) (s:Shared) (Q:Value->Shared->Prop) (E:Value->Shared->Prop),tn i s.heap->Q (.ref it) s->wpAny (model P w) A (pyIter (.ref it)) Q E s
abbrev TI:=St->Hp->(It->Hp->Prop)->Prop
def PIE (X:Cx) (pins:List (Addr×Obj)) (σ:St) (tg:Expr) (R:It->Hp->Prop) (lO:Value) (s2:Shared):Prop:=
 ∃(it:Addr) (fp:List Addr) (tn:Nat->Heap->Prop) (J:It) (H':Hp),lO= .ref it/\Inv X pins σ H' s2/\zhV X.prog X.w X.K tg J fp it tn/\tn 0 s2.heap/\(∀b∈fp,zco X pins H' b)/\R J H'
def PI (X:Cx) (tg iter:Expr) (wi:TI):Prop:=
 ∀(pins:List (Addr×Obj)) (s:Shared) (σ:St) (H:Hp) (R:It->Hp->Prop),Inv X pins σ H s->wi σ H R->
  wpAny (model X.prog X.w) X.A (eval iter X.env) (λv s1=>wpAny (model X.prog X.w) X.A (pyIter v) (PIE X pins σ tg R) X.xe s1) X.xe s
theorem zgR {M:Model} {A:Around} {E:Value->Shared->Prop} {s:Shared} {tg:Expr} {it:Addr} {u:Value} {o:Obj} {n:String} {vs:Array Value} {Q:Unit->Shared->Prop} (ho:s.heap.get? it=some o) (hc:o.cls= .type n) (hd:o.data= .fields vs)
    (hn:["enumerate","zip","dict_itemiterator","dict_reverseitemiterator","odict_iterator","itertools.zip_longest","itertools.pairwise"].contains n=false) (hQ:Q () s):wpAny M A (letOwnedTupleGo tg (.ref it) u) Q E s:=by
  unfold letOwnedTupleGo;cases tg<;>first
    |exact wpAny_pure hQ
    | (cases u <;> first
        |exact wpAny_pure hQ
        | (refine wpAny_bind (wpAny_load ho ?_)
           rw[hc,hd];show wpAny M A (if (["enumerate","zip","dict_itemiterator","dict_reverseitemiterator","odict_iterator","itertools.zip_longest","itertools.pairwise"].contains n&&vs[0]? ==some (rawInt _))=true then _ else _) Q E s;rw[if_neg (by intro h;rw[hn,tu] at h;cases h)]
           exact wpAny_pure hQ))
noncomputable def Itl (K:r6) (a:Addr):It:=
 ⟨λi H=>∃xs x,SqL K H a xs/\xs[i]? =some x,λi H x H'=>H'=H/\∀xs,SqL K H a xs->xs[i]? =some x,λi H=>∃xs,SqL K H a xs/\xs.length<=i⟩
noncomputable def Itt (K:r6) (a:Addr):It:=
 ⟨λi H=>∃xs x,SqT K H a xs/\xs[i]? =some x,λi H x H'=>H'=H/\∀xs,SqT K H a xs->xs[i]? =some x,λi H=>∃xs,SqT K H a xs/\xs.length<=i⟩
noncomputable def Itr (lo:Int) (n:Nat):It:=⟨λi _=>i<n,λi H x H'=>H'=H/\x= .int (lo+i),λi _=>n<=i⟩
theorem zc3 {P:Program} {w:World} {K:r6} {tg:Expr} (a it:Addr):zhV P w K tg (Itl K a) [it] it (λi h=>h.IsListIter it a i) where
 mem:=by simp
 obj:=λi h st b hb=>by
  have e:b=it:=by simpa using hb
  subst e;obtain⟨o,e,c,d⟩:=st;exact⟨o,e,λv z=>by rw[d] at z;cases z⟩
 keep:=λi h h' st k=>st.at λo e=>k it (by simp) o e
 item:=by
  intro X hP hw hK hc i pins s σ H E I hf st hg;subst hP hw hK;obtain⟨xs,x,hq,hx⟩:=hg;obtain⟨af,rv,p,hz⟩:=I.list hq;obtain⟨u,hu,ru⟩:=rv.get hx;obtain⟨f0,f1,f2,f3,f4,f5⟩:=hf it (by simp);refine wpAny_pyNext_list_item st p.isList (x:=u) (by simpa using hu) λh' st' sb=> ?_;have I1:Inv X pins σ H {s with heap:=h'}:=I.turned (t':=s.toks) (λb o hb e=>(sb.2 b hb).trans e) f0 f1 f3 f4 f5;obtain⟨o,e,c,d⟩:=id st';exact⟨u,rfl,zgR (s:={s with heap:=h'}) e c d ∅ ⟨x,H,I1,ru,⟨rfl,λys hy=>by rw[I.list_inj hy hq];exact hx⟩,st',λb hb=>(hf b hb).1⟩⟩
 done:=by
  intro X hP hw hK hc i pins s σ H E I hf st hg;subst hP hw hK;obtain⟨xs,hq,hx⟩:=hg;obtain⟨af,rv,p,hz⟩:=I.list hq;obtain⟨f0,f1,f2,f3,f4,f5⟩:=hf it (by simp);have hl:=rv.length;exact wpAny_pyNext_list_end (I.ok.hd hc) st p.isList (by simp;omega) λh' eb=>⟨rfl,I.turned (t':=s.toks) (λb o hb e=>eb b o hb e) f0 f1 f3 f4 f5⟩
 self:=λ_ _ _ _ _ st h=>wpAny_pyIter_listiter st h
theorem zbp {P:Program} {w:World} {K:r6} {tg:Expr} (a it:Addr):zhV P w K tg (Itt K a) [it] it (λi h=>h.IsTupleIter it a i) where
 mem:=by simp
 obj:=λi h st b hb=>by
  have e:b=it:=by simpa using hb
  subst e;obtain⟨o,e,c,d⟩:=st;exact⟨o,e,λv z=>by rw[d] at z;cases z⟩
 keep:=λi h h' st k=>st.at λo e=>k it (by simp) o e
 item:=by
  intro X hP hw hK hc i pins s σ H E I hf st hg;subst hP hw hK;obtain⟨xs,x,hq,hx⟩:=hg;obtain⟨af,rv,p,hz⟩:=I.tuple hq;obtain⟨u,hu,ru⟩:=rv.get hx;obtain⟨f0,f1,f2,f3,f4,f5⟩:=hf it (by simp);refine wpAny_pyNext_tuple_item st (show s.heap.IsTuple a af.toArray from p) (x:=u) (by simpa using hu) λh' st' sb=> ?_;have I1:Inv X pins σ H {s with heap:=h'}:=I.turned (t':=s.toks) (λb o hb e=>(sb.2 b hb).trans e) f0 f1 f3 f4 f5;obtain⟨o,e,c,d⟩:=id st';exact⟨u,rfl,zgR (s:={s with heap:=h'}) e c d ∅ ⟨x,H,I1,ru,⟨rfl,λys hy=>by rw[I.tuple_inj hy hq];exact hx⟩,st',λb hb=>(hf b hb).1⟩⟩
 done:=by
  intro X hP hw hK hc i pins s σ H E I hf st hg;subst hP hw hK;obtain⟨xs,hq,hx⟩:=hg;obtain⟨af,rv,p,hz⟩:=I.tuple hq;obtain⟨f0,f1,f2,f3,f4,f5⟩:=hf it (by simp);have hl:=rv.length;exact wpAny_pyNext_tuple_end (I.ok.hd hc) st (show s.heap.IsTuple a af.toArray from p) (by simp;omega) λh' eb=>⟨rfl,I.turned (t':=s.toks) (λb o hb e=>eb b o hb e) f0 f1 f3 f4 f5⟩
 self:=λ_ _ _ _ _ st h=>wpAny_pyIter_tupleiter st h
theorem zfP {P:Program} {w:World} {K:r6} {tg:Expr} (it:Addr) (lo:Int) (n:Nat):zhV P w K tg (Itr lo n) [it] it (λi h=>IsRangeIter h it (lo+(i:Nat)*1) ((n:Int)-(i:Nat)) 1) where
 mem:=by simp
 obj:=λi h st b hb=>by
  have e:b=it:=by simpa using hb
  subst e
  exact⟨_,st,λv z=>by
   have z':Data.fields _=Data.cell v:=z
   cases z'⟩
 keep:=λi h h' st k=>k it (by simp) _ st
 item:=by
  intro X hP hw hK hc i pins s σ H E I hf st hg;subst hP hw hK;obtain⟨f0,f1,f2,f3,f4,f5⟩:=hf it (by simp);have W:=Walks.range (prog:=X.prog) (w:=X.w) (I.ok.hd hc) it lo 1 n;refine W.item i s _ _ hg st λv h' tk hv st' kk=> ?_;obtain⟨t,rfl⟩:=hv;have I1:Inv X pins σ H {s with heap:=h',toks:=tk}:=I.turned (λb o hb e=>kk b o (by simpa using hb) e) f0 f1 f3 f4 f5;refine⟨_,rfl,zgR (s:={s with heap:=h',toks:=tk}) (n:="range_iterator") st' rfl rfl ∅ ⟨.int (lo+i),H,I1,⟨t,?_⟩,⟨rfl,rfl⟩,st',λb hb=>(hf b hb).1⟩⟩;rw[AG]
 done:=by
  intro X hP hw hK hc i pins s σ H E I hf st hg;subst hP hw hK;obtain⟨f0,f1,f2,f3,f4,f5⟩:=hf it (by simp);exact wpAny_pyNext_range_end (I.ok.hd hc) st (by have:n<=i:=hg;omega) λh' eb=>⟨rfl,I.turned (t':=s.toks) (λb o hb e=>eb b o hb e) f0 f1 f3 f4 f5⟩
 self:=λ_ _ _ _ _ st h=>wpAny_pyIter_rangeiter st h
section
variable {X:Cx} {tg:Expr}
def ziS (K:r6) (tl:TE):TI:=λσ H R=>tl σ H λx H1=>∃a,x= .ref a/\(∃xs,SqL K H1 a xs)/\R (Itl K a) H1
def zmY (K:r6) (tl:TE):TI:=λσ H R=>tl σ H λx H1=>∃a,x= .ref a/\(∃xs,SqT K H1 a xs)/\R (Itt K a) H1
theorem zkR {l:Expr} {tl:TE} (hl:PE X l tl):PI X tg l (ziS X.K tl):=by
 intro pins s σ H R I h;refine thn (hl pins s σ H _ I h) ?_;rintro v s1 ⟨x,H1,I1,r1,q1⟩;obtain⟨a,e,⟨xs,hq⟩,q⟩:=q1;subst e;cases r1;obtain⟨af,rv,p,hz⟩:=I1.list hq;refine wpAny_pyIter_list p.isList ?_;refine⟨s1.heap.objs.size,[s1.heap.objs.size],_,_,H1,rfl,I1.kept (t':=s1.toks) λb o e=>Heap.get?_push_of_some _ e,zc3 a _,⟨_,Heap.get?_push_size _ rfl,rfl,rfl⟩,λb hb=> ?_,q⟩;have e:b=s1.heap.objs.size:=by simpa using hb
 subst e;exact I1.fpOk (rj _) (I1.hok.fresh (rj _))
theorem zmZ {l:Expr} {tl:TE} (hl:PE X l tl):PI X tg l (zmY X.K tl):=by
 intro pins s σ H R I h;refine thn (hl pins s σ H _ I h) ?_;rintro v s1 ⟨x,H1,I1,r1,q1⟩;obtain⟨a,e,⟨xs,hq⟩,q⟩:=q1;subst e;cases r1;obtain⟨af,rv,p,hz⟩:=I1.tuple hq;refine wpAny_pyIter_tuple (show s1.heap.IsTuple a af.toArray from p) ?_;refine⟨s1.heap.objs.size,[s1.heap.objs.size],_,_,H1,rfl,I1.kept (t':=s1.toks) λb o e=>Heap.get?_push_of_some _ e,zbp a _,⟨_,Heap.get?_push_size _ rfl,rfl,rfl⟩,λb hb=> ?_,q⟩;have e:b=s1.heap.objs.size:=by simpa using hb
 subst e;exact I1.fpOk (rj _) (I1.hok.fresh (rj _))
theorem ziT {pins:List (Addr×Obj)} {σ:St} {H:Hp} {s:Shared} {R:It->Hp->Prop} {E:Value->Shared->Prop} {lo hi:Int} {t u v:Tok} {tk:Nat} (I:Inv X pins σ H s) (h1: -(2^62)<=lo) (h2:lo<2^62) (h3: -(2^62)<=hi) (h4:hi<2^62)
  (q:R (Itr lo (hi-lo).toNat) H):wpAny (model X.prog X.w) X.A (pyIter (.ref s.heap.objs.size)) (PIE X pins σ tg R) E {s with heap:=s.heap.push {cls:= .type "range",data:= .fields #[.int lo t,.int hi u,.int 1 v]},toks:=tk}:=by
 refine wpAny_pyIter_range (IsRange.new ..) (small_one h1 h2 h3 h4) ?_;have I1:Inv X pins σ H {s with heap:=s.heap.push {cls:= .type "range",data:= .fields #[.int lo t,.int hi u,.int 1 v]},toks:=tk}:=I.kept λb o e=>Heap.get?_push_of_some _ e
 refine⟨(s.heap.push {cls:= .type "range",data:= .fields #[.int lo t,.int hi u,.int 1 v]}).objs.size,[(s.heap.push {cls:= .type "range",data:= .fields #[.int lo t,.int hi u,.int 1 v]}).objs.size],_,_,H,rfl,
  I1.kept (t':=tk) λb o e=>Heap.get?_push_of_some _ e,zfP _ lo (hi-lo).toNat,?_,λb hb=> ?_,q⟩
 .have e1:lo+((0:Nat):Int)*1=lo:=by simp
  have e2:(((hi-lo).toNat:Nat):Int)-((0:Nat):Int)=Builtin.Range.rangeSize lo hi 1:=by rw[rangeSize_one];split<;>omega
  show IsRangeIter _ _ (lo+((0:Nat):Int)*1) ((((hi-lo).toNat:Nat):Int)-((0:Nat):Int)) 1;rw[e1,e2];exact Heap.get?_push_size _ rfl
 .have e:b=(s.heap.push {cls:= .type "range",data:= .fields #[.int lo t,.int hi u,.int 1 v]}).objs.size:=by simpa using hb
  subst e;exact I1.fpOk (rj _) (I1.hok.fresh (rj _))
def zmf (ta:TA):TI:=λσ H R=>ta σ H λvs H1=>∃j:Int,vs=[.int j]/\ -(2^62)<=j/\j<2^62/\R (Itr 0 j.toNat) H1
theorem Wk {a:Expr} {ta:TA} {p pos:Pos} (hg:Gl X "range") (hm:X.mg "range"=none) (ha:PA X [a] ta) (hs:starEach [a] X.env=[(false,eval a X.env)]:=by rfl):PI X tg (.Call (.Name "range" p) [a] [] pos) (zmf ta):=by
 intro pins s σ H R I h;refine Call_ (Vw I hg hm boot_range (tN (thn (ha pos pins s σ H _ I h) ?_) hs rfl));rintro us s1 ⟨vs,H1,I1,r1,q1⟩;obtain⟨j,e,q1,q2,q⟩:=q1;subst e;cases r1 with
 |cons r rr=>
  cases rr;obtain⟨t,rfl⟩:=r;exact call_range_1 (ziT I1 ⋯ ⋯ q1 q2 (by simpa using q))
def zoB (wi:TI) (g:TG) (tb:TS):TS:=λD σ H=>wi σ H λJ H1=>∃W:Nat->Nat->St->Hp->Prop,(∃m,W 0 m σ H1)/\∀i m σ H,W i m σ H->
 (J.stop i H/\D.nx σ H)\/(J.go i H/\∃N:St->Hp->Prop,(∀σ' H',N σ' H'->∃m',m'<m/\W (i+1) m' σ' H')/\∀x H',J.yld i H x H'->g x σ H' λσ2 H2=>tb {D with nx:=N,ct:=N,bk:=D.nx} σ2 H2)
noncomputable def zbq (fp:List Addr) (h:Heap):List (Addr×Obj):=fp.filterMap λb=>(h.get? b).map λo=>(b,o)
theorem WB {fp:List Addr} {h:Heap} {b:Addr} {o:Obj} (hb:b∈fp) (e:h.get? b=some o):(b,o)∈zbq fp h:=Aq.mpr ⟨b,hb,by rw[e];rfl⟩
theorem zhW {fp:List Addr} {h:Heap} {p:Addr×Obj} (hp:p∈zbq fp h):p.1∈fp/\h.get? p.1=some p.2:=by
 obtain⟨b,hb,e⟩:=Aq.mp hp;cases q:h.get? b with
 |none=>rw[q] at e;cases e
 |some o=>
  rw[q] at e;have e':(b,o)=p:=su e;subst e';exact⟨hb,q⟩
theorem Inv.pinned {pins:List (Addr×Obj)} {σ:St} {H:Hp} {s:Shared} {fp:List Addr} (I:Inv X pins σ H s) (hf:∀b∈fp,zco X pins H b) (ho:∀b∈fp,∃o,s.heap.get? b=some o/\∀v,o.data≠ .cell v):Inv X (pins++zbq fp s.heap) σ H s:=
 I.pins_of λp hp=>(sA.mp hp).elim (λz=>I.pin p (sC _ z)) λz=>by
  obtain⟨hb,e⟩:=zhW z;obtain⟨f0,f1,f2,_⟩:=hf p.1 hb;obtain⟨o,e',d⟩:=ho p.1 hb;rw[e] at e';cases e';exact⟨e,f0,f1,f2,d⟩
theorem Inv.unpinned {pins pl:List (Addr×Obj)} {σ:St} {H:Hp} {s:Shared} (I:Inv X (pins++pl) σ H s):Inv X pins σ H s:=I.pins_of λp hp=>I.pin p (sC _ (uQ _ hp))
theorem Zr {iter:Expr} {body:List Stmt} {wi:TI} {g:TG} {tb:TS} {pos:Pos} (hp:PassesOwn (model X.prog X.w) X.A X.env X.xe) (hc:X.calm=true) (hi:PI X tg iter wi) (hg:PG X tg g) (hb:PSs X body tb)
  (hs:∀x,foldedSetIterable iter X.env x=pure x:=by intro _;rfl):PS X (.For tg iter body [] pos) (zoB wi g tb):=by
 intro pins s σ H D I h;refine wpAny_For (thn (hi pins s σ H _ I h) λv s1 h1=>thn h1 λlO s2 h2=> ?_) hs;obtain⟨it,fp,tn,J,H2,e,I2,T,cG,f2,W,⟨m0,w0⟩,turn⟩:=h2;subst e;have stat:∀{H':Hp},(∀b∈fp,H' b=none)->∀b∈fp,zco X pins H' b:=λhn b hb=>⟨hn b hb,(f2 b hb).2⟩;refine codeAny_forLoop_any (λn s'=>∃i σ' H',Inv X pins σ' H' s'/\tn i s'.heap/\(∀b∈fp,H' b=none)/\W i n σ' H') ?_ m0 ⟨0,σ,H2,I2,cG,λb hb=>(f2 b hb).1,w0⟩;rintro n s3 ⟨i,σ3,H3,I3,iy,kO,w3⟩;rcases turn i n σ3 H3 w3 with⟨stop,qn⟩|⟨go,N,hN,step⟩
 .refine wpAny_passesOwn hp (thn (T.done X rfl rfl rfl hc i pins s3 σ3 H3 X.xe I3 (stat kO) iy stop) λr s4 ⟨hr,I4⟩=> ?_);subst hr;exact wpAny_execs_nil ⟨σ3,H3,I4,qn⟩
 .refine wpAny_passesOwn hp (thn (T.item X rfl rfl rfl hc i pins s3 σ3 H3 X.xe I3 (stat kO) iy go) λr s4 ⟨u,hr,h4⟩=> ?_);subst hr;refine wpAny_passesOwn hp (thn h4 ?_);rintro _ s5 ⟨x,H5,I5,r5,y5,jb,mU⟩;have I5':=I5.pinned (stat mU) (T.obj _ _ jb);refine wpAny_passesOwn hp (thn (hg _ s5 σ3 H5 x u _ I5' r5 (step x H5 y5)) ?_);rintro _ s6 ⟨σ6,H6,I6,q6⟩;refine wpAny_passesOwn hp (thn (hb _ s6 σ6 H6 _ I6 q6) λf s7 q7=> ?_);have again:∀{σ7:St} {H7:Hp},Inv X (pins++zbq fp s5.heap) σ7 H7 s7->N σ7 H7->∃m,m<n/\∃i σ' H',Inv X pins σ' H' s7/\tn i s7.heap/\(∀b∈fp,H' b=none)/\W i m σ' H':=λ{σ7 H7} I7 n7=>by
   obtain⟨m',hm,w7⟩:=hN σ7 H7 n7;refine⟨m',hm,i+1,σ7,H7,I7.unpinned,T.keep _ _ _ jb λb hb o e=>(I7.pin (b,o) (sC _ (sC _ (WB hb e)))).1,λb hb=> ?_,w7⟩;obtain⟨o,e,d⟩:=T.obj _ _ jb b hb;exact (I7.pin (b,o) (sC _ (sC _ (WB hb e)))).2.1
  cases f with
  |next=>obtain⟨σ7,H7,I7,n7⟩:=q7;exact again I7 n7
  |cont=>obtain⟨σ7,H7,I7,n7⟩:=q7;exact again I7 n7
  |brk=>obtain⟨σ7,H7,I7,q7⟩:=q7;exact⟨σ7,H7,I7.unpinned,q7⟩
  |ret v=>obtain⟨x7,σ7,H7,I7,r7,q7⟩:=q7;exact⟨x7,σ7,H7,I7.unpinned,r7,q7⟩
end
abbrev R2:=V->V->Hp->VK->Prop
def OpR (X:Cx) (f:Value->Value->Sem Value) (r:R2):Prop:=
 ∀(pins:List (Addr×Obj)) (s:Shared) (σ:St) (H:Hp) (x y:V) (v u:Value) (Q:VK),Inv X pins σ H s->yr x v->yr y u->r x y H Q->
  wpAny (model X.prog X.w) X.A (f v u) (EP X pins σ Q) X.xe s
def UnR (X:Cx) (f:Value->Sem Value) (r:V->Hp->VK->Prop):Prop:=
 ∀(pins:List (Addr×Obj)) (s:Shared) (σ:St) (H:Hp) (x:V) (v:Value) (Q:VK),Inv X pins σ H s->yr x v->r x H Q->
  wpAny (model X.prog X.w) X.A (f v) (EP X pins σ Q) X.xe s
def vC (X:Cx) (f:Value) (r:List V->Hp->VK->Prop):Prop:=
 ∀(pins:List (Addr×Obj)) (s:Shared) (σ:St) (H:Hp) (xs:List V) (us:List Value) (Q:VK),Inv X pins σ H s->yf xs us->r xs H Q->
  wpAny (model X.prog X.w) X.A (call f us) (EP X pins σ Q) X.xe s
def tOp (r:R2) (ta tb:TE):TE:=λσ H Q=>ta σ H λx H1=>tb σ H1 λy H2=>r x y H2 Q
def tUn (r:V->Hp->VK->Prop) (ta:TE):TE:=λσ H Q=>ta σ H λx H1=>r x H1 Q
def rI (C:Int->Int->Prop) (g:Int->Int->V):R2:=λx y H Q=>∃i j,x= .int i/\y= .int j/\C i j/\Q (g i j) H
def rI0 (g:Int->Int->V):R2:=λx y H Q=>∃i j,x= .int i/\y= .int j/\Q (g i j) H
def rU (g:Int->V):V->Hp->VK->Prop:=λx H Q=>∃i,x= .int i/\Q (g i) H
section
variable {X:Cx} {a b c:Expr} {ta tb tc:TE} {pos:Pos}
theorem zm0 (ha:PE X a ta) (hb:PE X b tb) {pins:List (Addr×Obj)} {s:Shared} {σ:St} {H:Hp} {R:V->V->Hp->Prop} (I:Inv X pins σ H s)
  (h:ta σ H λx H1=>tb σ H1 λy H2=>R x y H2) {Q:Value->Shared->Prop} {f:Value->Value->Sem Value}
  (hf:∀v u s2 x y H2,Inv X pins σ H2 s2->yr x v->yr y u->R x y H2->wpAny (model X.prog X.w) X.A (f v u) Q X.xe s2):
  wpAny (model X.prog X.w) X.A (eval a X.env) (λv s₁=>wpAny (model X.prog X.w) X.A (eval b X.env) (λu s₂=>wpAny (model X.prog X.w) X.A (f v u) Q X.xe s₂) X.xe s₁) X.xe s:=by
 refine thn (ha pins s σ H _ I h) ?_;rintro v s1 ⟨x,H1,I1,r1,q1⟩;refine thn (hb pins s1 σ H1 _ I1 q1) ?_;rintro u s2 ⟨y,H2,I2,r2,q2⟩;exact hf v u s2 x y H2 I2 r1 r2 q2
theorem zE {op:Operator} {r:R2} (ho:OpR X (binaryOp op) r) (ha:PE X a ta) (hb:PE X b tb):PE X (.BinOp a op b pos) (tOp r ta tb):=by
 intro pins s σ H Q I h;exact wpAny_BinOp (zm0 ha hb I h λv u s2 x y H2 I2 rx ry q=>ho pins s2 σ H2 x y v u Q I2 rx ry q)
theorem ziU {op:UnaryOp} {r:V->Hp->VK->Prop} (ho:UnR X (unaryOp op) r) (ha:PE X a ta):PE X (.UnaryOp op a pos) (tUn r ta):=by
 intro pins s σ H Q I h;refine UnaryOp_ (thn (ha pins s σ H _ I h) ?_);rintro v s1 ⟨x,H1,I1,r1,q1⟩;exact ho pins s1 σ H1 x v Q I1 r1 q1
theorem opI {f:Value->Value->Sem Value} {C:Int->Int->Prop} {g:Int->Int->Int}
  (rule:∀(i j:Int) (t u:Tok) (s:Shared) (Q:Value->Shared->Prop) (E:Value->Shared->Prop),C i j->Q (.int (g i j) s.toks) {s with toks:=s.toks+1}->wpAny (model X.prog X.w) X.A (f (.int i t) (.int j u)) Q E s):
  OpR X f (rI C λi j=> .int (g i j)):=by
 intro pins s σ H x y v u Q I rx ry h;obtain⟨i,j,rfl,rfl,hc,q⟩:=h;obtain⟨t,rfl⟩:=rx;obtain⟨t',rfl⟩:=ry;exact rule i j t t' s _ _ hc ⟨.int (g i j),H,I.tok _,⟨_,rfl⟩,q⟩
theorem zoC {f:Value->Value->Sem Value} {g:Int->Int->Int}
  (rule:∀(i j:Int) (t u:Tok) (s:Shared) (Q:Value->Shared->Prop) (E:Value->Shared->Prop),Q (.int (g i j) s.toks) {s with toks:=s.toks+1}->wpAny (model X.prog X.w) X.A (f (.int i t) (.int j u)) Q E s):
  OpR X f (rI0 λi j=> .int (g i j)):=by
 intro pins s σ H x y v u Q I rx ry h;obtain⟨i,j,rfl,rfl,q⟩:=h;obtain⟨t,rfl⟩:=rx;obtain⟨t',rfl⟩:=ry;exact rule i j t t' s _ _ ⟨.int (g i j),H,I.tok _,⟨_,rfl⟩,q⟩
theorem zpO {f:Value->Value->Sem Value} {g:Int->Int->Bool}
  (rule:∀(i j:Int) (t u:Tok) (s:Shared) (Q:Value->Shared->Prop) (E:Value->Shared->Prop),Q (.bool (g i j)) s->wpAny (model X.prog X.w) X.A (f (.int i t) (.int j u)) Q E s):
  OpR X f (rI0 λi j=> .bl (g i j)):=by
 intro pins s σ H x y v u Q I rx ry h;obtain⟨i,j,rfl,rfl,q⟩:=h;obtain⟨t,rfl⟩:=rx;obtain⟨t',rfl⟩:=ry;exact rule i j t t' s _ _ ⟨.bl (g i j),H,I,rfl,q⟩
def zm1 (i j:Int):Prop:=0<=j/\j<=1000000/\i.natAbs<2^64
def ziV (i j:Int):Prop:=(-(2^64)<i/\i<2^64)\/(-(2^64)<j/\j<2^64)
theorem ziV.ok {i j:Int} (h:ziV i j):IntMulOk i j:=by
 rcases h with⟨h1,h2⟩|⟨h1,h2⟩
 .exact .of_left (intBits_le_64 h1 h2)
 .exact .of_right (intBits_le_64 h1 h2)
theorem yu:OpR X (binaryOp .Add) (rI0 λi j=> .int (i+j)):=zoC λ_ _ _ _ _ _ _ q=>add_int q
theorem zan:OpR X (binaryOp .Sub) (rI0 λi j=> .int (i-j)):=zoC λ_ _ _ _ _ _ _ q=>sub_int q
theorem zm2:OpR X (binaryOp .Mult) (rI ziV λi j=> .int (i*j)):=opI λ_ _ _ _ _ _ _ hc q=>mul_int q hc.ok
theorem WC:OpR X (binaryOp .Mod) (rI (λ_ j=>0<j) λi j=> .int (i % j)):=opI λi j _ _ _ _ _ hc q=>by
 have h1:(0:Int)<j:=hc;exact mod_int' ⋯ (by rw[Int.fmod_eq_emod_of_nonneg i ⋯];exact q)
theorem zfQ:OpR X (binaryOp .Pow) (rI zm1 λi j=> .int (i^j.toNat)):=opI λ_ _ _ _ _ _ _ hc q=>pow_int_small hc.1 hc.2.1 hc.2.2 q
theorem unI {f:Value->Sem Value} {g:Int->Int}
  (rule:∀(i:Int) (t:Tok) (s:Shared) (Q:Value->Shared->Prop) (E:Value->Shared->Prop),Q (.int (g i) s.toks) {s with toks:=s.toks+1}->wpAny (model X.prog X.w) X.A (f (.int i t)) Q E s):
  UnR X f (rU λi=> .int (g i)):=by
 intro pins s σ H x v Q I rx h;obtain⟨i,rfl,q⟩:=h;obtain⟨t,rfl⟩:=rx;exact rule i t s _ _ ⟨.int (g i),H,I.tok _,⟨_,rfl⟩,q⟩
theorem zfR:UnR X (unaryOp .USub) (rU λi=> .int (-i)):=unI λ_ _ _ _ _ q=>neg_int q
end
noncomputable def zoD:V->V->Bool
 | .non,.non=>true| .non,.int _=>true| .int _,.non=>true| .non,.bl _=>true| .bl _,.non=>true| .non,.str _=>true| .str _,.non=>true
 | .int _,.int _=>true| .bl _,.bl _=>true| .str _,.str _=>true| .byt _,.byt _=>true
 | .int _,.str _=>true| .str _,.int _=>true| .bl _,.str _=>true| .str _,.bl _=>true
 |_,_=>false
def rEq:R2:=λx y H Q=>zoD x y=true/\Q (.bl (decide (x=y))) H
def rNe:R2:=λx y H Q=>zoD x y=true/\Q (.bl (!decide (x=y))) H
theorem zgS {i j:Int}:decide (V.int i=V.int j)=(i==j):=by
 rw[u5];simp
theorem ziW {i j:Bool}:decide (V.bl i=V.bl j)=(i==j):=by
 rw[u5];simp
theorem zgT {i j:Str}:decide (V.str i=V.str j)=(i==j):=by
 rw[u5];simp
theorem zgU {i j:Array UInt8}:decide (V.byt i=V.byt j)=(i.toList==j.toList):=by
 rw[u5];cases i;cases j;simp
section
variable {X:Cx} {a b c:Expr} {ta tb tc:TE} {pos:Pos}
theorem yE {pins:List (Addr×Obj)} {σ:St} {H:Hp} {s:Shared} {Q:VK} {k k':Bool} (I:Inv X pins σ H s) (q:Q (.bl k) H) (e:k=k'):EP X pins σ Q (.bool k') s:=by
 subst e;exact⟨.bl k,H,I,rfl,q⟩
theorem yG:OpR X (compareOp .Eq) rEq:=by
 intro pins s σ H x y v u Q I rx ry h;obtain⟨hs,q⟩:=h;cases x with
 |non=>
  cases rx;cases y with
  |non=>cases ry;exact PySem.EqNone.eq_none_none (yE I q (by simp))
  |bl j=>cases ry;exact PySem.EqNone.eq_none_bool (yE I q (by simp))
  |int j=>obtain⟨t',rfl⟩:=ry;exact PySem.EqNone.eq_none_int (yE I q (by simp))
  |str j=>obtain⟨t',rfl⟩:=ry;exact PySem.EqNone.eq_none_str (yE I q (by simp))
  |_=>exact absurd (show false=true from hs) rJ
 |bl i=>
  cases rx;cases y with
  |non=>cases ry;exact PySem.EqNone.eq_bool_none (yE I q (by simp))
  |bl j=>cases ry;exact eq_bool (yE I q ziW)
  |str j=>obtain⟨t',rfl⟩:=ry;exact Bf (yE I q (by simp))
  |_=>exact absurd (show false=true from hs) rJ
 |int i=>
  obtain⟨t,rfl⟩:=rx;cases y with
  |non=>cases ry;exact PySem.EqNone.eq_int_none (yE I q (by simp))
  |int j=>obtain⟨t',rfl⟩:=ry;exact eq_int (yE I q zgS)
  |str j=>obtain⟨t',rfl⟩:=ry;exact Bk (yE I q (by simp))
  |_=>exact absurd (show false=true from hs) rJ
 |str i=>
  obtain⟨t,rfl⟩:=rx;cases y with
  |non=>cases ry;exact PySem.EqNone.eq_str_none (yE I q (by simp))
  |bl j=>cases ry;exact Bg (yE I q (by simp))
  |int j=>obtain⟨t',rfl⟩:=ry;exact Bl (yE I q (by simp))
  |str j=>obtain⟨t',rfl⟩:=ry;exact eq_str (yE I q zgT)
  |_=>exact absurd (show false=true from hs) rJ
 |byt i=>
  obtain⟨t,rfl⟩:=rx;cases y with
  |byt j=>obtain⟨t',rfl⟩:=ry;exact PySem.W.eq_bytes (yE I q zgU)
  |_=>exact absurd (show false=true from hs) rJ
 |_=>cases y<;>exact absurd (show false=true from hs) rJ
theorem ziX:OpR X (compareOp .NotEq) rNe:=by
 intro pins s σ H x y v u Q I rx ry h;obtain⟨hs,q⟩:=h;cases x with
 |non=>
  cases rx;cases y with
  |non=>cases ry;exact PySem.EqNone.ne_none_none (yE I q (by simp))
  |bl j=>cases ry;exact PySem.EqNone.ne_none_bool (yE I q (by simp))
  |int j=>obtain⟨t',rfl⟩:=ry;exact PySem.EqNone.ne_none_int (yE I q (by simp))
  |str j=>obtain⟨t',rfl⟩:=ry;exact PySem.EqNone.ne_none_str (yE I q (by simp))
  |_=>exact absurd (show false=true from hs) rJ
 |bl i=>
  cases rx;cases y with
  |non=>cases ry;exact PySem.EqNone.ne_bool_none (yE I q (by simp))
  |bl j=>cases ry;exact ne_bool (yE I q (congrArg not ziW))
  |str j=>obtain⟨t',rfl⟩:=ry;exact Bh (yE I q (by simp))
  |_=>exact absurd (show false=true from hs) rJ
 |int i=>
  obtain⟨t,rfl⟩:=rx;cases y with
  |non=>cases ry;exact PySem.EqNone.ne_int_none (yE I q (by simp))
  |int j=>obtain⟨t',rfl⟩:=ry;exact ne_int (yE I q (congrArg not zgS))
  |str j=>obtain⟨t',rfl⟩:=ry;exact Bm (yE I q (by simp))
  |_=>exact absurd (show false=true from hs) rJ
 |str i=>
  obtain⟨t,rfl⟩:=rx;cases y with
  |non=>cases ry;exact PySem.EqNone.ne_str_none (yE I q (by simp))
  |bl j=>cases ry;exact Bi (yE I q (by simp))
  |int j=>obtain⟨t',rfl⟩:=ry;exact Bn (yE I q (by simp))
  |str j=>obtain⟨t',rfl⟩:=ry;exact ne_str (yE I q (congrArg not zgT))
  |_=>exact absurd (show false=true from hs) rJ
 |byt i=>
  obtain⟨t,rfl⟩:=rx;cases y with
  |byt j=>obtain⟨t',rfl⟩:=ry;exact PySem.W.ne_bytes (yE I q (congrArg not zgU))
  |_=>exact absurd (show false=true from hs) rJ
 |_=>cases y<;>exact absurd (show false=true from hs) rJ
theorem zaR:OpR X (compareOp .LtE) (rI0 λi j=> .bl (decide (i<=j))):=zpO λ_ _ _ _ _ _ _ q=>le_int q
theorem zhX:OpR X (compareOp .In) (λx y H Q=>∃i j,x= .str i/\y= .str j/\Q (.bl (!(Builtin.Str.occurrences j i 0 j.length 1).isEmpty)) H):=by
 intro pins s σ H x y v u Q I rx ry h;obtain⟨i,j,rfl,rfl,q⟩:=h;obtain⟨t,rfl⟩:=rx;obtain⟨t',rfl⟩:=ry;exact in_str (yE I q rfl)
theorem Td {op:CmpOp} {r:R2} (ho:OpR X (compareOp op) r) (ha:PE X a ta) (hb:PE X b tb) (hm:behindInMarks op b=false):PE X (.Compare a [op] [b] pos) (tOp r ta tb):=by
 intro pins s σ H Q I h;exact wpAny_Compare1 (zm0 ha hb I h λv u s2 x y H2 I2 rx ry q=>ho pins s2 σ H2 x y v u Q I2 rx ry q) hm
def ziY (t:TE):TT:=λσ H Q=>t σ H λx H'=>∃k,x= .bl k/\Q k H'
theorem zJ {op:CmpOp} {r:R2} (ho:OpR X (compareOp op) r) (ha:PE X a ta) (hb:PE X b tb) (hm:behindInMarks op b=false):PT X (.Compare a [op] [b] pos) (ziY (tOp r ta tb)):=by
 intro pins s σ H Q I h
 refine wpAny_isTrue_Compare1 (thn (ha pins s σ H _ I h) λv s1 ⟨x,H1,I1,r1,q1⟩=>thn (hb pins s1 σ H1 _ I1 q1) λu s2 ⟨y,H2,I2,r2,q2⟩=>
  thn (ho pins s2 σ H2 x y v u _ I2 r1 r2 q2) λc s3 ⟨z,H3,I3,r3,k,e,q3⟩=> ?_) hm
 subst e;cases r3;exact wpAny_truthy_bool ⟨H3,I3,q3⟩
def zfS (r r':R2) (ta tb tc:TE):TE:=λσ H Q=>ta σ H λx H1=>tb σ H1 λy H2=>r x y H2 λz H3=>∃k,z= .bl k/\
 (if k=true then tc σ H3 λw' H4=>r' y w' H4 Q else Q (.bl false) H3)
theorem zey {op op':CmpOp} {r r':R2} (ho:OpR X (compareOp op) r) (gE:OpR X (compareOp op') r') (ha:PE X a ta) (hb:PE X b tb) (hc:PE X c tc)
  (hm:lastMarks [op,op'] [b,c]=false:=by with_unfolding_all rfl):PE X (.Compare a [op,op'] [b,c] pos) (zfS r r' ta tb tc):=by
 intro pins s σ H Q I h
 refine Compare_chain (thn (ha pins s σ H _ I h) λv s1 ⟨x,H1,I1,r1,q1⟩=>chain_link (thn (hb pins s1 σ H1 _ I1 q1) λu s2 ⟨y,H2,I2,r2,q2⟩=>
  thn (ho pins s2 σ H2 x y v u _ I2 r1 r2 q2) λd s3 ⟨z,H3,I3,r3,k,e,q3⟩=> ?_)) hm
 subst e;cases r3;refine wpAny_truthy_bool ?_;cases k with
 |false=>exact ite_ff ⟨.bl false,H3,I3,rfl,q3⟩
 |true=>exact ite_tt (chain_last (thn (hc pins s3 σ H3 _ I3 q3) λw' s4 ⟨z',H4,I4,r4,q4⟩=>gE pins s4 σ H4 y z' u w' Q I4 r2 r4 q4))
theorem zez {op op':CmpOp} {r r':R2} (ho:OpR X (compareOp op) r) (gE:OpR X (compareOp op') r') (ha:PE X a ta) (hb:PE X b tb) (hc:PE X c tc)
  (hm:lastMarks [op,op'] [b,c]=false:=by with_unfolding_all rfl):PT X (.Compare a [op,op'] [b,c] pos) (ziY (zfS r r' ta tb tc)):=by
 intro pins s σ H Q I h
 refine isTrue_chain (thn (ha pins s σ H _ I h) λv s1 ⟨x,H1,I1,r1,q1⟩=>test_link (thn (hb pins s1 σ H1 _ I1 q1) λu s2 ⟨y,H2,I2,r2,q2⟩=>
  thn (ho pins s2 σ H2 x y v u _ I2 r1 r2 q2) λd s3 ⟨z,H3,I3,r3,k,e,q3⟩=> ?_)) hm
 subst e;cases r3;refine wpAny_truthy_bool ?_;cases k with
 |false=>
  obtain⟨k',e',q'⟩:=q3;cases e';exact ite_ff ⟨H3,I3,q'⟩
 |true=>
  refine ite_tt (test_last (thn (hc pins s3 σ H3 _ I3 q3) ?_));rintro w' s4 ⟨z',H4,I4,r4,q4⟩;refine thn (gE pins s4 σ H4 y z' u w' _ I4 r2 r4 q4) ?_;rintro d' s5 ⟨z2,H5,I5,r5,k2,e2,q5⟩;subst e2;cases r5;exact wpAny_truthy_bool ⟨H5,I5,q5⟩
theorem zao:(sizeLine:Nat)<2^63:=by rw[sizeLine_eq];decide
theorem yQ:OpR X (binaryOp .Add) (λx y H Q=>∃i j,x= .str i/\y= .str j/\i.length+j.length<=sizeLine/\Q (.str (i++j)) H):=by
 intro pins s σ H x y v u Q I rx ry h;obtain⟨i,j,rfl,rfl,hz,q⟩:=h;obtain⟨t,rfl⟩:=rx;obtain⟨t',rfl⟩:=ry;exact add_str (λt' tk=>⟨.str (i++j),H,I.tok _,⟨_,rfl⟩,q⟩) hz
theorem Xr {x:V} {us:List Value} (r:yf [x] us):∃u,us=[u]/\yr x u:=by
 cases r with
 |cons r1 r2=>cases r2;exact⟨_,rfl,r1⟩
theorem zgV {x y:V} {us:List Value} (r:yf [x,y] us):∃u w',us=[u,w']/\yr x u/\yr y w':=by
 cases r with
 |cons r1 r2=>
  cases r2 with
  |cons r3 r4=>cases r4;exact⟨_,_,rfl,r1,r3⟩
theorem zc4 (hc:X.calm=true):vC X (.builtin "max") (λxs H Q=>∃i j,xs=[.int i,.int j]/\Q (.int (if j>i then j else i)) H):=by
 intro pins s σ H xs us Q I r h;obtain⟨i,j,rfl,q⟩:=h;obtain⟨u,w',rfl,⟨t,rfl⟩,⟨t',rfl⟩⟩:=zgV r;refine max_two_ints (I.ok.hd hc) λh' tk k=>⟨_,H,I.kept k,?_,q⟩;by_cases hj:j>i
 .rw[if_pos hj,if_pos hj];exact⟨_,rfl⟩
 .rw[if_neg hj,if_neg hj];exact⟨_,rfl⟩
theorem zhY (hc:X.calm=true):vC X (.builtin "min") (λxs H Q=>∃i j,xs=[.int i,.int j]/\Q (.int (if j<i then j else i)) H):=by
 intro pins s σ H xs us Q I r h;obtain⟨i,j,rfl,q⟩:=h;obtain⟨u,w',rfl,⟨t,rfl⟩,⟨t',rfl⟩⟩:=zgV r;refine min_two_ints (I.ok.hd hc) λh' tk k=>⟨_,H,I.kept k,?_,q⟩;by_cases hj:j<i
 .rw[if_pos hj,if_pos hj];exact⟨_,rfl⟩
 .rw[if_neg hj,if_neg hj];exact⟨_,rfl⟩
end
structure zfT (h:Heap) (x dx C:Addr) (mA:Str->Option Value):Prop where
 obj:h.get? x=some (tE C dx)
 ns:h.Ns1 dx mA
 ne:dx≠x
theorem zhZ {h:Heap} {dx:Addr} {mA:Str->Option Value} (n:h.Ns1 dx mA):∃od,h.get? dx=some od/\∀name,uY name od=some (mA name):=by
 obtain⟨o,es,ep,ho,hd,hk,_,hm⟩:=n;refine⟨o,ho,λname=> ?_⟩;have e:=hm name;unfold nsFind findBy at e;rw[<-Array.find?_toList] at e;unfold uY;rw[hd];dsimp only;split
 .rename_i y q;rw[q] at e;exact congrArg some e
 .rename_i q;rw[q] at e;have a:es.toList.any (·.refKey)=false:=by
   rw[List.any_eq_false];intro y hy;obtain⟨z,t,mE⟩:=hk y (Array.mem_toList_iff.mp hy);simp[DictEntry.refKey,mE]
  have a':¬es.toList.any (·.refKey)=true:=by rw[a];exact rJ
  rw[if_neg a'];exact congrArg some e
theorem zfT.look {h:Heap} {x dx C:Addr} {mA:Str->Option Value} (I:zfT h x dx C mA):∃od,uZ h x (tE C dx) C (some od)/\∀name,uY name od=some (mA name):=
 let ⟨od,ho,hl⟩:=zhZ I.ns
 ⟨od,⟨I.obj,rfl,rfl,ho⟩,hl⟩
section
variable {prog:Program} {w:World} {A:Around} {E:Value->Shared->Prop} {s:Shared} {K:r6} {x dx C f:Addr} {mA:Str->Option Value} {name:Str} {v:Value}
theorem zkS {expr:Bool} {Q:Value->Shared->Prop} (X:K.In s.heap) (I:zfT s.heap x dx C mA) (hg:ui K C name=true) (hh:uG K C=true)
  (ha:rK K (.ref C) name=some none) (hv:mA name=some v) (oV:AI v=true) (h:Q v {s with toks:=s.toks+1}):
  wpAny (model prog w) A (getAttr (.ref x) name expr) Q E s:=by
 obtain⟨od,J,hl⟩:=I.look;exact PySem.W.get_value X J (uW hg).1 (PySem.W.findObj_own hh ha rfl (by rw[hl,hv])) oV h
theorem ziZ {pl:Sem Bool} {Q:Value×List Value->Shared->Prop} (X:K.In s.heap) (I:zfT s.heap x dx C mA) (hg:ui K C name=true)
  (hf:rK K (.ref C) name=some (some (.ref f))) (ht:uR K (.ref f)=true) (hv:mA name=none) (h:Q (.ref f,[.ref x]) s):
  wpAny (model prog w) A (getMethod (.ref x) name pl) Q E s:=by
 obtain⟨od,J,hl⟩:=I.look;exact PySem.W.method_fn X J (uW hg).1 (uW hg).2 hf (beq_iff_eq.mp ht) (by show (uY name od).map (·.isSome)=some false;rw[hl,hv];rfl) h
theorem zkT {ns:List Str} {Q:Unit->Shared->Prop} (X:K.In s.heap) (I:zfT s.heap x dx C mA)
  (hs:rK K (.ref C) "__setattr__"=some (some (.builtin "object.__setattr__"))) (hp:y0 K C=true) (ht:z6 K C name=some none) (hh:uG K C=true)
  (hw:Ap mA ns) (g7:ns.length<=sizeLine)
  (h:∀h',zfT h' x dx C (λy=>if y=name then some v else mA y)->Heap.SameBut dx s.heap h'->Q () {s with heap:=h',toks:=s.toks+2}):
  wpAny (model prog w) A (setAttr (.ref x) name v) Q E s:=by
 obtain⟨od,J,hl⟩:=I.look;refine PySem.W.set_plain X J hs (PySem.W.osa_open (s:={s with toks:=s.toks+1}) (r:=none) X J hp ht λb=> ?_);obtain⟨cd,hc,mL⟩:=PySem.W.any_some hh;have hx:s.heap.get? x=some ⟨.ref C,some dx,.plain,#[]⟩:=I.obj;refine wpAny_bind (wpAny_pure (wpAny_bind (wpAny_bind (wpAny_loadPart hx (wpAny_bind (Bt (s:={s with toks:=s.toks+1}) (PySem.W.looks_clsIn X hc) ?_))))));rw[mL];refine wpAny_pure (a:=some dx) (wpAny_bind (wpAny_pure (wpAny_bind ?_)));refine wpAny_nsSet1 (s:={s with toks:=s.toks+1}) I.ns λh' gf fB=> ?_;obtain⟨oD,qW,qX,pz,qc,qe⟩:=gf.count (PySem.Within.cons name v hw);refine wpAny_bind (wpAny_lookBehind pz (by rw[qc];exact pastItsLine_dict (si qe (by rw[rl];omega))) ?_);exact wpAny_pure (h _ ⟨(fB.2 _ (tf I.ne)).trans I.obj,gf,I.ne⟩ fB)
theorem zi0 {R:Result->Shared->Prop} {vs:List Value} {kw:List (Str×Value)} (X:K.In s.heap) (hm:z7 K C=true)
  (hi:rK K (.ref C) "__init__"=some (some (.ref f))) (hf:tW K (.ref f)=some (.type "function"))
  (h:codeAny (model prog w) (A.under (.builtin "type.__call__" ⟨.ref C::vs,kw⟩)) (.call (.ref f) ⟨.ref (s.heap.objs.size+1)::vs,kw⟩) (PySem.W.InitBack (s.heap.objs.size+1) R)
   {s with heap:=(s.heap.push t5).push (tE C s.heap.objs.size)}):
  codeAny (model prog w) A (.call (.ref C) ⟨vs,kw⟩) R s:=by
 obtain⟨hh,g,d,t,os⟩:=s;exact PySem.W.make_core (PySem.W.makes_of X hm) (uS X hi) (λself=>PySem.W.bind_fn X self hf) (.inl rfl) h
end
noncomputable def XL (f:Str) (v:V):List (Str×V)->List (Str×V)
 |[]=>[(f,v)]
 |(g,x)::r=>if g=f then (g,v)::r else (g,x)::XL f v r
theorem zaS (f g:Str) (v:V):∀fs:List (Str×V),(XL f v fs).lookup g=if g=f then some v else fs.lookup g
 |[]=>by
  show tL g [(f,v)]=_;by_cases h:g=f
  .have hb:(g==f)=true:=beq_iff_eq.mpr h;simp only[tL,hb,if_pos h]
  .have hb:(g==f)=false:=beq_eq_false_iff_ne.mpr h;simp only[tL,hb,if_neg h]
 |(k,x)::r=>by
  have ih:=zaS f g v r;rw[show XL f v ((k,x)::r)=(if k=f then (k,v)::r else (k,x)::XL f v r) from rfl];by_cases hk:k=f
  .rw[if_pos hk];by_cases h:g=k
   .have hb:(g==k)=true:=beq_iff_eq.mpr h;simp only[tL,hb,if_pos (h.trans hk)]
   .have hb:(g==k)=false:=beq_eq_false_iff_ne.mpr h;simp only[tL,hb,if_neg (λe:g=f=>h (e.trans hk.symm))]
  .rw[if_neg hk];by_cases h:g=k
   .have hb:(g==k)=true:=beq_iff_eq.mpr h;simp only[tL,hb,if_neg (λe:g=f=>hk (h.symm.trans e))]
   .have hb:(g==k)=false:=beq_eq_false_iff_ne.mpr h;simp only[tL,hb];exact ih
theorem zap (f:Str) (v:V):∀fs:List (Str×V),f∈(XL f v fs).map (·.1)/\∀g,g∈fs.map (·.1)->g∈(XL f v fs).map (·.1)
 |[]=>⟨by simp[XL],λg h=>by simp at h⟩
 |(k,x)::r=>by
  obtain⟨i1,i2⟩:=zap f v r;rw[show XL f v ((k,x)::r)=(if k=f then (k,v)::r else (k,x)::XL f v r) from rfl];by_cases hk:k=f
  .rw[if_pos hk];subst hk;exact⟨by simp,λg h=>by simpa using h⟩
  .rw[if_neg hk];refine⟨?_,λg h=> ?_⟩
   .rw[sj];exact rF _ i1
   .rw[sj] at h ⊢;rcases rX.mp h with e|e
    .exact rX.mpr (.inl e)
    .exact rF _ (i2 g e)
theorem zaT (f:Str) (v:V):∀fs:List (Str×V),(XL f v fs).length<=fs.length+1
 |[]=>by simp[XL]
 |(k,x)::r=>by
  have ih:=zaT f v r;rw[show XL f v ((k,x)::r)=(if k=f then (k,v)::r else (k,x)::XL f v r) from rfl];by_cases hk:k=f
  .rw[if_pos hk,rl,rl];omega
  .rw[if_neg hk,rl,rl];omega
theorem Ur.some_of {v:V} {o:Option Value} (r:Ur (some v) o):∃u,o=some u/\yr v u:=by
 cases o with
 |none=>exact (show False from r).elim
 |some u=>exact⟨u,rfl,r⟩
theorem Ur.none_of {o:Option Value} (r:Ur none o):o=none:=by
 cases o with
 |none=>rfl
 |some u=>exact (show False from r).elim
theorem zh0 {v:V} {u:Value} (r:yr v u):AI u=true:=by
 cases v with
 |non=>cases (show u=Value.none from r);rfl
 |bl b=>cases (show u=Value.bool b from r);rfl
 |int i=>obtain⟨t,e⟩:=(show ∃t,u=Value.int i t from r);cases e;rfl
 |str x=>obtain⟨t,e⟩:=(show ∃t,u=Value.str x t from r);cases e;rfl
 |byt b=>obtain⟨t,e⟩:=(show ∃t,u=Value.bytes b t from r);cases e;rfl
 |flt b=>obtain⟨t,e⟩:=(show ∃t,u=Value.float b t from r);cases e;rfl
 |ref a=>cases (show u=Value.ref a from r);rfl
 |ty n=>cases (show u=Value.type n from r);rfl
section
variable {P:Program} {w:World} {H H':Hp} {h h':Heap} {a C dx:Addr} {fs fs':List (Str×V)}
theorem zbb (hok:HOk P w H h) (e:H a=some (.ins C dx fs)):∃mA,zfT h a dx C mA/\(∀f,Ur (fs.lookup f) (mA f))/\Ap mA (fs.map (·.1))/\fs.length<=1000/\H dx=some (.own a):=by
 obtain⟨d,z,ne,ob,mA,n,r,q⟩:=(show xB P w H h a (.ins C dx fs) from hok a _ e);exact⟨mA,⟨ob,n,ne⟩,r,q,z,d⟩
end
structure Cls (K:r6) (C:Addr):Prop where
 pg:ui K C Str.empty=true
 hd:uG K C=true
 po:y0 K C=true
 sa:rK K (.ref C) "__setattr__"=some (some (.builtin "object.__setattr__"))
theorem Cls.get {K:r6} {C:Addr} (c:Cls K C) (f:Str):ui K C f=true:=c.pg
def Ys (K:r6) (C:Addr) (f:Str):Prop:=rK K (.ref C) f=some none
theorem Ys.taker {K:r6} {C:Addr} {f:Str} (n:Ys K C f):z6 K C f=some none:=by
 unfold z6;rw[show rK K (.ref C) f=some none from n];rfl
structure Con (K:r6) (C:Addr) (f:Str) (v:V) (u:Value):Prop where
 at_:rK K (.ref C) f=some (some u)
 rel:yr v u
 get:uH K u "__get__"=some none
 cp:PySem.W.copiedNames.contains f=false
structure zkU (K:r6) (C:Addr) (m:Str) (f:Addr):Prop where
 at_:rK K (.ref C) m=some (some (.ref f))
 fn:uR K (.ref f)=true
 kp:tK K (.ref f)=true
section
variable {X:Cx} {pins:List (Addr×Obj)} {σ:St} {H:Hp} {s:Shared} {a C dx:Addr} {fs:List (Str×V)} {f:Str} {v:V} {A:Around} {E:Value->Shared->Prop}
theorem zbr {b:Bool} {Q:Value->Shared->Prop} (I:Inv X pins σ H s) (e:H a=some (.ins C dx fs)) (c:Cls X.K C) (n:Ys X.K C f) (l:fs.lookup f=some v)
  (h:∀u s',Inv X pins σ H s'->yr v u->Q u s'):wpAny (model X.prog X.w) A (getAttr (.ref a) f b) Q E s:=by
 obtain⟨mA,O,r,_,_,_⟩:=zbb I.hok e;obtain⟨u,hu,ru⟩:=Ur.some_of (v:=v) (o:=mA f) (by rw[<-l];exact r f);exact zkS I.kIn O (c.get f) c.hd n hu (zh0 ru) (h u _ (I.tok _) ru)
theorem zbs {m:Str} {g:Addr} {pl:Sem Bool} {Q:Value×List Value->Shared->Prop} (I:Inv X pins σ H s) (e:H a=some (.ins C dx fs)) (c:Cls X.K C) (k:zkU X.K C m g) (l:fs.lookup m=none)
  (h:Q (.ref g,[.ref a]) s):wpAny (model X.prog X.w) A (getMethod (.ref a) m pl) Q E s:=by
 obtain⟨mA,O,r,_,_,_⟩:=zbb I.hok e;have hn:mA m=none:=Ur.none_of (by rw[<-l];exact r m);exact ziZ I.kIn O (c.get m) k.at_ k.fn hn h
theorem zbt {y:V} {u:Value} {Q:Unit->Shared->Prop} (I:Inv X pins σ H s) (e:H a=some (.ins C dx fs)) (c:Cls X.K C) (n:Ys X.K C f) (hl:fs.length<1000) (ry:yr y u)
  (h:∀s',Inv X pins σ (upd H a (.ins C dx (XL f y fs))) s'->Q () s'):wpAny (model X.prog X.w) A (setAttr (.ref a) f u) Q E s:=by
 obtain⟨mA,O,r,wi,_,ho⟩:=zbb I.hok e;have hz:(fs.map (·.1)).length<=sizeLine:=by rw[rh,sizeLine_eq];omega
 refine zkT I.kIn O c.sa c.po n.taker c.hd wi hz λh' O' sb=>h _ ?_;have hd:∃o,h'.get? dx=some o:=let ⟨o,_,_,e',_⟩:=O'.ns;⟨o,e'⟩;refine I.write (x:=a) (e:=dx) (by rw[e];exact u6) (.inr ho) (λb q hb z=>(sb.2 b hb).trans z) hd ?_;refine⟨by rw[yz O.ne];exact ho,?_,O.ne,O'.obj,_,O'.ns,λg=> ?_,λg hg=> ?_⟩
 .have:=zaT f y fs;omega
 .show Ur ((XL f y fs).lookup g) (if g=f then some u else mA g);rw[zaS];by_cases q:g=f
  .rw[if_pos q,if_pos q];exact ry
  .rw[if_neg q,if_neg q];exact r g
 .by_cases q:g=f
  .rw[q];exact (zap f y fs).1
  .refine (zap f y fs).2 g (wi g λz=>hg ?_);show (if g=f then some u else mA g)=none;rw[if_neg q];exact z
theorem Inv.made (I:Inv X pins σ H s):Inv X pins σ (upd (upd H s.heap.objs.size (.own (s.heap.objs.size+1))) (s.heap.objs.size+1) (.ins C s.heap.objs.size []))
  {s with heap:=(s.heap.push t5).push (tE C s.heap.objs.size)}:=by
 have e1:(s.heap.push t5).get? s.heap.objs.size=some t5:=Heap.get?_push_size s.heap rfl;have e2:((s.heap.push t5).push (tE C s.heap.objs.size)).get? (s.heap.objs.size+1)=some (tE C s.heap.objs.size):=by
  have:=Heap.get?_push_size (s.heap.push t5) (o:=tE C s.heap.objs.size) rfl;rwa [Heap.size_push] at this
 have e3:(s.heap.push t5).Ns s.heap.objs.size (λ_=>none):=⟨t5,#[],_,e1,rfl,(λe he=>absurd he (by simp)),λ_=>rfl⟩;have I1:=I.laid (a:=s.heap.objs.size) (o:= .own (s.heap.objs.size+1)) (h':=s.heap.push t5) (t':=s.toks) (λb u q=>Heap.get?_push_of_some _ q) (rj _) ⟨_,e1⟩;refine I1.laid (a:=s.heap.objs.size+1) (o:= .ins C s.heap.objs.size []) (t':=s.toks) (λb u q=>Heap.get?_push_of_some _ q) (ud (Heap.size_push _ _)) ?_;have ne:s.heap.objs.size≠s.heap.objs.size+1:=rQ (sP _);refine⟨by rw[yz ne,yP],rS _,ne,e2,λ_=>none,(Heap.Ns1.of_empty e3).at λo q=>Heap.get?_push_of_some _ q,λ_=>u6,λy hy=>absurd rfl hy⟩
theorem zkV {prog:Program} {w:World} {env:Env} {e:Expr} {f:Str} {pos:Pos} {s:Shared} {Q:Value->Shared->Prop} (hb:attributeBase e f env (eval e env)=eval e env)
  (h:wpAny (model prog w) A (eval e env) (λo s₁=>wpAny (model prog w) A (getAttr o f true) Q E s₁) E s):wpAny (model prog w) A (eval (.Attribute e f pos) env) Q E s:=
 Attribute_any_ h (by rw[arm_eval_Attribute,hb])
end
def zoE (K:r6) (ta:TE) (f:Str):TE:=λσ H Q=>ta σ H λx H1=>∃a C dx fs v,x= .ref a/\H1 a=some (.ins C dx fs)/\Cls K C/\Ys K C f/\fs.lookup f=some v/\Q v H1
def zoF (K:r6) (ta tv:TE) (f:Str):TS:=λD σ H=>tv σ H λy H1=>ta σ H1 λx H2=>∃a C dx fs,x= .ref a/\H2 a=some (.ins C dx fs)/\Cls K C/\Ys K C f/\fs.length<1000/\
 D.nx σ (upd H2 a (.ins C dx (XL f y fs)))
def zoG (X:Cx) (op:Operator) (rd:V->V->Hp->VK->Prop):Prop:=
 ∀(pins:List (Addr×Obj)) (s:Shared) (σ:St) (H:Hp) (x y:V) (u v:Value) (Q:VK),Inv X pins σ H s->yr x u->yr y v->rd x y H Q->wpAny (model X.prog X.w) X.A (inplaceOp op u v) (EP X pins σ Q) X.xe s
def zgW (K:r6) (ta tv:TE) (rd:V->V->Hp->VK->Prop) (f:Str):TS:=λD σ H=>ta σ H λx H1=>∃a C dx fs v,x= .ref a/\H1 a=some (.ins C dx fs)/\Cls K C/\Ys K C f/\fs.lookup f=some v/\
 tv σ H1 λy H2=>rd v y H2 λz H3=>∃dx' fs',H3 a=some (.ins C dx' fs')/\fs'.length<1000/\D.nx σ (upd H3 a (.ins C dx' (XL f z fs')))
section
variable {X:Cx} {o e value:Expr} {f:Str} {pos pos' ja:Pos} {ta tv:TE}
theorem zaq (he:PE X e ta) (hb:attributeBase e f X.env (eval e X.env)=eval e X.env):PE X (.Attribute e f pos) (zoE X.K ta f):=by
 intro pins s σ H Q I h;refine zkV hb (thn (he pins s σ H _ I h) ?_);rintro u s1 ⟨x,H1,I1,rx,a,C,dx,fs,v,ex,ea,c,n,l,q⟩;subst ex;obtain rfl:u=Value.ref a:=rx;exact zbr I1 ea c n l λu' s2 I2 ru=>⟨v,H1,I2,ru,q⟩
theorem zfU (ha:PE X o ta) (hv:PE X value tv) (hs:swapsWith value (some (.Attribute o f pos')) pos.line X.env=pure false):PS X (.Assign [.Attribute o f pos'] value pos) (zoF X.K ta tv f):=by
 intro pins s σ H D I h;refine plainObj_wpAny_Assign_Attribute (thn (hv pins s σ H _ I h) ?_) hs;rintro u s1 ⟨y,H1,I1,ry,q⟩;refine thn (ha pins s1 σ H1 _ I1 q) ?_;rintro ov s2 ⟨x,H2,I2,rx,a,C,dx,fs,ex,ea,c,n,l,q2⟩;subst ex;obtain rfl:ov=Value.ref a:=rx;exact zbt I2 ea c n l ry λs3 I3=>⟨σ,_,I3,q2⟩
theorem zh1 {op:Operator} {rd:V->V->Hp->VK->Prop} (ha:PE X o ta) (hv:PE X value tv) (fH:zoG X op rd):PS X (.AugAssign (.Attribute o f ja) op value pos) (zgW X.K ta tv rd f):=by
 intro pins s σ H D I h;refine wpAny_AugAssign_AttributeAny (thn (ha pins s σ H _ I h) ?_);rintro ov s1 ⟨x,H1,I1,rx,a,C,dx,fs,v,ex,ea,c,n,l,q⟩;subst ex;obtain rfl:ov=Value.ref a:=rx;refine zbr I1 ea c n l λu s2 I2 ru=>thn (hv pins s2 σ H1 _ I2 q) ?_;rintro w3 s3 ⟨y,H2,I3,ry,q3⟩;refine thn (fH pins s3 σ H2 v y u w3 _ I3 ru ry q3) ?_;rintro w4 s4 ⟨z,H3,I4,rz,dx',fs',ea',l',q4⟩;exact zbt I4 ea' c n l' rz λs5 I5=>⟨σ,_,I5,q4⟩
def zoH:V->V->Hp->VK->Prop:=λx y H Q=>∃i j,x= .int i/\y= .int j/\Q (.int (i+j)) H
theorem zm3:zoG X .Add zoH:=by
 rintro pins s σ H x y u v Q I rx ry ⟨i,j,rfl,rfl,q⟩;obtain⟨t,rfl⟩:=(show ∃t,u=Value.int i t from rx);obtain⟨t',rfl⟩:=(show ∃t',v=Value.int j t' from ry);exact PyProof.Rows.iadd_int ⟨.int (i+j),H,I.tok _,⟨_,rfl⟩,q⟩
end
section
variable {X:Cx} {pins:List (Addr×Obj)} {σ:St} {H:Hp} {s:Shared} {A:Around} {E:Value->Shared->Prop} {Q:Value->Shared->Prop} {c:Value} {b:Bool}
inductive zaZ (K:r6) (H:Hp):V->Value->Prop where
 |non:zaZ K H .non (.type "NoneType")
 |bl (x:Bool):zaZ K H (.bl x) (.type "bool")
 |int (i:Int):zaZ K H (.int i) (.type "int")
 |str (x:Str):zaZ K H (.str x) (.type "str")
 |flt (x:UInt64):zaZ K H (.flt x) (.type "float")
 |lst {a:Addr} {xs:List V} (e:H a=some (.lst xs)):zaZ K H (.ref a) (.type "list")
 |frz {a:Addr} {o:Obj} {xs:List V} (e:H a=some (.frz o (.lst xs))):zaZ K H (.ref a) (.type "list")
 |tup {a:Addr} {xs:List V} (e:H a=some (.tup xs)):zaZ K H (.ref a) (.type "tuple")
 |dK {a:Addr} {aj:List (Key×V)} (e:H a=some (.dK aj)):zaZ K H (.ref a) (.type "dict")
 |dT {a:Addr} {aj:List (List Key×V)} (e:H a=some (.dT aj)):zaZ K H (.ref a) (.type "dict")
 |ins {a C dx:Addr} {fs:List (Str×V)} (e:H a=some (.ins C dx fs)) (cl:Cls K C) (ha:rK K (.ref C) "__class__"=some (some (.builtin "object.__class__")))
   (hn:uH K (.builtin "object.__class__") "__get__"=some (some (.builtin "getset_descriptor.__get__"))) (htk:z8 K (.builtin "object.__class__")=some true)
   (hm:sk K C (.type "object")=some true):zaZ K H (.ref a) (.ref C)
end
structure Zs (k:Nat) (A:Around):Prop where
 hd:A.handled=none
 dp:A.depth+3*k+5<recursionLimit
 un:A.units+16*k+200<cLine
 gd:A.guards=some []
theorem Zs.mono {j k:Nat} {A:Around} (r:Zs k A) (h:j<=k):Zs j A:=⟨r.hd,by have:=r.dp;omega,by have:=r.un;omega,r.gd⟩
theorem Zs.deeper {k:Nat} {A:Around} (r:Zs (k+1) A) (env:Env):Zs k (A.deeper env):=
 ⟨r.hd,by have:=r.dp;show A.depth+1+3*k+5<_;omega,by have:=r.un;show A.units+3+16*k+200<_;omega,r.gd⟩
theorem zfV {A:Around} {C:Addr} {us:List Value} {kw:List (Str×Value)}:(A.under (.builtin "type.__call__" ⟨.ref C::us,kw⟩)).depth=A.depth+1:=by
 first|rfl|simp[Around.under,Code.weight,Code.isCreation,Code.isGuard,Code.isCaller,Code.frames,Code.isFrame,guardIds]
theorem zfW {A:Around} {C:Addr} {us:List Value} {kw:List (Str×Value)}:(A.under (.builtin "type.__call__" ⟨.ref C::us,kw⟩)).units=A.units+1:=by
 first|rfl|simp[Around.under,Code.cUnits,Code.frames,Code.isFrame]
theorem Zs.make {k:Nat} {A:Around} (r:Zs (k+1) A) (C:Addr) (us:List Value) (kw:List (Str×Value)):Zs k (A.under (.builtin "type.__call__" ⟨.ref C::us,kw⟩)):=
 ⟨r.hd,by have:=r.dp;rw[zfV];omega,by have:=r.un;rw[zfW];omega,r.gd⟩
theorem Zs.depth {k:Nat} {A:Around} (r:Zs k A):A.depth<recursionLimit:=by have:=r.dp;omega
theorem Zs.units {k:Nat} {A:Around} (r:Zs k A):A.units+64<cLine:=by have:=r.un;omega
def zh2:TA:=λ_ H Q=>Q [] H
def zc5 (ta:TE) (tr:TA):TA:=λσ H Q=>ta σ H λx H1=>tr σ H1 λxs H2=>Q (x::xs) H2
section
variable {X:Cx} {e:Expr} {es:List Expr} {te:TE} {t:TA} {pos:Pos}
theorem zb:PA X [] zh2:=λ_ _ _ _ H Q I h=>Calls.spliced_nil ⟨[],H,I,.nil,h⟩
theorem yW (ha:PE X e te) (hr:PA X es t) (hs:starEach (e::es) X.env=(false,eval e X.env)::starEach es X.env:=by rfl):PA X (e::es) (zc5 te t):=by
 intro pos pins s σ H Q I h;rw[hs];show wpAny _ _ (spliced ((false,eval e X.env)::backTo pos (starEach es X.env))) _ _ s;refine Calls.spliced_cons (thn (ha pins s σ H _ I h) ?_);rintro u s1 ⟨x,H1,I1,r1,q1⟩;refine thn (hr pos pins s1 σ H1 _ I1 q1) ?_;rintro us s2 ⟨xs,H2,I2,r2,q2⟩;exact⟨x::xs,H2,I2,.cons r1 r2,q2⟩
def zoI (t:TA):TE:=λσ H Q=>t σ H λxs H1=>xs.length<=sizeLine/\∀p,H1 p=none->Q (.ref p) (upd H1 p (.tup xs))
def zoJ (t:TA):TE:=λσ H Q=>t σ H λxs H1=>xs.length<=sizeLine/\∀p,H1 p=none->Q (.ref p) (upd H1 p (.lst xs))
theorem zm4 {x1} (h:PA X es t):PE X (.Tuple es x1 pos) (zoI t):=by
 intro pins s σ H Q I hq;refine wpAny_Tuple_spliced (thn (h pos pins s σ H _ I hq) λus s1 ⟨xs,H1,I1,r,z,q⟩=>⟨by rw[<-r.length];exact z,?_⟩);have hf:H1 s1.heap.objs.size=none:=I1.hok.fresh (rj _);refine⟨.ref s1.heap.objs.size,upd H1 s1.heap.objs.size (.tup xs),I1.laid (t':=s1.toks) (λb u e=>Heap.get?_push_of_some _ e) (rj _) ?_,rfl,q _ hf⟩;exact⟨z,us,r,⟨_,Heap.get?_push_size _ rfl,rfl,_,rfl,rfl⟩⟩
theorem yR (h:PA X es t):PE X (.List es pos) (zoJ t):=by
 intro pins s σ H Q I hq;refine wpAny_List_spliced (thn (h pos pins s σ H _ I hq) λus s1 ⟨xs,H1,I1,r,z,q⟩=>⟨by rw[<-r.length];exact z,?_⟩);have hf:H1 s1.heap.objs.size=none:=I1.hok.fresh (rj _);refine⟨.ref s1.heap.objs.size,upd H1 s1.heap.objs.size (.lst xs),I1.laid (t':=s1.toks) (λb u e=>Heap.get?_push_of_some _ e) (rj _) ?_,rfl,q _ hf⟩;exact⟨z,us,0,r,Heap.get?_push_size _ rfl⟩
end
abbrev Sp:=List V->Hp->VK->XK->Prop
abbrev CXT:=List Env->Hp->Shared->XK->Value->Shared->Prop
structure zfX (P:Program) (w:World) (K:r6) (mg:Str->Option Value) (base:Heap) (A:Around) (outer:List Env) (s:Shared) (H:Hp):Prop where
 frames:A.frames=some outer
 mod:Mod K mg base
 bs:∀b o,base.get? b=some o->s.heap.get? b=some o/\H b=none
 bsz:base.objs.size<=s.heap.objs.size
 funs:s.heap.FunFrames base outer
 frf:∀b∈frs outer,H b=none
 hok:HOk P w H s.heap
 bare:AllBare s.gens
def CE (outer:List Env) (P:Program) (w:World) (H:Hp) (s:Shared) (Q:VK) (u:Value) (s':Shared):Prop:=
 ∃v H',s'.os=s.os/\AllBare s'.gens/\Un (frs outer) [] H H' s.heap s'.heap/\HOk P w H' s'.heap/\yr v u/\Q v H'
def CR (CX:CXT) (outer:List Env) (P:Program) (w:World) (H:Hp) (s:Shared) (Q:VK) (E:XK) (r:Result) (s':Shared):Prop:=
 match r with
 | .ok (.ret u)=>CE outer P w H s Q u s'
 | .ok _=>False
 | .error e=>CX outer H s E e s'
structure zZ (P:Program) (w:World) (K:r6) (mg:Str->Option Value) (base:Heap) (CX:CXT) (k:Nat) (f:Addr) (fd:FuncData) (ps:List Str) (sp:Sp):Prop where
 len:∀vs H Q E,sp vs H Q E->vs.length=ps.length
 run:∀(A:Around) (outer:List Env) (s:Shared) (H:Hp) (args:Args) (us:List Value) (vs:List V) (Q:VK) (E:XK),Zs k A->zfX P w K mg base A outer s H->BindsTo s fd args (ps.zip us)->yf vs us->sp vs H Q E->
  codeAny (model P w) A (.call (.ref f) args) (CR CX outer P w H s Q E) s
theorem zZ.imp {P:Program} {w:World} {K:r6} {mg:Str->Option Value} {base:Heap} {CX:CXT} {k:Nat} {f:Addr} {fd:FuncData} {ps:List Str} {sp sp':Sp} (F:zZ P w K mg base CX k f fd ps sp)
  (h:∀vs H Q E,sp' vs H Q E->sp vs H Q E):zZ P w K mg base CX k f fd ps sp':=
 ⟨λvs H Q E q=>F.len vs H Q E (h _ _ _ _ q),λA outer s H args us vs Q E hr he hb hv hs=>F.run A outer s H args us vs Q E hr he hb hv (h _ _ _ _ hs)⟩
theorem zfX.make {P:Program} {w:World} {K:r6} {mg:Str->Option Value} {base:Heap} {A:Around} {outer:List Env} {s:Shared} {H:Hp} (e:zfX P w K mg base A outer s H) (C:Addr) (us:List Value) (kw:List (Str×Value)):
  zfX P w K mg base (A.under (.builtin "type.__call__" ⟨.ref C::us,kw⟩)) outer s H:=⟨by first|exact e.frames|(simpa [Around.under,Code.envs,Code.isFrame,pushEnvs] using e.frames),e.mod,e.bs,e.bsz,e.funs,e.frf,e.hok,e.bare⟩
section
variable {X:Cx} {pins:List (Addr×Obj)} {σ:St} {H:Hp} {s s':Shared}
theorem Inv.env0 (I:Inv X pins σ H s):zfX X.prog X.w X.K X.mg X.base X.A X.stack s H:=
 ⟨I.ok.frames,I.ok.mod,I.bs,si I.ok.bsz I.sz,I.stack,I.stkFree,I.hok,I.bare⟩
theorem Inv.after {Q:VK} {u:Value} (I:Inv X pins σ H s) (h:CE X.stack X.prog X.w H s Q u s'):EP X pins σ Q u s':=by
 obtain⟨v,H',os,bare,un,hok,r,q⟩:=h;obtain⟨hh,g,d,t,os'⟩:=s';obtain rfl:os'=s.os:=os;exact⟨v,H',I.call (h':=hh) (g':=g) (d':=d) (t':=t) (ch:=[]) un hok bare (λb z=>absurd z (by simp)),r,q⟩
end
def zmg (sp:Sp) (fD:List V) (E:XK) (t:TA):TE:=λσ H Q=>t σ H λvs H1=>sp (vs++fD) H1 Q E
def zi1 (C:Addr) (m:Str) (sp:Sp) (fD:List V) (E:XK) (ta:TE) (t:TA):TE:=λσ H Q=>ta σ H λx H1=>∃a dx fs,x= .ref a/\H1 a=some (.ins C dx fs)/\fs.lookup m=none/\
 t σ H1 λvs H2=>sp (x::(vs++fD)) H2 Q E
def zmh (C:Addr) (sp:Sp) (fD:List V) (E:XK) (t:TA):TE:=λσ H Q=>t σ H λvs H1=>∀x dx,H1 x=none->H1 dx=none->dx≠x->
 sp (.ref x::(vs++fD)) (upd (upd H1 dx (.own x)) x (.ins C dx [])) (λv H2=>v= .non/\Q (.ref x) H2) E
def Vx (K:r6) (fd:FuncData) (ps:List Str) (ds:List Value):Prop:=
 ∀(s:Shared) (us:List Value),K.In s.heap->(us++ds).length=ps.length->BindsTo s fd ⟨us,[]⟩ (ps.zip (us++ds))
theorem Vx.all {K:r6} {fd:FuncData} {ps:List Str} (h:∀us:List Value,us.length=ps.length->bindArgs fd ⟨us,[]⟩=pure (ps.zip us)):Vx K fd ps []:=λs us _ hl=>by
 rw[sT] at hl ⊢;exact .of_eq (h us hl)
def Vy (CX:CXT) (X:Cx) (E:XK):Prop:=∀(pins:List (Addr×Obj)) (σ:St) (H:Hp) (s:Shared) (e:Value) (s':Shared),Inv X pins σ H s->CX X.stack H s E e s'->X.xe e s'
section
variable {X:Cx} {CX:CXT} {k:Nat} {f C:Addr} {fd:FuncData} {ps:List Str} {sp:Sp} {fD:List V} {ds:List Value} {E:XK} {x m:Str} {p pos apos:Pos} {e o:Expr} {es:List Expr} {ta:TE} {t:TA}
theorem zfY {pins:List (Addr×Obj)} {σ:St} {H:Hp} {s:Shared} {Q:VK} {us:List Value} {vs:List V} (F:zZ X.prog X.w X.K X.mg X.base CX k f fd ps sp) (hr:Zs k X.A) (hb:Vx X.K fd ps ds) (hd:yf fD ds) (hx:Vy CX X E)
  (I:Inv X pins σ H s) (r:yf vs us) (h:sp (vs++fD) H Q E):wpAny (model X.prog X.w) X.A (call (.ref f) us) (EP X pins σ Q) X.xe s:=by
 have r2:yf (vs++fD) (us++ds):=r.append hd;have hl:(us++ds).length=ps.length:=by rw[<-r2.length];exact F.len _ _ _ _ h
 refine wpAny_call (codeAny_mono (F.run X.A X.stack s H ⟨us,[]⟩ (us++ds) (vs++fD) Q E hr I.env0 (hb s us I.kIn hl) r2 h) λr s' hq=> ?_);cases r with
 |error e=>exact hx pins σ H s e s' I hq
 |ok fl=>
  cases fl with
  |ret u=>exact I.after hq
  |next=>exact tF hq
  |brk=>exact tF hq
  |cont=>exact tF hq
theorem zkW (F:zZ X.prog X.w X.K X.mg X.base CX k f fd ps sp) (hr:Zs k X.A) (hg:Gl X x) (hm:X.mg x=some (.ref f)) (hk:tK X.K (.ref f)=true) (hb:Vx X.K fd ps ds) (hd:yf fD ds) (hx:Vy CX X E)
  (ha:PA X (e::es) t) (jy:(x==("__debug__":Str))=false:=by decide) (he:starEach (e::es) X.env=(false,eval e X.env)::starEach es X.env:=by rfl) (gL:(backTo pos (starEach es X.env)).any (·.1)=false:=by rfl):
  PE X (.Call (.Name x p) (e::es) [] pos) (zmg sp fD E t):=by
 intro pins s σ H Q I h;refine wpAny_Call_Name_kw (zdA I hg hm ?_ jy);refine v9 (h₀:=X.base) I.ok.mod.kin hk (thn (ha pos pins s σ H _ I h) ?_) he gL;rintro us s1 ⟨vs,H1,I1,r,q⟩;refine⟨I1.kIn,?_⟩;exact zfY F hr hb hd hx I1 r q
theorem Te {pl:Sem Bool} (he:PE X o ta) (c:Cls X.K C) (hm:zkU X.K C m f) (F:zZ X.prog X.w X.K X.mg X.base CX k f fd ps sp) (hr:Zs k X.A) (hb:Vx X.K fd ps ds) (hd:yf fD ds) (hx:Vy CX X E) (ha:PA X (e::es) t)
  (fM:starEach (e::es) X.env=(false,eval e X.env)::starEach es X.env:=by rfl) (gL:(backTo pos (starEach es X.env)).any (·.1)=false:=by rfl)
  (ht:eval (.Call (.Attribute o m apos) (e::es) [] pos) X.env=(do
   let ov <-eval o X.env
   standAt apos.atName
   let (f,first) <-holding [ov] (getMethod ov m pl)
   callWith pos f first (backTo pos (starEach (e::es) X.env)) (backToKw pos (keywordEach [] X.env))):=by rfl):
  PE X (.Call (.Attribute o m apos) (e::es) [] pos) (zi1 C m sp fD E ta t):=by
 intro pins s σ H Q I h;refine Ae (pl:=pl) (thn (he pins s σ H _ I h) ?_) ht;rintro u s1 ⟨x,H1,I1,rx,a,dx,fs,ex,ea,l,q⟩;subst ex;obtain rfl:u=Value.ref a:=rx;refine zbs I1 ea c hm l ?_;refine v9 (first:=[.ref a]) (h₀:=X.base) I.ok.mod.kin hm.kp (thn (ha pos pins s1 σ H1 _ I1 q) ?_) fM gL;rintro us s2 ⟨vs,H2,I2,r,q2⟩;refine⟨I2.kIn,?_⟩;exact zfY (us:= .ref a::us) (vs:= .ref a::vs) F hr hb hd hx I2 (.cons rfl r) q2
theorem Yb {pl:Sem Bool} (he:PE X o ta) (c:Cls X.K C) (hm:zkU X.K C m f) (F:zZ X.prog X.w X.K X.mg X.base CX k f fd ps sp) (hr:Zs k X.A) (hb:Vx X.K fd ps ds) (hd:yf fD ds) (hx:Vy CX X E)
  (ht:eval (.Call (.Attribute o m apos) [] [] pos) X.env=(do
   let ov <-eval o X.env
   standAt apos.atName
   let (f,first) <-holding [ov] (getMethod ov m pl)
   callWith pos f first (backTo pos (starEach [] X.env)) (backToKw pos (keywordEach [] X.env))):=by rfl):
  PE X (.Call (.Attribute o m apos) [] [] pos) (zi1 C m sp fD E ta zh2):=by
 intro pins s σ H Q I h;refine Ae (pl:=pl) (thn (he pins s σ H _ I h) ?_) ht;rintro u s1 ⟨x,H1,I1,rx,a,dx,fs,ex,ea,l,q⟩;subst ex;obtain rfl:u=Value.ref a:=rx;refine zbs I1 ea c hm l ?_;exact PySem.W.callWith_K0 (first:=[.ref a]) I1.kIn hm.kp (zfY (us:=[.ref a]) (vs:=[.ref a]) F hr hb hd hx I1 (.cons rfl .nil) q)
structure Mk (K:r6) (C f:Addr):Prop where
 makes:z7 K C=true
 init:rK K (.ref C) "__init__"=some (some (.ref f))
 fn:uR K (.ref f)=true
 kp:tK K (.ref C)=true
theorem zi2 {pins:List (Addr×Obj)} {σ:St} {H:Hp} {s:Shared} {Q:VK} {us:List Value} {vs:List V} (M:Mk X.K C f) (F:zZ X.prog X.w X.K X.mg X.base CX k f fd ps sp) (hr:Zs (k+1) X.A) (hb:Vx X.K fd ps ds) (hd:yf fD ds)
  (hx:Vy CX X E) (I:Inv X pins σ H s) (r:yf vs us)
  (h:∀x dx,H x=none->H dx=none->dx≠x->sp (.ref x::(vs++fD)) (upd (upd H dx (.own x)) x (.ins C dx [])) (λv H2=>v= .non/\Q (.ref x) H2) E):
  wpAny (model X.prog X.w) X.A (call (.ref C) us) (EP X pins σ Q) X.xe s:=by
 have hq:=h (s.heap.objs.size+1) s.heap.objs.size (I.hok.fresh (tM _)) (I.hok.fresh (rj _)) (rQ (sP _));have I2:=Inv.made (C:=C) I;have r2:yf (V.ref (s.heap.objs.size+1)::(vs++fD)) (Value.ref (s.heap.objs.size+1)::(us++ds)):= .cons rfl (r.append hd);have hl:(Value.ref (s.heap.objs.size+1)::us++ds).length=ps.length:=by
  have e:=r2.length;rw[F.len _ _ _ _ hq] at e;exact e.symm
 refine wpAny_call (zi0 (f:=f) I.kIn M.makes M.init (beq_iff_eq.mp M.fn) (codeAny_mono (F.run _ X.stack _ _ ⟨Value.ref (s.heap.objs.size+1)::us,[]⟩ (Value.ref (s.heap.objs.size+1)::(us++ds)) _ _ E (hr.make C us [])
  (I2.env0.make C us []) (hb _ (Value.ref (s.heap.objs.size+1)::us) I2.kIn hl) r2 hq) λr s' jn=> ?_))
 cases r with
 |error e=>exact hx pins σ _ _ e s' I2 jn
 |ok fl=>
  cases fl with
  |ret u=>
   obtain⟨v,H',I3,rv,ev,q3⟩:=I2.after jn;subst ev;exact⟨rv,⟨V.ref (s.heap.objs.size+1),H',I3,rfl,q3⟩⟩
  |next=>exact tF jn
  |brk=>exact tF jn
  |cont=>exact tF jn
theorem zkX (M:Mk X.K C f) (F:zZ X.prog X.w X.K X.mg X.base CX k f fd ps sp) (hr:Zs (k+1) X.A) (hg:Gl X x) (hm:X.mg x=some (.ref C)) (hb:Vx X.K fd ps ds) (hd:yf fD ds) (hx:Vy CX X E)
  (ha:PA X (e::es) t) (jy:(x==("__debug__":Str))=false:=by decide) (he:starEach (e::es) X.env=(false,eval e X.env)::starEach es X.env:=by rfl) (gL:(backTo pos (starEach es X.env)).any (·.1)=false:=by rfl):
  PE X (.Call (.Name x p) (e::es) [] pos) (zmh C sp fD E t):=by
 intro pins s σ H Q I h;refine wpAny_Call_Name_kw (zdA I hg hm ?_ jy);refine v9 (h₀:=X.base) I.ok.mod.kin M.kp (thn (ha pos pins s σ H _ I h) ?_) he gL;rintro us s1 ⟨vs,H1,I1,r,q⟩;refine⟨I1.kIn,?_⟩;exact zi2 M F hr hb hd hx I1 r q
end
section
variable {X:Cx} {CX:CXT} {k:Nat} {f C:Addr} {fd:FuncData} {ps ks:List Str} {sp:Sp} {E:XK} {x m:Str} {p pos apos oH:Pos} {e o:Expr} {es:List Expr} {qA:List Keyword} {te ta:TE} {t tk:TA} {nm:Option Str}
structure zpP (K:r6) (fd:FuncData) (ps ks:List Str) (g:List Value->List Value->List Value) (gV:List V->List V->List V):Prop where
 to:∀(s:Shared) (us ws:List Value),K.In s.heap->(g us ws).length=ps.length->BindsTo s fd ⟨us,ks.zip ws⟩ (ps.zip (g us ws))
 rel:∀{vs:List V} {us:List Value} {zs:List V} {ws:List Value},yf vs us->yf zs ws->yf (gV vs zs) (g us ws)
variable {g:List Value->List Value->List Value} {gV:List V->List V->List V}
end
structure zw (N P:List Str) (sc:Scope):Prop where
 kind:sc.kind= .function
 co:sc.isCoroutine=false
 gen:sc.isGenerator=false
 nd:N.Nodup
 pre:N.take P.length=P
 par:∀x∈P,sc.names.lookup x=some .local\/sc.names.lookup x=some .cell
 nofree:∀y∈sc.names,y.2≠ .free
theorem zc6 {kindOf:Str->Option NameKind} {x:Str}:∀{binds:List (Str×Value)} {m:Str->Option Value},(∀v,(x,v)∉binds)->bindL kindOf binds m x=m x
 |[],_,_=>rfl
 |(n,v)::r,m,h=>by
  unfold bindL;rw[zc6 λw hw=>h w (rF _ hw)];split
  .have:x≠n:=by rintro rfl;exact h v rM
   simp[this]
  .rfl
theorem zc7 {kindOf:Str->Option NameKind} {x:Str}:∀{binds:List (Str×Value)} {m:Str->Option Value},(∀v,(x,v)∉binds)->bindC kindOf binds m x=m x
 |[],_,_=>rfl
 |(n,v)::r,m,h=>by
  unfold bindC;rw[zc7 λw hw=>h w (rF _ hw)];split
  .rfl
  .have:x≠n:=by rintro rfl;exact h v rM
   simp[this]
theorem zc8 {kindOf:Str->Option NameKind} {x:Str} {v:Value}:∀{P:List Str} {vs:List Value} {i:Nat} {m:Str->Option Value},P.Nodup->P[i]? =some x->vs[i]? =some v->kindOf x=some .local->
  bindL kindOf (P.zip vs) m x=some v
 |[],_,_,_,_,h,_,_=>by simp at h
 |_::_,[],_,_,_,_,h,_=>by simp at h
 |p::P,w::vs,0,m,nd,h1,h2,hk=>by
  simp at h1 h2;subst h1;subst h2;show bindL kindOf ((p,w)::P.zip vs) m p=_;unfold bindL;rw[zc6 λv hv=>(u9.mp nd).1 (z9 hv).1,if_pos hk];simp
 |p::P,w::vs,i+1,m,nd,h1,h2,hk=>by
  show bindL kindOf ((p,w)::P.zip vs) m x=_;unfold bindL;exact zc8 (i:=i) (u9.mp nd).2 (by simpa using h1) (by simpa using h2) hk
theorem zc9 {kindOf:Str->Option NameKind} {x:Str} {v:Value}:∀{P:List Str} {vs:List Value} {i:Nat} {m:Str->Option Value},P.Nodup->P[i]? =some x->vs[i]? =some v->kindOf x≠some .local->
  bindC kindOf (P.zip vs) m x=some v
 |[],_,_,_,_,h,_,_=>by simp at h
 |_::_,[],_,_,_,_,h,_=>by simp at h
 |p::P,w::vs,0,m,nd,h1,h2,hk=>by
  simp at h1 h2;subst h1;subst h2;show bindC kindOf ((p,w)::P.zip vs) m p=_;unfold bindC;rw[zc7 λv hv=>(u9.mp nd).1 (z9 hv).1,if_neg hk];simp
 |p::P,w::vs,i+1,m,nd,h1,h2,hk=>by
  show bindC kindOf ((p,w)::P.zip vs) m x=_;unfold bindC;exact zc9 (i:=i) (u9.mp nd).2 (by simpa using h1) (by simpa using h2) hk
noncomputable def Vz (N:List Str) (vs:List V):St:=vs.map some++sN (N.length-vs.length) none
noncomputable def zeA (CX:CXT) (P:Program) (w:World) (K:r6) (mg:Str->Option Value) (base:Heap) (N:List Str) (qual:Str) (scope:Scope) (f:Addr) (cd:Value) (A:Around) (outer:List Env) (s:Shared) (H:Hp) (E:XK):Cx where
 prog:=P
 w:=w
 K:=K
 mg:=mg
 base:=base
 A:=A.deeper (envOfC qual scope s.heap.objs.size f cd)
 N:=N
 s₀:=s
 H₀:=H
 env:=envOfC qual scope s.heap.objs.size f cd
 outer:=outer
 stack:=envOfC qual scope s.heap.objs.size f cd::outer
 ex:=[]
 calm:=true
 fn:=λ_=>true
 pn:=[]
 xe:=λe s'=>wpAny (model P w) (A.deeper (envOfC qual scope s.heap.objs.size f cd)) (leaving (envOfC qual scope s.heap.objs.size f cd) e) (λ_ s''=>CX outer H s E e s'') (λe' s''=>CX outer H s E e' s'') s'
theorem zeB {sc:Scope} {n:Nat} {x:Str} (h:sc.names.lookup x=some .cell):∃c,(cellsFrom n sc.names []).lookup x=some c:=by
 have q:=A8 sc.names n [] (.inl h);exact tX.mp q
theorem zh3 {CX:CXT} {P:Program} {w:World} {K:r6} {mg:Str->Option Value} {base:Heap} {N ps:List Str} {qual:Str} {scope:Scope} {f:Addr} {cd:Value} {A:Around} {outer:List Env} {s s1:Shared} {H:Hp} {E:XK} {us:List Value} {vs:List V}
  (S:zw N ps scope) (hd:A.handled=none) (e0:zfX P w K mg base A outer s H) (hl:vs.length=ps.length) (r:yf vs us)
  (x:InCallC s s.heap.objs.size (bindL (envOfC qual scope s.heap.objs.size f cd).kindOf (ps.zip us) λ_=>none) (cellsFrom (s.heap.objs.size+1) scope.names []) (bindC (envOfC qual scope s.heap.objs.size f cd).kindOf (ps.zip us) λ_=>none) s1):
  Inv (zeA CX P w K mg base N qual scope f cd A outer s H E) [] (Vz N vs) H s1:=by
 have gL:ps.length<=N.length:=by have:=congrArg v5 S.pre;rw[sL] at this;omega
 obtain⟨h1,tk,rfl,hk⟩:=x.done;have jT:∀b:Addr,b∉(zeA CX P w K mg base N qual scope f cd A outer s H E).ex:=λb z=>absurd (show b∈([]:List Addr) from z) (by simp)
 refine⟨⟨e0.mod,S.kind,rfl,rfl,rj _,λy z c h1 h2=> ?_,λy hy=> ?_,λy c _ h=> ?_,λ_=>hd,Around.frames_deeper e0.frames,.inr ⟨rfl,rfl⟩,λb z=>absurd z (jT b),e0.bs,e0.bsz,λb _ _=>jT b,λb z=>absurd z (jT b),e0.funs,e0.frf⟩,
  rfl,e0.bare,Un.kept hk,⟨_,x.toInCall.ns,λi y v h1 h2 h3=> ?_⟩,λy c h=>⟨_,x.cell y c h⟩,e0.hok.fresh (rj _),λy c h=> ?_,λp hp=>absurd (show p∈([]:List (Addr×Obj)) from hp) (by simp),e0.hok.kept hk,?_⟩
 .exact name_of_addr x.apart (tm h1) (tm h2)
 .have hy:scope.names.lookup y=some .cell\/scope.names.lookup y=some .free:=hy;rcases hy with hy|hy
  .exact zeB hy
  .exact absurd rfl (S.nofree _ (tm hy))
 .exact sD (x.above y c (tm h))
 .have hi:i<vs.length:=by
   unfold Vz at h2;by_cases hi:i<vs.length
   .exact hi
   .rw[rL (by simpa using hi)] at h2;rw[z5] at h2;split at h2<;>cases h2
  have ha:vs[i]? =some v:=by
   unfold Vz at h2;rw[rB (by simpa using hi),rq] at h2;cases e:vs[i]? with
   |none=>rw[e] at h2;cases h2
   |some a=>rw[e] at h2;cases h2;rfl
  obtain⟨u,hu,rv⟩:=r.get ha;have hp:ps[i]? =some y:=by
   rw[<-S.pre,y8 ⋯];exact h1
  have nq:ps.Nodup:=by rw[<-S.pre];exact S.nd.sublist (List.take_sublist _ _)
  refine⟨u,rv,?_⟩;rcases S.par y (rV hp) with k|k
  .exact .inl ⟨k,zc8 nq hp hu k⟩
  .obtain⟨c,e⟩:=zeB (n:=s.heap.objs.size+1) k;refine .inr ⟨.inl k,c,e,?_⟩;have q:=x.cell y c e;rw[zc9 nq hp hu (by show scope.names.lookup y≠_;rw[k];decide)] at q;exact q
 .exact e0.hok.fresh (sD (x.above y c (tm h)))
 .unfold Vz;show _=N.length;rw[rk,rh,List.length_replicate];omega
theorem zoK {CX:CXT} {P:Program} {w:World} {K:r6} {mg:Str->Option Value} {base:Heap} {k:Nat} {f:Addr} {name qual:Str} {params:Arguments} {body:List Stmt} {scope:Scope} {dV kV doc pm aH ct oc:Value} {an od:Option Addr}
  {gI:Array (Option Value)} {N ps:List Str} {sp:Sp} (lk:K.lookup f=some ⟨oc,od,.func (tO name qual params body scope dV kV doc pm an aH ct),gI⟩) (fC:uD K aH qual=true) (S:zw N ps scope)
  (len:∀vs H Q E,sp vs H Q E->vs.length=ps.length)
  (hU:∀(A:Around) (outer:List Env) (s:Shared) (H:Hp) (vs:List V) (Q:VK) (E:XK),Zs k (A.deeper (envOfC qual scope s.heap.objs.size f aH))->sp vs H Q E->
   ∃t,PSs (zeA CX P w K mg base N qual scope f aH A outer s H E) body t/\t {nx:=λ_ H'=>Q .non H',rt:=Q} (Vz N vs) H):
  zZ P w K mg base CX (k+1) f (tO name qual params body scope dV kV doc pm an aH ct) ps sp:=by
 refine⟨len,λA outer s H args us vs Q E hr e0 hb r g9=> ?_⟩;have hl:=len _ _ _ _ g9;have KX:K.In s.heap:=e0.mod.kin.keeps λb o e=>(e0.bs b o e).1;have lim:s.heap.NoLimit:=e0.mod.nolimit.keeps λb o e=>(e0.bs b o e).1;have kr:∀y∈ps.zip us,scope.names.lookup y.1=some .local\/(scope.names.lookup y.1=some .cell/\((cellsFrom (s.heap.objs.size+1) scope.names []).lookup y.1).isSome=true):=λ⟨n,v⟩ hy=>by
  rcases S.par n (z9 hy).1 with q|q
  .exact .inl q
  .exact .inr ⟨q,A8 _ _ _ (.inl q)⟩
 refine codeAny_call_function hr.depth (KX _ _ lk) rfl S.co S.gen rfl (PySem.W.codeRec_of KX fC) (hb _ _ _ _ ?_);refine wpAny_newFunctionEnv_cells S.kind kr λenv he s1 x=> ?_;subst he;refine⟨lim.keeps x.toInCall.keep,codeAny_func ?_⟩;obtain⟨t,ht,hq⟩:=hU A outer s H vs Q E (hr.deeper _) g9;have I:Inv (zeA CX P w K mg base N qual scope f aH A outer s H E) [] (Vz N vs) H s1:=zh3 S hr.hd e0 hl r x;refine wpAny_mono (ht [] s1 (Vz N vs) H _ I hq) (λfl s' hs=> ?_) λe s' hs=>hs;have fin:∀{σ':St} {H':Hp} {v:V} {u:Value},Inv (zeA CX P w K mg base N qual scope f aH A outer s H E) [] σ' H' s'->yr v u->Q v H'->CE outer P w H s Q u s':=
  λ{σ' H' v u} J rv q=>⟨v,H',J.os,J.bare,J.base,J.hok,rv,q⟩
 cases fl with
 |ret u=>
  obtain⟨v,σ',H',J,rv,q⟩:=hs;exact fin J rv q
 |next=>
  obtain⟨σ',H',J,q⟩:=hs;exact fin (v:=V.non) (u:=Value.none) J rfl q
 |brk=>
  obtain⟨_,_,_,q⟩:=hs;exact tF q
 |cont=>
  obtain⟨_,_,_,q⟩:=hs;exact tF q
section
variable {X:Cx} {x:Str} {p pos:Pos} {e:Expr} {es:List Expr} {t:TA} {id T:String} {r:List V->Hp->VK->Prop}
def tCB (r:List V->Hp->VK->Prop) (t:TA):TE:=λσ H Q=>t σ H λvs H1=>r vs H1 Q
theorem zA (hc:vC X (.builtin id) r) (hg:Gl X x) (hm:X.mg x=none) (hv:bootBuiltins x=some (.builtin id)) (ha:PA X (e::es) t) (hn:x≠"__name__":=by decide) (jy:(x==("__debug__":Str))=false:=by decide)
  (he:starEach (e::es) X.env=(false,eval e X.env)::starEach es X.env:=by rfl) (gL:(backTo pos (starEach es X.env)).any (·.1)=false:=by rfl):PE X (.Call (.Name x p) (e::es) [] pos) (tCB r t):=by
 intro pins s σ H Q I h;refine wpAny_Call_Name_kw (Vw I hg hm hv ?_ hn jy);refine uT (thn (ha pos pins s σ H _ I h) ?_) he gL;rintro us s1 ⟨vs,H1,I1,r1,q1⟩;exact hc pins s1 σ H1 vs us Q I1 r1 q1
theorem yi (hc:vC X (.type T) r) (hg:Gl X x) (hm:X.mg x=none) (hv:bootBuiltins x=some (.type T)) (ha:PA X (e::es) t) (hn:x≠"__name__":=by decide) (jy:(x==("__debug__":Str))=false:=by decide)
  (he:starEach (e::es) X.env=(false,eval e X.env)::starEach es X.env:=by rfl) (gL:(backTo pos (starEach es X.env)).any (·.1)=false:=by rfl):PE X (.Call (.Name x p) (e::es) [] pos) (tCB r t):=by
 intro pins s σ H Q I h;refine wpAny_Call_Name_kw (Vw I hg hm hv ?_ hn jy);refine tN (thn (ha pos pins s σ H _ I h) ?_) he gL;rintro us s1 ⟨vs,H1,I1,r1,q1⟩;exact hc pins s1 σ H1 vs us Q I1 r1 q1
end
end L2
namespace HT
open PySem PyProof.Rows
section
open PySem.SeqAt
open PySem.AutoSeq1 (wpAny_loadPart')
open PySem.MeetsSeq PySem.MeetsSeq2 PySem.MeetsSeq3
end
section
variable {prog:Program} {w:World} {A:Around} {E:Value->Shared->Prop} {s:Shared}
theorem zkY {t b:Addr} {vs ws:List Value} {Q:Value->Shared->Prop} (ht:IsTup s.heap t vs.toArray) (hb:IsTup s.heap b ws.toArray) (hv:vs≠[])
  (h1:ws=[]->Q (.ref t) s) (h2:ws≠[]->Q (.ref s.heap.objs.size) {s with heap:=s.heap.push {cls:= .type "tuple",data:= .seq (vs++ws).toArray}})
  (g7:vs.length+ws.length<=sizeLine):wpAny (model prog w) A (binaryOp .Add (.ref t) (.ref b)) Q E s:=by
 obtain⟨⟨cls,dd,data,sl⟩,ho,hc,n,hd⟩:=id ht;obtain⟨⟨mX,lE,data2,jI⟩,jr,gb,n2,hd2⟩:=id hb;simp only at hc hd gb hd2;subst hc hd gb hd2;have e:vs.toArray++ws.toArray=(vs++ws).toArray:=by simp
 by_cases hw:ws=[]
 .exact concat_meets ⟨_,ho,rfl⟩ ⟨_,jr,rfl⟩ noFill_tuple_add seq_tuple_add uJ uF (uw _ _)
   (tuple_addW1 t b vs.toArray ws.toArray n n2 dd lE sl jI (by simpa using hv) (by simp[hw])) ⟨ho,jr,h1 hw⟩
 .refine concat_meets ⟨_,ho,rfl⟩ ⟨_,jr,rfl⟩ noFill_tuple_add seq_tuple_add uJ uF (uw _ _)
   (tuple_addW2 t b vs.toArray ws.toArray n n2 dd lE sl jI (by simpa using hv) (by simpa using hw) (by rw[rA,rA];exact g7)) ⟨ho,jr,?_⟩
  rw[e];exact h2 hw
noncomputable def sIx (n d:Nat):Option Int->Nat
 |none=>d
 |some v=>if v<0 then (v+(n:Int)).toNat else min v.toNat n
theorem zeC (n d:Nat):sIx n d none=d:=rfl
theorem zkZ (n d k:Nat):sIx n d (some (k:Int))=min k n:=by
 show (if (k:Int)<0 then ((k:Int)+(n:Int)).toNat else min (k:Int).toNat n)=min k n;rw[if_neg ⋯,sH]
theorem zm5 (n d:Nat) (hd:d<=n) (o:Option Int):sIx n d o<=n:=by
 cases o with
 |none=>exact hd
 |some v=>
  show (if v<0 then (v+(n:Int)).toNat else min v.toNat n)<=n;by_cases hv:v<0
  .rw[if_pos hv];omega
  .rw[if_neg hv];exact Nat.min_le_right _ _
theorem zgX (v:Int) (n d:Nat):(if v<0 then max (v+(n:Int)) 0 else min v (n:Int))=((sIx n d (some v):Nat):Int):=by
 show (if v<0 then max (v+(n:Int)) 0 else min v (n:Int))=(((if v<0 then (v+(n:Int)).toNat else min v.toNat n):Nat):Int);by_cases hv:v<0
 .simp only[if_pos hv];omega
 .simp only[if_neg hv];omega
theorem zfZ (lo hi:Option Int) (n:Nat):Builtin.Slice.sliceAdjust lo hi 1 (n:Int)=(((sIx n 0 lo:Nat):Int),((sIx n n hi:Nat):Int)):=by
 have h1:¬((1:Int)<0):=by omega
 unfold Builtin.Slice.sliceAdjust;simp only[h1,if_false];refine Prod.ext ?_ ?_
 .cases lo with
  |none=>rfl
  |some v=>exact zgX v n 0
 .cases hi with
  |none=>rfl
  |some v=>exact zgX v n n
theorem zf0 (i j:Nat):Builtin.Slice.slicePlaces (i:Int) (j:Int) 1=j-i:=by
 unfold Builtin.Slice.slicePlaces;have h1:(1:Int)>0:=by omega
 simp only[h1,if_true,Int.ediv_one];split<;>omega
theorem YW {v:Value} {o:Option Int} {Q:Option Int->Shared->Prop} (p:IsPart v o) (h:Q o s):wpAny (model prog w) A (Builtin.Slice.slicePartIndex v) Q E s:=by
 cases p with
 |none=>exact slicePart_none h
 |int i t=>exact slicePart_int h
theorem Wl {sl:Addr} {vl vu:Value} {lo hi:Option Int} {n:Nat} {Q:Int×Int×Nat->Shared->Prop} (hs:s.heap.IsSliceOf sl vl vu .none) (pl:IsPart vl lo) (pu:IsPart vu hi)
  (h:Q (((sIx n 0 lo:Nat):Int),1,sIx n n hi-sIx n 0 lo) s):wpAny (model prog w) A (Builtin.Slice.sliceApplied (.ref sl) (pure (n:Int))) Q E s:=by
 obtain⟨os,gK,jz,ip⟩:=id hs;unfold Builtin.Slice.sliceApplied Builtin.Slice.sliceFields;refine wpAny_bind (wpAny_bind (wpAny_field gK ip (x:=vl) rfl (wpAny_bind (wpAny_field gK ip (x:=vu) rfl (wpAny_bind (wpAny_field gK ip (x:= .none) rfl (wpAny_pure ?_)))))));refine wpAny_bind (slicePart_none ?_);show wpAny _ _ (if ((1:Int)==0)=true then _ else _) _ _ s;rw[if_neg ∅];refine wpAny_bind (YW pl (wpAny_bind (YW pu (wpAny_bind (wpAny_pure ?_)))));show wpAny _ _ (match Builtin.Slice.sliceAdjust lo hi 1 (n:Int) with|(lo,hi)=>pure (lo,(1:Int),Builtin.Slice.slicePlaces lo hi 1)) _ _ s;rw[zfZ lo hi n];show wpAny _ _ (pure (((sIx n 0 lo:Nat):Int),(1:Int),Builtin.Slice.slicePlaces ((sIx n 0 lo:Nat):Int) ((sIx n n hi:Nat):Int) 1)) _ _ s;rw[zf0];exact wpAny_pure h
theorem zi3 (xs:Array Value) (i k:Nat):((rY k).filterMap λ(m:Nat)=>xs[((i:Int)+(m:Int)*1).toNat]?).toArray=((xs.toList.drop i).take k).toArray:=by
 have e:(λ(m:Nat)=>xs[((i:Int)+(m:Int)*1).toNat]?)=λm=>xs[i+m]? :=by
  funext m;have:((i:Int)+(m:Int)*1).toNat=i+m:=by omega
  rw[this]
 rw[e];have:=pick_run xs i k;rw[List.filterMap_map] at this;have e2:((λx=>xs[x]?) ∘ λx=>i+x)=λm=>xs[i+m]? :=rfl;rw[e2] at this;rw[this]
theorem Tf {t sl:Addr} {items:Array Value} {vl vu:Value} {lo hi:Option Int} {Q:Value->Shared->Prop} (ht:IsTup s.heap t items) (hs:s.heap.IsSliceOf sl vl vu .none) (pl:IsPart vl lo) (pu:IsPart vu hi)
  (hw:¬(sIx items.size 0 lo=0/\sIx items.size items.size hi=items.size))
  (h:Q (.ref s.heap.objs.size) {s with heap:=s.heap.push {cls:= .type "tuple",data:= .seq ((items.toList.drop (sIx items.size 0 lo)).take (sIx items.size items.size hi-sIx items.size 0 lo)).toArray}})
  (g7:items.size<=sizeLine):wpAny (model prog w) A (getItem (.ref t) (.ref sl)) Q E s:=by
 have ec:sizeOk (.seq ((items.toList.drop (sIx items.size 0 lo)).take (sIx items.size items.size hi-sIx items.size 0 lo)).toArray):=by
  show ((items.toList.drop (sIx items.size 0 lo)).take (sIx items.size items.size hi-sIx items.size 0 lo)).toArray.size<=sizeLine;rw[rA,sL,uN,uv];omega
 have hj:sIx items.size items.size hi<=items.size:=zm5 _ _ (rj _) hi;obtain⟨os,gK,jz,ip⟩:=id hs;have kI:s.TypeIs (.ref sl) "slice":=⟨os,gK,jz⟩;unfold getItem
 try with_reducible refine wpAny_holding ?_
 first|refine wpAny_bind (wpAny_pure ?_)|skip
 refine wpAny_bind (wpAny_sequenceKey ht.typeIs ∅ ?_)
 refine wpAny_bind (wpAny_callSpecial?_slot (name:=Str.ofString "__getitem__") ht.typeIs sf
  (wpAny_call_entry sf ht.typeIs entry_tuple_getitem ?_ (args_tuple_getitem _ _)))
 show wpAny _ _ (Builtin.Tuple.tupleItemsOf (.ref t)>>=_) _ _ s;refine wpAny_bind (tupleItemsOf_ ht ?_);refine wpAny_bind (wpAny_typeOf kI ?_);rw[if_pos ∅];refine wpAny_bind (Wl hs pl pu ?_);have pA:¬((((sIx items.size 0 lo:Nat):Int)==0&&(1:Int)==1&&(sIx items.size items.size hi-sIx items.size 0 lo)==items.size)=true):=by
  intro q;rw[rT,rT] at q;have q1:((sIx items.size 0 lo:Nat):Int)=0:=eq_of_beq q.1.1;have q2:sIx items.size items.size hi-sIx items.size 0 lo=items.size:=eq_of_beq q.2;exact hw ⟨⋯,⋯⟩
 show wpAny _ _ (if (((sIx items.size 0 lo:Nat):Int)==0&&(1:Int)==1&&(sIx items.size items.size hi-sIx items.size 0 lo)==items.size)=true then _ else _) _ _ s;rw[if_neg pA,zi3]
 first
  |exact wpAny_bind (m:=Builtin.Tuple.tupleExact _) (wpAny_newObj_type (wpAny_pure ⟨_,rfl,wpAny_pure h⟩) ec)
  |exact wpAny_bind (m:=Builtin.Tuple.tupleExact _) (wpAny_newObj_type (wpAny_bind (wpAny_pure (wpAny_pure ⟨_,rfl,wpAny_pure h⟩))) ec)
  |exact wpAny_bind (wpAny_bind (m:=Builtin.Tuple.tupleExact _) (wpAny_newObj_type (wpAny_pure (wpAny_pure ⟨_,rfl,wpAny_pure h⟩)) ec))
  |exact wpAny_bind (wpAny_bind (m:=Builtin.Tuple.tupleExact _) (wpAny_newObj_type (wpAny_pure ⟨_,rfl,wpAny_pure h⟩) ec))
end
end HT
namespace L2
open PySem PySem.Spec PyProof.Rows
abbrev TO:=St->Hp->(Option Int->Hp->Prop)->Prop
def PO (X:Cx) (e:Option Expr) (t:TO):Prop:=
 ∀(pins:List (Addr×Obj)) (s:Shared) (σ:St) (H:Hp) (Q:Option Int->Hp->Prop),Inv X pins σ H s->t σ H Q->
  wpAny (model X.prog X.w) X.A (evalPart e X.env) (λu s'=>∃o H',Inv X pins σ H' s'/\IsPart u o/\Q o H') X.xe s
def zgY:TO:=λ_ H Q=>Q none H
def zmi (t:TE):TO:=λσ H Q=>t σ H λx H1=>∃i,x= .int i/\Q (some i) H1
section
variable {X:Cx} {e:Expr} {te:TE} {lo hi:Option Expr} {tl th:TO} {pos p2:Pos}
theorem ZC:PO X none zgY:=by
 intro pins s σ H Q I h;rw[evalPart_none];exact wpAny_pure ⟨none,H,I,.none,h⟩
theorem ZD (h:PE X e te):PO X (some e) (zmi te):=by
 intro pins s σ H Q I hw;rw[evalPart_some];refine thn (h pins s σ H _ I hw) ?_;rintro u s1 ⟨x,H1,I1,r1,q1⟩;obtain⟨i,rfl,q⟩:=q1;obtain⟨t,rfl⟩:=r1;exact⟨some i,H1,I1,.int i t,q⟩
def SlR (X:Cx) (r:V->Option Int->Option Int->Hp->VK->Prop):Prop:=
 ∀(pins:List (Addr×Obj)) (s:Shared) (σ:St) (H:Hp) (x:V) (v vl vu:Value) (lo hi:Option Int) (sl:Addr) (Q:VK),Inv X pins σ H s->yr x v->s.heap.IsSliceOf sl vl vu .none->IsPart vl lo->IsPart vu hi->r x lo hi H Q->
  ∃T id,typeLookup (.type T) "__getitem__"=pure (some (.builtin id))/\s.TypeIs v T/\wpAny (model X.prog X.w) X.A (getItem v (.ref sl)) (EP X pins σ Q) X.xe s
def tSl (r:V->Option Int->Option Int->Hp->VK->Prop) (te:TE) (tl th:TO):TE:=λσ H Q=>te σ H λx H1=>tl σ H1 λl H2=>th σ H2 λu H3=>r x l u H3 Q
theorem wR {r:V->Option Int->Option Int->Hp->VK->Prop} (hr:SlR X r) (he:PE X e te) (hl:PO X lo tl) (hu:PO X hi th):PE X (.Subscript e (.Slice lo hi none p2) pos) (tSl r te tl th):=by
 intro pins s σ H Q I h;refine Subscript_ (thn (he pins s σ H _ I h) ?_);rintro v s1 ⟨x,H1,I1,r1,q1⟩;refine wpAny_Slice (thn (hl pins s1 σ H1 _ I1 q1) ?_);rintro vl s2 ⟨l,H2,I2,pl,q2⟩;refine thn (hu pins s2 σ H2 _ I2 q2) ?_;rintro vu s3 ⟨u,H3,I3,pu,q3⟩;rw[evalPart_none];refine wpAny_pure ?_;have I4:Inv X pins σ H3 {s3 with heap:=s3.heap.push {cls:= .type "slice",data:= .fields #[vl,vu,.none]}}:=I3.kept (t':=s3.toks) λb ob q=>Heap.get?_push_of_some _ q;obtain⟨T,id,hT,ht,hg⟩:=hr pins {s3 with heap:=s3.heap.push {cls:= .type "slice",data:= .fields #[vl,vu,.none]}} σ H3 x v vl vu l u s3.heap.objs.size Q I4 r1 (Heap.IsSliceOf.new ..) pl pu q3;show wpAny (model X.prog X.w) X.A (subscriptTail e (.Slice lo hi none p2) v (.ref s3.heap.objs.size)) (EP X pins σ Q) X.xe {s3 with heap:=s3.heap.push {cls:= .type "slice",data:= .fields #[vl,vu,.none]}};exact tail_any (ops:=[.ref s3.heap.objs.size,v]) ht hT hg (by with_unfolding_all rfl)
noncomputable def zcp (xs:List V) (lo hi:Option Int):List V:=(xs.drop (HT.sIx xs.length 0 lo)).take (HT.sIx xs.length xs.length hi-HT.sIx xs.length 0 lo)
theorem zaU (xs:List V) (lo hi:Option Int):(zcp xs lo hi).length<=xs.length:=by
 unfold zcp;rw[sL,uN];omega
def zpQ (K:r6):V->Option Int->Option Int->Hp->VK->Prop:=λx lo hi H Q=>∃a xs,x= .ref a/\SqT K H a xs/\
 ¬(HT.sIx xs.length 0 lo=0/\HT.sIx xs.length xs.length hi=xs.length)/\∀p,H p=none->Q (.ref p) (upd H p (.tup (zcp xs lo hi)))
theorem zm6:SlR X (zpQ X.K):=by
 intro pins s σ H x v vl vu lo hi sl Q I rx hs pl pu h;obtain⟨a,xs,rfl,hx,hw,q⟩:=h;cases rx;obtain⟨af,r,ht,hz⟩:=I.tuple hx;have hlen:af.toArray.size=xs.length:=by rw[rA];exact r.length.symm
 refine⟨"tuple",_,sf.lookup,ht.typeIs,?_⟩;refine HT.Tf ht hs pl pu (by rw[hlen];exact hw) ?_ (by rw[hlen];exact hz);rw[hlen];refine⟨.ref s.heap.objs.size,_,I.laid (t':=s.toks) (o:= .tup (zcp xs lo hi)) (λb ob q=>Heap.get?_push_of_some _ q) (rj _) ?_,rfl,q _ (I.hok.fresh (rj _))⟩;exact⟨si (zaU xs lo hi) hz,_,(r.drop (HT.sIx xs.length 0 lo)).take (HT.sIx xs.length xs.length hi-HT.sIx xs.length 0 lo),XI.new _ _⟩
def zoL (K:r6):R2:=λx y H Q=>∃a b xs ys,x= .ref a/\y= .ref b/\SqT K H a xs/\SqT K H b ys/\xs≠[]/\xs.length+ys.length<=sizeLine/\
 (ys=[]->Q (.ref a) H)/\(ys≠[]->∀p,H p=none->Q (.ref p) (upd H p (.tup (xs++ys))))
theorem yf.nil_iff {xs:List V} {us:List Value} (r:yf xs us):us=[]↔xs=[]:=by
 cases r with
 |nil=>simp
 |cons _ _=>simp
theorem zk0:OpR X (binaryOp .Add) (zoL X.K):=by
 intro pins s σ H x y v u Q I rx ry h;obtain⟨a,b,xs,ys,rfl,rfl,ha,hb,hx,hz,q1,q2⟩:=h;cases rx;cases ry;obtain⟨af,r1,p1,_⟩:=I.tuple ha;obtain⟨bP,r2,p2,_⟩:=I.tuple hb;refine HT.zkY p1 p2 (λz=>hx (r1.nil_iff.mp z)) (λz=>⟨.ref a,H,I,rfl,q1 (r2.nil_iff.mp z)⟩) (λz=> ?_) (by rw[<-r1.length,<-r2.length];exact hz);refine⟨.ref s.heap.objs.size,_,I.laid (t':=s.toks) (o:= .tup (xs++ys)) (λb ob q=>Heap.get?_push_of_some _ q) (rj _) ?_,rfl,q2 (λw=>z (r2.nil_iff.mpr w)) _ (I.hok.fresh (rj _))⟩;exact⟨by rw[rk];exact hz,_,r1.append r2,XI.new _ _⟩
end
noncomputable def ixN (n:Nat) (i:Int):Option Nat:=if 0<=i then (if i<n then some i.toNat else none) else if -(n:Int)<=i then some (i+n).toNat else none
noncomputable def atI {α:Type} (xs:List α) (i:Int):Option α:=(ixN xs.length i).bind λj=>xs[j]?
theorem zgZ {n:Nat} {i:Int} {j:Nat} (h:ixN n i=some j):seqIndex? i n=some j/\j<n/\ -(n:Int)<=i/\i<n:=by
 unfold ixN at h;by_cases h0:0<=i
 .rw[if_pos h0] at h;by_cases h1:i<n
  .rw[if_pos h1] at h;have e:i.toNat=j:=su h;exact⟨by rw[seqIndex_of h0 h1,e],⋯,⋯,h1⟩
  .rw[if_neg h1] at h;cases h
 .rw[if_neg h0] at h;by_cases h1: -(n:Int)<=i
  .rw[if_pos h1] at h;have e:(i+n).toNat=j:=su h;exact⟨by rw[seqIndex_neg ⋯ h1,e],⋯,h1,⋯⟩
  .rw[if_neg h1] at h;cases h
theorem zdB {α:Type} {xs:List α} {i:Int} {v:α} (h:atI xs i=some v):∃j,seqIndex? i xs.length=some j/\xs[j]? =some v/\j<xs.length/\ -(xs.length:Int)<=i/\i<xs.length:=by
 unfold atI at h;cases e:ixN xs.length i with
 |none=>rw[e] at h;cases h
 |some j=>
  rw[e] at h;obtain⟨h1,h2,h3,h4⟩:=zgZ e;exact⟨j,h1,h,h2,h3,h4⟩
def zk1 (b:Expr):Prop:=∀o i,subscripted b false o i=operate [o,i] (getItem o i)
def IxR (X:Cx) (r:R2):Prop:=
 ∀(value slice:Expr) (pins:List (Addr×Obj)) (s:Shared) (σ:St) (H:Hp) (x y:V) (v u:Value) (Q:VK),Inv X pins σ H s->yr x v->yr y u->r x y H Q->
  subscripted slice false v u=operate [v,u] (getItem v u)->wpAny (model X.prog X.w) X.A (subscriptTail value slice v u) (EP X pins σ Q) X.xe s
def MtR (X:Cx) (id:String) (r:V->List V->Hp->VK->Prop):Prop:=
 ∀(pins:List (Addr×Obj)) (s:Shared) (σ:St) (H:Hp) (x:V) (xs:List V) (v:Value) (us:List Value) (Q:VK),Inv X pins σ H s->yr x v->yf xs us->r x xs H Q->
  wpAny (model X.prog X.w) X.A (call (.builtin id) (v::us)) (EP X pins σ Q) X.xe s
section
variable {X:Cx} {a b:Expr} {ta tb:TE} {pos:Pos}
theorem zoM {r:R2} (hr:IxR X r) (ha:PE X a ta) (hb:PE X b tb) (hs:zk1 b):PE X (.Subscript a b pos) (tOp r ta tb):=by
 intro pins s σ H Q I h;exact Subscript_ (zm0 ha hb I h λv u s2 x y H2 I2 rx ry q=>hr a b pins s2 σ H2 x y v u Q I2 rx ry q (hs _ _))
def zm7 (K:r6):R2:=λx y H Q=>∃p xs i v,x= .ref p/\y= .int i/\SqL K H p xs/\atI xs i=some v/\Q v H
def zm8 (K:r6):R2:=λx y H Q=>∃p xs i v,x= .ref p/\y= .int i/\SqT K H p xs/\atI xs i=some v/\Q v H
def zoN:R2:=λx y H Q=>∃z i c,x= .str z/\y= .int i/\z.length<=sizeLine/\atI z.cps.toList i=some c/\Q (.str ⟨#[c]⟩) H
theorem zk2:IxR X (zm7 X.K):=by
 intro value slice pins s σ H x y v u Q I rx ry h hs;obtain⟨p,xs,i,z,rfl,rfl,hq,he,q⟩:=h;cases rx;obtain⟨t,rfl⟩:=ry;obtain⟨af,r,pl,hz⟩:=I.list hq;obtain⟨j,h1,h2,h3,h4,h5⟩:=zdB he;obtain⟨w,ew,rw'⟩:=r.get h2;have hl:=r.length;have hn:=zao;have fin:EP X pins σ Q w s:=⟨z,H,I,rw',q⟩;by_cases h0:0<=i
 .have hj:i.toNat=j:=by
   rw[seqIndex_of h0 h5] at h1;exact su h1
  exact item_listR pl.isList h0 ⋯ (by rw[hj];simpa using ew) fin hs
 .have hj:(i+(af.toArray.size:Int)).toNat=j:=by
   rw[seqIndex_neg ⋯ h4] at h1;rw[rA,<-hl];exact su h1
  exact subscriptTail_builtinR (x:=w) pl.isList.typeIs slot_list_getitem.lookup
   (wpAny_getItem_list_neg (Q:=λr s'=>r=w/\EP X pins σ Q r s') pl.isList ⋯ (by rw[rA]<;>omega) ⋯ (by rw[hj];simpa using ew) ⟨rfl,fin⟩) hs
theorem zm9:IxR X (zm8 X.K):=by
 intro value slice pins s σ H x y v u Q I rx ry h hs;obtain⟨p,xs,i,z,rfl,rfl,hq,he,q⟩:=h;cases rx;obtain⟨t,rfl⟩:=ry;obtain⟨af,r,pl,hz⟩:=I.tuple hq;obtain⟨j,h1,h2,h3,h4,h5⟩:=zdB he;obtain⟨w,ew,rw'⟩:=r.get h2;have hl:=r.length;have hn:=zao;have fin:EP X pins σ Q w s:=⟨z,H,I,rw',q⟩;exact subscriptTail_builtinR (x:=w) pl.typeIs slot_tuple_getitem.lookup
  (getItem_tuple (j:=j) (Q:=λr s'=>r=w/\EP X pins σ Q r s') pl ⋯ ⋯ (by rw[rA,<-hl];exact h1) (by simpa using ew) ⟨rfl,fin⟩) hs
theorem zdC:IxR X zoN:=by
 intro value slice pins s σ H x y v u Q I rx ry h hs;obtain⟨z,i,c,rfl,rfl,hz,he,q⟩:=h;obtain⟨t,rfl⟩:=rx;obtain⟨t',rfl⟩:=ry;obtain⟨j,h1,h2,h3,h4,h5⟩:=zdB he;have hl:z.cps.toList.length=z.length:=by simp[Str.length]
 rw[hl] at h1 h4 h5;have hn:=zao
 exact tail_any (typeIs_str s z t) slot_str_getitem.lookup (getItem_str (c:=c) (by
  have e1:decide (i< -(2^63:Int))=false:=decide_eq_false ⋯;have e2:decide (i≥2^63)=false:=decide_eq_false ⋯
  rw[e1,e2,Bb]) (by rw[h1];simpa using h2) ⟨.str ⟨#[c]⟩,H,I.tok _,⟨_,rfl⟩,q⟩) hs
theorem zf1 (af:List Value) (n j:Nat) (u:Value):Obj.mapSeq (·.setIfInBounds j u) {cls:= .type "list",data:= .seq af.toArray n}={cls:= .type "list",data:= .seq (af.set j u).toArray n}:=by
 simp[Obj.mapSeq]
theorem Inv.lst {pins:List (Addr×Obj)} {σ:St} {H:Hp} {s:Shared} {p:Addr} {xs:List V} (I:Inv X pins σ H s) (h:H p=some (.lst xs)):
  ∃(af:List Value) (n:Nat),yf xs af/\s.heap.get? p=some {cls:= .type "list",data:= .seq af.toArray n}/\xs.length<=sizeLine:=by
 obtain⟨z,af,n,r,e⟩:=I.hok p _ h;exact⟨af,n,r,e,z⟩
theorem Inv.lstUpd {pins:List (Addr×Obj)} {σ:St} {H:Hp} {s:Shared} {p:Addr} {xs ys:List V} {af its':List Value} {n n':Nat} {f:Obj->Obj} (I:Inv X pins σ H s) (h:H p=some (.lst xs))
  (ho:s.heap.get? p=some {cls:= .type "list",data:= .seq af.toArray n}) (hf:f {cls:= .type "list",data:= .seq af.toArray n}={cls:= .type "list",data:= .seq its'.toArray n'}) (r:yf ys its') (hz:ys.length<=sizeLine) (t:Nat):
  Inv X pins σ (upd H p (.lst ys)) {s with heap:=s.heap.update p f,toks:=t}:=by
 have e:(s.heap.update p f).get? p=some {cls:= .type "list",data:= .seq its'.toArray n'}:=by
  rw[Heap.get?_update_self f ho (by rw[hf]<;>rfl),hf]
 refine I.write (x:=p) (e:=p) (by rw[h];trivial) (.inl rfl) (λb u hb q=>(Heap.get?_update_other _ _ (tf hb)).trans q) ⟨_,e⟩ ?_;exact⟨hz,its',n',r,e⟩
def zmj:V->V->V->Hp->(Hp->Prop)->Prop:=λo i v H Q=>∃p xs k j,o= .ref p/\i= .int k/\H p=some (.lst xs)/\ixN xs.length k=some j/\Q (upd H p (.lst (xs.set j v)))
theorem zbu:zoz X zmj:=by
 intro pins s σ H o i v ov iv u Q I ro ri rv h;obtain⟨p,xs,k,j,rfl,rfl,hp,hj,q⟩:=h;cases ro;obtain⟨t,rfl⟩:=ri;obtain⟨af,n,r,ho,hz⟩:=I.lst hp;obtain⟨h1,h2,h3,h4⟩:=zgZ hj;have hl:=r.length;have hn:=zao;have I':Inv X pins σ (upd H p (.lst (xs.set j v))) {s with heap:=s.heap.update p (Obj.mapSeq (·.setIfInBounds j u))}:=
  I.lstUpd hp ho (zf1 af n j u) (r.set rv j) (by rw[t7];exact hz) s.toks
 by_cases h0:0<=k
 .have hk:k.toNat=j:=by
   rw[seqIndex_of h0 h4] at h1;exact su h1
  exact PySem.W.ki_setAt ho h0 ⋯ (by rw[rA,<-hl];exact h4) (by rw[hk];exact⟨_,I',q⟩)
 .have hk:(k+(af.toArray.size:Int)).toNat=j:=by
   rw[seqIndex_neg ⋯ h3] at h1;rw[rA,<-hl];exact su h1
  exact PySem.W.ki_setBack ho ⋯ (by rw[rA,<-hl];exact h3) ⋯ (by rw[hk];exact⟨_,I',q⟩)
theorem zdD (lo hi:Option Int) (n:Nat):(sliceBounds lo hi none n).1=((HT.sIx n 0 lo:Nat):Int)/\(sliceBounds lo hi none n).2.1=((HT.sIx n n hi:Nat):Int)/\(sliceBounds lo hi none n).2.2=1:=by
 refine⟨?_,?_,rfl⟩
 .cases lo with
  |none=>simp[sliceBounds,HT.sIx]
  |some i=>
   simp only[sliceBounds,HT.sIx,AJ,show (1:Int)>0 by decide,if_true];by_cases h:i<0
   .simp only[h,if_true]<;>omega
   .simp only[h,if_false]<;>omega
 .cases hi with
  |none=>simp[sliceBounds,HT.sIx]
  |some i=>
   simp only[sliceBounds,HT.sIx,AJ,show (1:Int)>0 by decide,if_true];by_cases h:i<0
   .simp only[h,if_true]<;>omega
   .simp only[h,if_false]<;>omega
theorem zcq (af:List Value) (lo hi:Option Int):slicePick af.toArray lo hi none=((af.drop (HT.sIx af.length 0 lo)).take (HT.sIx af.length af.length hi-HT.sIx af.length 0 lo)).toArray:=by
 obtain⟨h1,h2,h3⟩:=zdD lo hi af.toArray.size;unfold slicePick;rw[h1,h2,h3];simp only[sliceRange_one,pick_run,rA]<;>rfl
def zi4 (K:r6):V->Option Int->Option Int->Hp->VK->Prop:=λx lo hi H Q=>∃a xs,x= .ref a/\SqL K H a xs/\∀p,H p=none->Q (.ref p) (upd H p (.lst (zcp xs lo hi)))
theorem zk3:SlR X (zi4 X.K):=by
 intro pins s σ H x v vl vu lo hi sl Q I rx hs pl pu h;obtain⟨a,xs,rfl,hx,q⟩:=h;cases rx;obtain⟨af,r,ht,hz⟩:=I.list hx;have hlen:=r.length;refine⟨"list",_,slot_list_getitem.lookup,ht.isList.typeIs,?_⟩;refine wpAny_getItem_list_slice ht.isList hs pl pu .none (by simp) ?_ (by rw[rA]<;>omega);rw[zcq,<-hlen];refine⟨.ref s.heap.objs.size,_,I.laid (t':=s.toks) (o:= .lst (zcp xs lo hi)) (λb ob q=>Heap.get?_push_of_some _ q) (rj _) ?_,rfl,q _ (I.hok.fresh (rj _))⟩;exact⟨si (zaU xs lo hi) hz,_,0,(r.drop (HT.sIx xs.length 0 lo)).take (HT.sIx xs.length xs.length hi-HT.sIx xs.length 0 lo),Heap.get?_push_size _ rfl⟩
noncomputable def Uw:V->Bool
 | .non=>true
 | .bl _=>true
 | .int _=>true
 | .str _=>true
 |_=>false
noncomputable def eqV:V->V->Bool
 | .non,.non=>true
 | .bl a,.bl b=>a==b
 | .bl a,.int b=>(if a then 1 else 0)==b
 | .int a,.bl b=>a==(if b then 1 else 0)
 | .int a,.int b=>a==b
 | .str a,.str b=>a==b
 |_,_=>false
theorem zna {A:Around} {s:Shared} {y x:V} {u v:Value} (ry:yr y u) (rx:yr x v) (fy:Uw y=true) (fx:Uw x=true):SeqAt.EqAt A s u v (eqV y x):=by
 cases y with
 |non=>
  cases ry;cases x with
  |non=>cases rx;exact SeqAt.EqAt.same _
  |bl b=>cases rx;exact SeqAt.EqAt.none_bool b
  |int b=>obtain⟨t,rfl⟩:=rx;exact SeqAt.EqAt.none_int b t
  |str b=>obtain⟨t,rfl⟩:=rx;exact SeqAt.EqAt.none_str b t
  |_=>exact absurd (show false=true from fx) rJ
 |bl a=>
  cases ry;cases x with
  |non=>cases rx;exact SeqAt.EqAt.bool_none a
  |bl b=>cases rx;exact SeqAt.EqAt.bool_bool a b
  |int b=>obtain⟨t,rfl⟩:=rx;exact SeqAt.EqAt.bool_int a b t
  |str b=>obtain⟨t,rfl⟩:=rx;exact SeqAt.EqAt.bool_str a b t
  |_=>exact absurd (show false=true from fx) rJ
 |int a=>
  obtain⟨t',rfl⟩:=ry;cases x with
  |non=>cases rx;exact SeqAt.EqAt.int_none a t'
  |bl b=>cases rx;exact SeqAt.EqAt.int_bool a t' b
  |int b=>obtain⟨t,rfl⟩:=rx;exact SeqAt.EqAt.int_int a t' b t
  |str b=>obtain⟨t,rfl⟩:=rx;exact SeqAt.EqAt.int_str a t' b t
  |_=>exact absurd (show false=true from fx) rJ
 |str a=>
  obtain⟨t',rfl⟩:=ry;cases x with
  |non=>cases rx;exact SeqAt.EqAt.str_none a t'
  |bl b=>cases rx;exact SeqAt.EqAt.str_bool a t' b
  |int b=>obtain⟨t,rfl⟩:=rx;exact SeqAt.EqAt.str_int a t' b t
  |str b=>obtain⟨t,rfl⟩:=rx;exact SeqAt.EqAt.str_str a t' b t
  |_=>exact absurd (show false=true from fx) rJ
 |_=>exact absurd (show false=true from fy) rJ
noncomputable def eqU (x:V) (u:Value):Bool:=match u with
 | .none=>eqV .non x
 | .bool b=>eqV (.bl b) x
 | .int i _=>eqV (.int i) x
 | .str z _=>eqV (.str z) x
 |_=>false
theorem zi5 {x y:V} {u:Value} (r:yr y u) (f:Uw y=true):eqU x u=eqV y x:=by
 cases y with
 |non=>cases r;rfl
 |bl b=>cases r;rfl
 |int i=>obtain⟨t,rfl⟩:=r;rfl
 |str z=>obtain⟨t,rfl⟩:=r;rfl
 |_=>exact absurd (show false=true from f) rJ
theorem Tg {x:V}:∀{xs:List V} {us:List Value},yf xs us->xs.all Uw=true->us.any (eqU x)=xs.any λy=>eqV y x
 |_,_,.nil,_=>rfl
 |y::xs,u::us,.cons r t,f=>by
  rw[tH,rT] at f;rw[w6,w6,zi5 r f.1,Tg t f.2]
theorem VA {A:Around} {s:Shared} {x:V} {v:Value} (rx:yr x v) (fx:Uw x=true):∀{xs:List V} {us:List Value},yf xs us->xs.all Uw=true->∀u∈us,SeqAt.EqAt A s u v (eqU x u)
 |_,_,.nil,_=>λu hu=>by cases hu
 |y::xs,u::us,.cons r t,f=>λu' hu=>by
  rw[tH,rT] at f;rcases rX.mp hu with rfl|hu
  .rw[zi5 r f.1];exact zna r rx f.1 fx
  .exact VA rx fx t f.2 u' hu
noncomputable def inV (x:V) (xs:List V):Bool:=xs.any λy=>eqV y x
def rIn (K:r6) (neg:Bool):R2:=λx y H Q=>∃p xs,y= .ref p/\(SqL K H p xs\/SqT K H p xs)/\Uw x=true/\xs.all Uw=true/\Q (.bl (if neg then !inV x xs else inV x xs)) H
theorem zh4:OpR X (compareOp .In) (rIn X.K false):=by
 intro pins s σ H x y v u Q I rx ry h;obtain⟨p,xs,rfl,hq,fx,fs,q⟩:=h;cases ry;rcases hq with hq|hq
 .obtain⟨af,r,pl,hz⟩:=I.list hq;refine SeqAt.in_listAt (eqU x) pl.isList (λw hw=>VA rx fx r fs w (by simpa using hw)) ⟨.bl _,H,I,rfl,?_⟩;rw[show af.toArray.any (eqU x)=af.any (eqU x) by simp,Tg r fs];exact q
 .obtain⟨af,r,pl,hz⟩:=I.tuple hq;refine SeqAt.in_tupleAt (eqU x) pl (λw hw=>VA rx fx r fs w (by simpa using hw)) ⟨.bl _,H,I,rfl,?_⟩;rw[show af.toArray.any (eqU x)=af.any (eqU x) by simp,Tg r fs];exact q
theorem zdE:OpR X (compareOp .NotIn) (rIn X.K true):=by
 intro pins s σ H x y v u Q I rx ry h;obtain⟨p,xs,rfl,hq,fx,fs,q⟩:=h;cases ry;rcases hq with hq|hq
 .obtain⟨af,r,pl,hz⟩:=I.list hq;refine SeqAt.notIn_listAt (eqU x) pl.isList (λw hw=>VA rx fx r fs w (by simpa using hw)) ⟨.bl _,H,I,rfl,?_⟩;rw[show af.toArray.any (eqU x)=af.any (eqU x) by simp,Tg r fs];exact q
 .obtain⟨af,r,pl,hz⟩:=I.tuple hq;refine SeqAt.notIn_tupleAt (eqU x) pl (λw hw=>VA rx fx r fs w (by simpa using hw)) ⟨.bl _,H,I,rfl,?_⟩;rw[show af.toArray.any (eqU x)=af.any (eqU x) by simp,Tg r fs];exact q
theorem zdF:vC X (.builtin "len") (λxs H Q=>∃p ys,xs=[.ref p]/\(SqL X.K H p ys\/SqT X.K H p ys)/\Q (.int ys.length) H):=by
 intro pins s σ H xs us Q I r h;obtain⟨p,ys,rfl,hq,q⟩:=h;obtain⟨u,rfl,rx⟩:=Xr r;cases rx;have hn:=zao;rcases hq with hq|hq
 .obtain⟨af,r',pl,hz⟩:=I.list hq;have hlen:=r'.length;exact Calls.call_len_list pl.isList (by simp only[rA]<;>omega) ⟨.int ys.length,H,I.tok _,⟨s.toks+1,by rw[rA,hlen]⟩,q⟩
 .obtain⟨af,r',pl,hz⟩:=I.tuple hq;have hlen:=r'.length;exact len_tuple pl (by simp only[rA]<;>omega) ⟨.int ys.length,H,I.tok _,⟨s.toks+1,by rw[rA,hlen]⟩,q⟩
theorem YA:vC X (.builtin "len") (λxs H Q=>∃z,xs=[.str z]/\z.length<=sizeLine/\Q (.int z.length) H):=by
 intro pins s σ H xs us Q I r h;obtain⟨z,rfl,hz,q⟩:=h;obtain⟨u,rfl,t,rfl⟩:=Xr r;have hn:=zao;exact len_str ⋯ ⟨.int z.length,H,I.tok _,⟨_,rfl⟩,q⟩
theorem zdG:vC X (.type "list") (λxs H Q=>∃p ys,xs=[.ref p]/\(SqL X.K H p ys\/SqT X.K H p ys)/\∀l,H l=none->Q (.ref l) (upd H l (.lst ys))):=by
 intro pins s σ H xs us Q I r h;obtain⟨p,ys,rfl,hq,q⟩:=h;obtain⟨u,rfl,rx⟩:=Xr r;cases rx;have fin:∀(af:List Value),yf ys af->ys.length<=sizeLine->∀(h':Heap) (c':Nat),(∀b o',s.heap.get? b=some o'->h'.get? b=some o')->
   h'.get? s.heap.objs.size=some {cls:= .type "list",dict:=none,data:= .seq af.toArray c',slots:= #[]}->EP X pins σ Q (.ref s.heap.objs.size) {s with heap:=h'}:=λaf r' hz h' c' kp e=>
  ⟨.ref s.heap.objs.size,_,I.laid (t':=s.toks) kp (rj _) (show xB X.prog X.w _ h' _ (.lst ys) from ⟨hz,af,c',r',e⟩),rfl,q _ (I.hok.fresh (rj _))⟩
 rcases hq with hq|hq
 .obtain⟨af,r',pl,hz⟩:=I.list hq;have hlen:=r'.length;obtain⟨o,ho,hc,n,hd⟩:=pl.isList;exact call_list_seq p (.inl rfl) ho hc hd (λh' c' kp e=>fin af r' hz h' c' kp e) (by simp only[rA]<;>omega)
 .obtain⟨af,r',pl,hz⟩:=I.tuple hq;have hlen:=r'.length;obtain⟨o,ho,hc,n,hd⟩:=pl;exact call_list_seq p (.inr rfl) ho hc hd (λh' c' kp e=>fin af r' hz h' c' kp e) (by simp only[rA]<;>omega)
theorem zcr:vC X (.type "tuple") (λxs H Q=>∃p ys,xs=[.ref p]/\((SqL X.K H p ys/\∀l,H l=none->Q (.ref l) (upd H l (.tup ys)))\/(SqT X.K H p ys/\Q (.ref p) H))):=by
 intro pins s σ H xs us Q I r h;obtain⟨p,ys,rfl,h⟩:=h;obtain⟨u,rfl,rx⟩:=Xr r;cases rx;rcases h with⟨hq,q⟩|⟨hq,q⟩
 .obtain⟨af,r',pl,hz⟩:=I.list hq;have hlen:=r'.length;refine call_tuple_list pl.isList (λh' kp=> ?_) (by simp only[rA]<;>omega);have I1:Inv X pins σ H {s with heap:=h'}:=I.kept (t':=s.toks) kp;have I2:Inv X pins σ (upd H h'.objs.size (.tup ys)) {s with heap:=h'.push {cls:= .type "tuple",data:= .seq af.toArray}}:=
   I1.laid (t':=s.toks) (λb o e=>Heap.get?_push_of_some _ e) (rj _) (show xB X.prog X.w _ _ _ (.tup ys) from ⟨hz,af,r',XI.new _ _⟩)
  exact⟨.ref h'.objs.size,_,I2,rfl,q _ (I1.hok.fresh (rj _))⟩
 .obtain⟨af,r',pl,hz⟩:=I.tuple hq;exact call_tuple_same pl ⟨.ref p,H,I,rfl,q⟩
def tyV (K:r6) (T:String) (x:V) (H:Hp):Prop:=match x with
 | .str _=>T="str"
 | .int _=>T="int"
 | .ref p=>(T="list"/\∃xs,SqL K H p xs)\/(T="tuple"/\∃o,K.lookup p=some o/\o.cls= .type "tuple"/\o.dict=none)\/
   (T="dict"/\((∃aj,Rd H p (.dK aj))\/∃aj,H p=some (.dT aj)))\/(T="set"/\∃S n,H p=some (.set S n))
 |_=>False
theorem zi6 {pins:List (Addr×Obj)} {σ:St} {H:Hp} {s:Shared} {T:String} {x:V} {v:Value} (I:Inv X pins σ H s) (r:yr x v) (ty:tyV X.K T x H):
  s.TypeIs v T/\∀a,v= .ref a->∃ob,s.heap.get? a=some ob/\ob.dict=none:=by
 cases x with
 |str z=>
  obtain⟨t,rfl⟩:=r;cases (show T="str" from ty);exact⟨typeIs_str s z t,λ_ e=>nomatch e⟩
 |int i=>
  obtain⟨t,rfl⟩:=r;cases (show T="int" from ty);exact⟨typeIs_int s i t,λ_ e=>nomatch e⟩
 |ref p=>
  cases r;rcases ty with⟨rfl,xs,hq⟩|⟨rfl,o,hk,hc,hd⟩|⟨rfl,hk⟩|⟨rfl,S,n,hk⟩
  .obtain⟨af,_,pl,_⟩:=I.list hq;refine⟨pl.isList.typeIs,λa e=> ?_⟩;cases e;obtain⟨o,n,e,c,hd,_⟩:=pl;exact⟨o,e,hd⟩
  .refine⟨⟨o,I.kIn p o hk,hc⟩,λa e=> ?_⟩;cases e;exact⟨o,I.kIn _ o hk,hd⟩
  .have z:∃o,s.heap.get? p=some o/\o.ExactDict:=by
    rcases hk with⟨aj,hk⟩|⟨aj,hk⟩
    .obtain⟨_,_,_,_,o,_,_,e,ex,_⟩:=hk.ok I.hok;exact⟨o,e,ex⟩
    .obtain⟨_,_,_,_,o,_,_,e,ex,_⟩:=I.hok p _ hk;exact⟨o,e,ex⟩
   obtain⟨o,e,ex⟩:=z;refine⟨⟨o,e,ex.1⟩,λa e2=> ?_⟩;cases e2;exact⟨o,e,ex.2.1⟩
  .obtain⟨o,_,_,_,e,ex,_⟩:=I.hok p _ hk;refine⟨⟨o,e,ex.1⟩,λa e2=> ?_⟩;cases e2;exact⟨o,e,ex.2.1⟩
 |_=>exact tF ty
def zoO (K:r6) (T:String) (r:V->List V->Hp->VK->Prop) (to:TE):TE:=λσ H Q=>to σ H λx H1=>tyV K T x H1/\r x [] H1 Q
def tBM (K:r6) (T:String) (r:V->List V->Hp->VK->Prop) (to:TE) (t:TA):TE:=λσ H Q=>to σ H λx H1=>tyV K T x H1/\t σ H1 λxs H2=>r x xs H2 Q
variable {o e:Expr} {es:List Expr} {to:TE} {t:TA} {name:Str} {apos cH:Pos} {T id:String} {r:V->List V->Hp->VK->Prop}
theorem znb (pa:PlainAttrs T) (slot:Slot T name id) (m8:typeOf (.builtin id)=pure (.type "method_descriptor")) (hm:MtR X id r) (ho:PE X o to)
  (hV:attributeBase o name X.env (eval o X.env)=eval o X.env:=by rfl) (hline:(apos.endLine==cH.line)=true:=by rfl):PE X (.Call (.Attribute o name apos) [] [] cH) (zoO X.K T r to):=by
 intro pins s σ H Q I h;refine wpAny_Call_method0_late hV hline (thn (ho pins s σ H _ I h) ?_);rintro v s1 ⟨x,H1,I1,r1,ty,q1⟩;obtain⟨h1,h2⟩:=zi6 I1 r1 ty;exact⟨T,id,pa,slot,m8,h1,h2,Calls.callWith_builtin rfl (PySem.evalArgs_none (hm pins s1 σ H1 x [] v [] Q I1 r1 .nil q1))⟩
theorem xW (pa:PlainAttrs T) (slot:Slot T name id) (m8:typeOf (.builtin id)=pure (.type "method_descriptor")) (hm:MtR X id r) (ho:PE X o to) (ha:PA X (e::es) t)
  (hV:attributeBase o name X.env (eval o X.env)=eval o X.env:=by rfl)
  (mK:((backTo cH (starEach (e::es) X.env)).all (λx=> !x.1)&&(backToKw cH (keywordEach [] X.env)).all (λx=>x.1.isSome)
   &&decide ((e::es).length+([]:List Keyword).length+(if ([]:List Keyword).isEmpty then 0 else 1)<30))=true:=by rfl)
  (hline:(apos.endLine==cH.line)=true:=by rfl) (hs:starEach (e::es) X.env=(false,eval e X.env)::starEach es X.env:=by rfl) (jo:(backTo cH (starEach es X.env)).any (·.1)=false:=by rfl):
  PE X (.Call (.Attribute o name apos) (e::es) [] cH) (tBM X.K T r to t):=by
 intro pins s σ H Q I h;refine wpAny_Call_method_late hV mK hline rfl (thn (ho pins s σ H _ I h) ?_);rintro v s1 ⟨x,H1,I1,r1,ty,q1⟩;obtain⟨h1,h2⟩:=zi6 I1 r1 ty;refine⟨T,id,pa,slot,m8,h1,h2,?_⟩;have hA:=ha cH pins s1 σ H1 _ I1 q1;rw[hs] at hA ⊢;refine Calls.callWith_builtin (by show (false||(backTo cH (starEach es X.env)).any (·.1))=false;rw[jo]<;>rfl) (Calls.evalArgs_plain ?_);refine thn hA ?_;rintro us s2 ⟨vs,H2,I2,r2,q2⟩;exact hm pins s2 σ H2 x vs v us Q I2 r1 r2 q2
/- xs.append(e), list.index on a module's tuple .. are MtR facts of 06m -/
end
def MtM (X:Cx) (id:String) (r:V->List V->Hp->VK->Prop):Prop:=
 ∀(pins:List (Addr×Obj)) (s:Shared) (σ:St) (H:Hp) (x:V) (xs:List V) (v:Value) (us:List Value) (Q:VK),Inv X pins σ H s->yr x v->yf xs us->r x xs H Q->
  wpAny (model X.prog X.w) X.A (call (.builtin id) (v::us)) (EP X pins σ Q) X.xe s
theorem yf.one:∀{x:V} {us:List Value},yf [x] us->∃u,us=[u]/\yr x u
 |_,_,.cons r .nil=>⟨_,rfl,r⟩
theorem yf.zero:∀{us:List Value},yf [] us->us=[]
 |_,.nil=>rfl
theorem yf.dropLast {xs:List V} {us:List Value} (h:yf xs us):yf xs.dropLast us.dropLast:=by
 induction h with
 |nil=>exact .nil
 |cons r t ih=>
  cases t with
  |nil=>exact .nil
  |cons q t'=>exact .cons r ih
theorem zf2 {α:Type} (l:List α):l.eraseIdx (l.length-1)=l.dropLast:=by
 induction l with
 |nil=>rfl
 |cons a r ih=>
  cases r with
  |nil=>rfl
  |cons b r=>
   have e:(a::b::r).length-1=((b::r).length-1)+1:=by
    have h1:(a::b::r).length=r.length+2:=rfl;have h2:(b::r).length=r.length+1:=rfl;omega
   rw[e,List.eraseIdx_cons_succ,ih]
   all_goals rfl
section
variable {X:Cx} {pins:List (Addr×Obj)} {σ:St} {H:Hp} {s:Shared} {l b:Addr} {xs ys zs:List V}
theorem Inv.lset {af its':List Value} {n:Nat} {f:Array Value->Array Value} {t':Nat} (I:Inv X pins σ H s) (hH:H l=some (.lst xs))
  (e:s.heap.get? l=some {cls:= .type "list",data:= .seq af.toArray n}) (hf:f af.toArray=its'.toArray) (hv:yf ys its') (hz:ys.length<=sizeLine):
  Inv X pins σ (upd H l (.lst ys)) {s with heap:=s.heap.update l (Obj.mapSeq f),toks:=t'}:=by
 have q:=PySem.IsL.update e f;rw[hf] at q;refine I.write (x:=l) (e:=l) (by rw[hH];exact trivial) (.inl rfl) (λb' u hb hu=>(Heap.get?_update_other s.heap (Obj.mapSeq f) (tf hb)).trans hu) ⟨_,q⟩ ?_;exact⟨hz,its',_,hv,q⟩
theorem Inv.lnew {af:List Value} {t':Nat} (I:Inv X pins σ H s) (hv:yf ys af) (hz:ys.length<=sizeLine):
  Inv X pins σ (upd H s.heap.objs.size (.lst ys)) {s with heap:=s.heap.push {cls:= .type "list",data:= .seq af.toArray},toks:=t'}:=
 I.laid (λ_ _ q=>Heap.get?_push_of_some _ q) (rj _) ⟨hz,af,0,hv,Heap.get?_push_size _ rfl⟩
theorem Inv.fresh (I:Inv X pins σ H s):H s.heap.objs.size=none:=I.hok.fresh (rj _)
theorem Inv.lstM (I:Inv X pins σ H s) (hH:H l=some (.lst xs)):xs.length<=sizeLine/\∃(af:List Value) (n:Nat),yf xs af/\xs.length=af.length/\s.heap.get? l=some {cls:= .type "list",data:= .seq af.toArray n}:=by
 obtain⟨z,af,n,r,e⟩:=I.hok l _ hH;exact⟨z,af,n,r,r.length,e⟩
theorem zi7 {n:Nat} (h:n<=sizeLine):Builtin.List.listTooLong n=false:=by
 unfold Builtin.List.listTooLong;exact decide_eq_false ⋯
end
section
variable {X:Cx}
def zg0:V->List V->Hp->VK->Prop:=λx vs H Q=>∃l xs y,x= .ref l/\vs=[y]/\H l=some (.lst xs)/\xs.length<sizeLine/\Q .non (upd H l (.lst (xs++[y])))
theorem yH:MtM X "list.append" zg0:=by
 intro pins s σ H x vs v us Q I rx rv h;obtain⟨l,xs,y,rfl,rfl,hH,hz,q⟩:=h;cases rx;obtain⟨u,rfl,ru⟩:=rv.one;obtain⟨z,af,n,r,hl,e⟩:=I.lstM hH;refine call_meets F.slot_list_append ⟨_,e,rfl⟩ F.entry_list_append (F.args_list_append_2 _ _) (PySem.list_append l af.toArray n u (by rw[rA];omega)) ⟨e,?_⟩;refine⟨.non,_,I.lset (its':=af++[u]) hH e (by simp) (r.append (.cons ru .nil)) ?_,rfl,q⟩;rw[rk,rC];omega
def zoP:V->List V->Hp->VK->Prop:=λx vs H Q=>∃l xs y,x= .ref l/\vs=[]/\H l=some (.lst xs)/\xs[xs.length-1]? =some y/\Q y (upd H l (.lst xs.dropLast))
theorem znc:MtM X "list.pop" zoP:=by
 intro pins s σ H x vs v us Q I rx rv h;obtain⟨l,xs,y,rfl,rfl,hH,hy,q⟩:=h;cases rx;have ji:=rv.zero;subst ji;obtain⟨z,af,n,r,hl,e⟩:=I.lstM hH;obtain⟨u,hu,ru⟩:=r.get hy;have oT:af.toArray[af.toArray.size-1]? =some u:=by
  show af.toArray[af.length-1]? =some u;rw[<-Af,<-hl];exact hu
 refine call_meets F.slot_list_pop ⟨_,e,rfl⟩ F.entry_list_pop (F.args_list_pop_1 _) (MeetsSeq.list_pop_last l af.toArray n u oT (by rw[rA];omega)) ⟨e,?_⟩;refine⟨y,_,I.lset (its':=af.dropLast) hH e ?_ r.dropLast ?_,ru,q⟩
 .show af.toArray.eraseIdxIfInBounds (af.toArray.size-1)=af.dropLast.toArray;rw[rA,List.eraseIdxIfInBounds_toArray,zf2]
 .rw[List.length_dropLast];omega
end
section
variable {prog:Program} {w:World} {A:Around} {E:Value->Shared->Prop} {s:Shared}
end
section
variable {X:Cx}
end
section
variable {κ:Type} [DecidableEq κ]
noncomputable def VB (aj:List (κ×V)) (k:κ):Option V:=(aj.find? λkv=>decide (kv.1=k)).map (·.2)
theorem zeD {p:κ×V} {r:List (κ×V)} {k:κ} (e:p.1=k):VB (p::r) k=some p.2:=by simp[VB,sU,e]
theorem zeE {p:κ×V} {r:List (κ×V)} {k:κ} (e:¬p.1=k):VB (p::r) k=VB r k:=by simp[VB,sU,e]
theorem Ur.isSome_eq {o:Option V} {u:Option Value} (r:Ur o u):o.isSome=u.isSome:=by
 cases o with
 |none=>cases u with
  |none=>rfl
  |some _=>exact (show False from r).elim
 |some _=>cases u with
  |none=>exact (show False from r).elim
  |some _=>rfl
theorem KV.val {aj:List (κ×V)} {vs:List (κ×Value)} (r:KV aj vs) (k:κ):Ur (VB aj k) (valueAt vs k):=by
 unfold KV at r
 induction r with
 |nil=>exact u6
 | @cons p q ps qs h t ih=>
  obtain⟨h1,h2⟩:=h;by_cases e:p.1=k
  .have e':q.1=k:=h1.symm.trans e;have b:valueAt (q::qs) k=some q.2:=by simp[valueAt,sU,e']
   rw[zeD e,b];exact h2
  .have e':¬q.1=k:=λz=>e (h1.trans z);have b:valueAt (q::qs) k=valueAt qs k:=by simp[valueAt,sU,e']
   rw[zeE e,b];exact ih
theorem KV.keys {aj:List (κ×V)} {vs:List (κ×Value)} (r:KV aj vs):aj.map (·.1)=vs.map (·.1):=by
 unfold KV at r
 induction r with
 |nil=>rfl
 |cons h t ih=>rw[sj,sj,ih,h.1]
end
theorem zg1 {P:Program} {w:World} {k:Key} {u:Value} (r:yr (kV k) u):(vb P w).is k u=true:=by
 cases k with
 |inl i=>obtain⟨t,e⟩:=(show ∃t,u=Value.int i t from r);subst e;exact zes P w i t
 |inr x=>obtain⟨t,e⟩:=(show ∃t,u=Value.str x t from r);subst e;exact zet P w x t
theorem zda {P:Program} {w:World}:∀{ks:List Key} {us:List Value},yf (ks.map kV) us->ItemsAre (vb P w) ks us
 |[],_,r=>by rw[ux] at r;cases r;exact .nil
 |k::ks,_,r=>by
  rw[sj] at r;cases r with
  |cons h t=>exact .cons (zg1 h) (zda t)
noncomputable abbrev KT (H:Hp):List (List Key×V)->List (List Key×Addr×Value)->Prop:=Paired λp q=>p.1=q.1/\H q.2.1=some (.tup (p.1.map kV))/\yr p.2 q.2.2
theorem KT.val {H:Hp} {aj:List (List Key×V)} {xs:List (List Key×Addr×Value)} (r:KT H aj xs) (k:List Key):Ur (VB aj k) ((atKey xs k).map (·.2)):=by
 induction r with
 |nil=>exact u6
 | @cons p q ps qs h t ih=>
  obtain⟨h1,_,h2⟩:=h;by_cases e:p.1=k
  .have e':q.1=k:=h1.symm.trans e;have b:atKey (q::qs) k=some q.2:=by simp[atKey,sU,e']
   rw[zeD e,b];exact h2
  .have e':¬q.1=k:=λz=>e (h1.trans z);have b:atKey (q::qs) k=atKey qs k:=by simp[atKey,sU,e']
   rw[zeE e,b];exact ih
section
variable {P:Program} {w:World} {H:Hp} {h:Heap} {a:Addr}
theorem zmk {u:HO} (ok:HOk P w H h) (e:Rd H a u):xB P w H h a u:=e.ok ok
theorem zg2 {aj:List (Key×V)} (ok:HOk P w H h) (e:Rd H a (.dK aj)):aj.length<=sizeLine/\(a==sysModules)=false/\∃vs,KV aj vs/\h.DictOf (vb P w) a vs:=
 show xB P w H h a (.dK aj) from zmk ok e
theorem zdH {ks:List Key} (ok:HOk P w H h) (e:H a=some (.tup (ks.map kV))):(tupleKind (vb P w)).is h ks a:=by
 obtain⟨_,af,r,o,h1,h2,n,h3⟩:=(show xB P w H h a (.tup (ks.map kV)) from ok a _ e);exact⟨o,af.toArray,n,h1,h2,h3.1,by simpa using zda r⟩
theorem zg3 {aj:List (List Key×V)} (ok:HOk P w H h) (e:Rd H a (.dT aj)):aj.length<=sizeLine/\(a==sysModules)=false/\
  ∃xs,KT H aj xs/\h.DictOfH (tupleKind (vb P w)) a xs:=by
 obtain⟨z,y,xs,r,o,es,ep,h1,h2,h3,h4,h5⟩:=(show xB P w H h a (.dT aj) from zmk ok e);refine⟨z,y,xs,r,o,es,ep,h1,h2,h3,h4,λx hx=> ?_,h5⟩;have all:∀{l:List (List Key×V)} {m:List (List Key×Addr×Value)},KT H l m->∀x∈m,(tupleKind (vb P w)).is h x.1 x.2.1:=by
  intro l m q
  induction q with
  |nil=>intro x hx;exact nomatch hx
  | @cons p q ps qs hq t ih=>
   intro x hx;rcases rX.mp hx with e|hx
   .subst e;exact zdH ok (by rw[<-hq.1];exact hq.2.1)
   .exact ih x hx
 exact all r x hx
end
def Th (H:Hp) (a:Addr) (y:V) (r:Option V):Prop:=
 (∃aj k,Rd H a (.dK aj)/\y=kV k/\r=VB aj k)\/∃aj k b,Rd H a (.dT aj)/\y= .ref b/\H b=some (.tup (k.map kV))/\r=VB aj k
theorem Th.k {H:Hp} {a:Addr} {aj:List (Key×V)} {k:Key} (e:H a=some (.dK aj)):Th H a (kV k) (VB aj k):= .inl ⟨aj,k,.inl e,rfl,rfl⟩
section
variable {X:Cx} {pins:List (Addr×Obj)} {σ:St} {H:Hp} {s:Shared} {a:Addr} {y v:V} {u r:Value} {o:Option V} {A:Around} {E:Value->Shared->Prop}
theorem Inv.big (I:Inv X pins σ H s):sysModules<s.heap.objs.size:=by
 have h:mainGlobals<s.heap.objs.size:=(I.mod.glob.keeps I.bk).lt;exact Ar ∅ h
theorem zh5 {Q:Value->Shared->Prop} (hu:A.units+1<cLine) (I:Inv X pins σ H s) (g:Th H a y (some v)) (ry:yr y u) (h:∀w' s',Inv X pins σ H s'->yr v w'->Q w' s'):
  wpAny (model X.prog X.w) A (getItem (.ref a) u) Q E s:=by
 rcases g with⟨aj,k,e,ey,l⟩|⟨aj,k,b,e,ey,eb,l⟩
 .subst ey;obtain⟨z,hd,vs,rel,dd⟩:=zg2 I.hok e;obtain⟨w',hw,rw'⟩:=Ur.some_of (v:=v) (o:=valueAt vs k) (by rw[l];exact rel.val k);exact wpAny_getItem_of (zg1 ry) dd.mapOf hw (h w' _ (I.tok _) rw')
 .subst ey;cases (show u=Value.ref b from ry);obtain⟨z,hd,xs,rel,dd⟩:=zg3 I.hok e;obtain⟨w',hw,rw'⟩:=Ur.some_of (v:=v) (o:=(atKey xs k).map (·.2)) (by rw[l];exact rel.val k);obtain⟨p,hp,iG⟩:=rG.mp hw;refine wpAny_getItem_heap (tupleKind_room_in1 hu) (zdH I.hok eb) dd hp ?_;rw[iG];exact h w' _ (I.tok _) rw'
theorem zpR {Q:Value->Shared->Prop} (hu:A.units+1<cLine) (I:Inv X pins σ H s) (g:Th H a y o) (ry:yr y u) (h:∀s',Inv X pins σ H s'->Q (.bool o.isSome) s'):
  wpAny (model X.prog X.w) A (compareOp .In u (.ref a)) Q E s:=by
 rcases g with⟨aj,k,e,ey,l⟩|⟨aj,k,b,e,ey,eb,l⟩
 .subst ey;obtain⟨z,hd,vs,rel,dd⟩:=zg2 I.hok e;refine wpAny_in_of (zg1 ry) hd dd.mapOf ?_;rw[<-(rel.val k).isSome_eq,<-l];exact h _ (I.tok _)
 .subst ey;cases (show u=Value.ref b from ry);obtain⟨z,hd,xs,rel,dd⟩:=zg3 I.hok e;refine wpAny_in_heap (tupleKind_room_in1 hu) (zdH I.hok eb) hd dd ?_;have q:=(rel.val k).isSome_eq;rw[uI] at q;rw[<-q,<-l];exact h _ (I.tok _)
theorem zk4 {Q:Value->Shared->Prop} (hu:A.units+1<cLine) (I:Inv X pins σ H s) (g:Th H a y o) (ry:yr y u) (h:∀s',Inv X pins σ H s'->Q (.bool (!o.isSome)) s'):
  wpAny (model X.prog X.w) A (compareOp .NotIn u (.ref a)) Q E s:=by
 rcases g with⟨aj,k,e,ey,l⟩|⟨aj,k,b,e,ey,eb,l⟩
 .subst ey;obtain⟨z,hd,vs,rel,dd⟩:=zg2 I.hok e;refine wpAny_notIn_of (zg1 ry) hd dd.mapOf ?_;rw[<-(rel.val k).isSome_eq,<-l];exact h _ (I.tok _)
 .subst ey;cases (show u=Value.ref b from ry);obtain⟨z,hd,xs,rel,dd⟩:=zg3 I.hok e;refine wpAny_notIn_heap (tupleKind_room_in1 hu) (zdH I.hok eb) hd dd ?_;have q:=(rel.val k).isSome_eq;rw[uI] at q;rw[<-q,<-l];exact h _ (I.tok _)
end
section
variable {X:Cx} {pins:List (Addr×Obj)} {σ:St} {H:Hp} {s:Shared} {a:Addr} {aj:List (Key×V)} {k:Key} {u:Value} {A:Around} {E:Value->Shared->Prop}
end
def zoQ (i:Expr):Prop:=∀ov iv,subscripted i false ov iv=operate [ov,iv] (getItem ov iv)
theorem zk5 {prog:Program} {w:World} {A:Around} {E:Value->Shared->Prop} {s:Shared} {env:Env} {value slice:Expr} {pos:Pos} {T id:String} {Q:Value->Shared->Prop}
  (hl:typeLookup (.type T) "__getitem__"=pure (some (.builtin id))) (hs:zoQ slice)
  (h:wpAny (model prog w) A (eval value env) (λo s₁=>wpAny (model prog w) A (eval slice env) (λi s₂=>s₂.TypeIs o T/\wpAny (model prog w) A (getItem o i) Q E s₂) E s₁) E s):
  wpAny (model prog w) A (eval (.Subscript value slice pos) env) Q E s:=by
 refine Subscript_ (wpAny_mono h (λo s₁ h₁=>wpAny_mono h₁ (λi s₂ h₂=> ?_) λ_ _ x=>x) λ_ _ x=>x);obtain⟨hT,h₂⟩:=h₂;unfold subscriptTail;refine wpAny_bind ?_;rw[getitemInPython_of_ne hT.not_modules];refine wpAny_bind (wpAny_specialOf hT hl ?_);have fin:wpAny (model prog w) A (subscripted slice false o i) (λr s₃=>wpAny (model prog w) A (letTemporaryGo value o r>>=λ_=>pure r) Q E s₃) E s₂:=by
  rw[hs o i];exact wpAny_operating (wpAny_mono h₂ (λr s₃ h₃=>wpAny_bind (wpAny_letTemporaryGo (wpAny_pure h₃))) λ_ _ x=>x)
 first
  |exact wpAny_pure (wpAny_bind fin)
  |exact wpAny_bind (wpAny_pure (wpAny_bind fin))
  |exact wpAny_bind fin
theorem zeF {X:Cx} {pins:List (Addr×Obj)} {σ:St} {H:Hp} {s:Shared} {a:Addr} {y:V} {o:Option V} (I:Inv X pins σ H s) (g:Th H a y o):s.TypeIs (.ref a) "dict":=by
 rcases g with⟨aj,k,e,_,_⟩|⟨aj,k,b,e,_,_,_⟩
 .obtain⟨_,_,vs,_,dd⟩:=zg2 I.hok e;exact dd.typeIs
 .obtain⟨_,_,xs,_,dd⟩:=zg3 I.hok e;exact dd.typeIs
def zml (td ty:TE):TE:=λσ H Q=>td σ H λx H1=>ty σ H1 λy H2=>∃a v,x= .ref a/\Th H2 a y (some v)/\Q v H2
def zoR (ty td:TE):TE:=λσ H Q=>ty σ H λy H1=>td σ H1 λx H2=>∃a o,x= .ref a/\Th H2 a y o/\Q (.bl o.isSome) H2
def zg4 (ty td:TE):TE:=λσ H Q=>ty σ H λy H1=>td σ H1 λx H2=>∃a o,x= .ref a/\Th H2 a y o/\Q (.bl (!o.isSome)) H2
section
variable {X:Cx} {o i e value:Expr} {pos pos' ja:Pos} {td ty tv:TE}
theorem zk6 (hu:X.A.units+1<cLine) (ho:PE X o td) (hi:PE X i ty) (hs:zoQ i):PE X (.Subscript o i pos) (zml td ty):=by
 intro pins s σ H Q I h;refine zk5 PySem.F.slot_dict_getitem.lookup hs (thn (ho pins s σ H _ I h) ?_);rintro u s1 ⟨x,H1,I1,rx,q1⟩;refine thn (hi pins s1 σ H1 _ I1 q1) ?_;rintro iv s2 ⟨y,H2,I2,ry,a,v,ex,g,q2⟩;subst ex;obtain rfl:u=Value.ref a:=rx;exact⟨zeF I2 g,zh5 hu I2 g ry λw' s3 I3 rw'=>⟨v,H2,I3,rw',q2⟩⟩
theorem znd (hu:X.A.units+1<cLine) (hi:PE X i ty) (ho:PE X o td):PC X .In i o (zoR ty td):=by
 intro pins s σ H Q I h;refine thn (hi pins s σ H _ I h) ?_;rintro iv s1 ⟨y,H1,I1,ry,q1⟩;refine thn (ho pins s1 σ H1 _ I1 q1) ?_;rintro u s2 ⟨x,H2,I2,rx,a,ov,ex,g,q2⟩;subst ex;obtain rfl:u=Value.ref a:=rx;exact zpR hu I2 g ry λs3 I3=>⟨.bl ov.isSome,H2,I3,rfl,q2⟩
theorem zh6 (hu:X.A.units+1<cLine) (hi:PE X i ty) (ho:PE X o td):PC X .NotIn i o (zg4 ty td):=by
 intro pins s σ H Q I h;refine thn (hi pins s σ H _ I h) ?_;rintro iv s1 ⟨y,H1,I1,ry,q1⟩;refine thn (ho pins s1 σ H1 _ I1 q1) ?_;rintro u s2 ⟨x,H2,I2,rx,a,ov,ex,g,q2⟩;subst ex;obtain rfl:u=Value.ref a:=rx;exact zk4 hu I2 g ry λs3 I3=>⟨.bl (!ov.isSome),H2,I3,rfl,q2⟩
end
section
variable {X:Cx} {pos:Pos}
end
noncomputable abbrev VV:List (V×V)->List (Value×Value)->Prop:=Paired λp q=>yr p.1 q.1/\yr p.2 q.2
structure M1 (X:Cx) (o:Expr) (m:Str) (apos:Pos) (e:Expr) (cH:Pos):Prop where
 base:attributeBase o m X.env (eval o X.env)=eval o X.env
 few:((backTo cH (starEach [e] X.env)).all (λx=> !x.1)&&(backToKw cH (keywordEach [] X.env)).all (λx=>x.1.isSome)
  &&decide (([e]:List Expr).length+([]:List Keyword).length+(if ([]:List Keyword).isEmpty then 0 else 1)<30))=true
 line:(apos.endLine==cH.line)=true
 trees:backTo cH (starEach [e] X.env)=[(false,eval e X.env)]
structure M2 (X:Cx) (o:Expr) (m:Str) (apos:Pos) (e f:Expr) (cH:Pos):Prop where
 base:attributeBase o m X.env (eval o X.env)=eval o X.env
 few:((backTo cH (starEach [e,f] X.env)).all (λx=> !x.1)&&(backToKw cH (keywordEach [] X.env)).all (λx=>x.1.isSome)
  &&decide (([e,f]:List Expr).length+([]:List Keyword).length+(if ([]:List Keyword).isEmpty then 0 else 1)<30))=true
 line:(apos.endLine==cH.line)=true
 trees:backTo cH (starEach [e,f] X.env)=[(false,eval e X.env),(false,eval f X.env)]
section
variable {X:Cx} {pins:List (Addr×Obj)} {σ:St} {H:Hp} {s:Shared} {a:Addr} {y d:V} {u r:Value} {o:Option V} {A:Around} {E:Value->Shared->Prop}
end
section
variable {X:Cx} {o e f:Expr} {apos cH:Pos} {td ty tx:TE}
end
section
variable {X:Cx} {pins:List (Addr×Obj)} {σ:St} {H:Hp} {s:Shared} {a:Addr} {aj:List (Key×V)} {A:Around} {E:Value->Shared->Prop}
end
section
variable {X:Cx} {pins:List (Addr×Obj)} {σ:St} {H:Hp} {s:Shared} {a:Addr} {y:V} {u:Value} {A:Around} {E:Value->Shared->Prop}
end
end L2
namespace Att
open PySem PySem.W PySem.Calls PyProof.Rows
theorem za0 {P:Params} {h:Heap}:∀(ns:List Int) (vs:List Value),WellAll P h vs (ns.map WData.int)->IntsAre vs ns:=by
 intro ns
 induction ns with
 |nil=>
  intro vs w;rw[ux] at w;cases w;exact .nil
 |cons n ns ih=>
  intro vs w;rw[sj] at w;cases w with
  |cons a b=>
   cases a;exact .cons _ _ (ih _ b)
theorem zh7 {l:OpenLaw} {n:Nat} (hn:l.most=some n) {P:Params} {h:Heap} {args:List WData} {vals:List Value}
  (iE:l.row.toRowW.claim.pre args=true) (fL:WellAll P h vals args):
  ∃a vs ns,vals=[Value.ref a]/\args=[WData.list (ns.map WData.int)]/\h.get? a=some {cls:= .type "list",data:= .seq vs.toArray}/\IntsAre vs ns/\ns.length<=n:=by
 have p9:WShape.hasAll [] args [.list .int]=true:=(pre_splitW iE).1;have hc:l.pre.holds [] {args:=args}=true:=(pre_splitW iE).2;obtain⟨d,r,rfl,h1,h2⟩:=hasAllW_cons p9;obtain rfl:=hasAllW_nil h2;obtain⟨xs,rfl,h3⟩:=hasW_list h1;obtain⟨ns,rfl⟩:=items_int h3;have hlen:ns.length<=n:=by
  unfold OpenLaw.pre at hc;have h4:(WTm.not (.lt (.lit (.int (n:Int))) (.len (.arg 0)))).holds [] {args:=[.list (ns.map .int)]}=true:=by
   have h4:=(holds_andW hc).1;rw[hn] at h4;exact h4
  have h5:=condW_of h4 (w_not (w_lt w_lit (w_len_list (w_arg rfl))));rw[rh] at h5;refine Nat.le_of_not_lt λq=> ?_;have q':(n:Int)<((ns.length:Nat):Int):=by omega
  first
   |(rw[decide_eq_true q'] at h5;exact absurd h5 ∅)
   |(simp at h5;omega)
 cases fL with
 |cons w1 w2=>
  cases w2;cases w1 with
  |list ho jE=>exact⟨_,_,ns,rfl,rfl,ho,za0 ns _ jE,hlen⟩
theorem zh8 (l:OpenLaw) (args:List WData):l.row.toRowW.claim.post args (.bool true) args=true:=
 postW_of (r:=l.row.toRowW) (X:=(true==true))
  (show WShape.has [] (.bool true) .bool=true by first|rfl|decide|simp[WShape.has,WShape.arms,WShape.armsAll])
  (show (WTm.eq .res (.lit (.bool true))).value [] {args:=args,res:=some (.bool true),after:=args}=some (.bool (true==true)) from w_eq_bool (w_res rfl) w_lit) rfl
theorem zeG {l:OpenLaw} {n:Nat} {q:Program} {loose:List Str} {XP:(Str->Option Value)->Heap->Prop} {YP:World->Heap->Prop} {d:DefRec}
  (hn:l.most=some n) (kz:d.params.defaults=[])
  (call:∀(w:World) (s₀ s₁:Shared) (mg mb:Str->Option Value) (fa:Addr) (o:Obj) (pm cd doc:Value) (a:Addr) (vs:List Value) (ns:List Int),
   Ground q loose [] XP w s₀ mg mb s₁.heap->YP w s₁.heap->
   s₁.heap.get? fa=some o->o.data= .func (docDef d.name d.params d.body d.scope pm cd doc)->s₁.heap.CodeRec cd d.name->mg d.name=some (.ref fa)->
   s₁.heap.get? a=some {cls:= .type "list",data:= .seq vs.toArray}->IntsAre vs ns->ns.length<=n->s₁.gens= #[]->
   codeAny (model l.prog w) callerA (.call (.ref fa) ⟨[.ref a],[]⟩) (λr s'=>r= .ok (.ret (.bool true))/\OldK s₁.heap s'.heap/\s'.os=s₁.os/\AllBare s'.gens) s₁):
  WalkO q loose XP YP l.row.toRowW d [] (λf vs=>AU f vs):=by
 intro w s₀ s₁ mg mb G Y fa o pm cd doc dV kV ho hd fC hD jt hg args vals as iE pK qJ fL qM;obtain rfl:dV= .none:=Dflts.none hD kz;obtain rfl:kV= .none:=Dflts.noKw hD;obtain⟨a,vs,ns,rfl,rfl,jq,hints,hlen⟩:=zh7 hn iE fL;refine enter_call (codeAny_mono (call w s₀ s₁ mg mb fa o pm cd doc a vs ns G Y ho (fd_plain hd) fC jt jq hints hlen hg) λr s' hq=> ?_);obtain⟨rfl,h2,h3,h4⟩:=hq;exact⟨.inl ⟨.bool true,.bool true,[],rfl,λ_=>rfl,.bool true,zh8 l _,λ_=>⟨Bu,λ_ hm=>(nomatch hm)⟩⟩,h2,h3,h4⟩
section
variable {prog:Program} {w:World} {A:Around} {E:Value->Shared->Prop} {s:Shared} {K:Frag}
end
end Att
namespace L2
open PySem PySem.Spec PyProof.Rows
theorem zdb:∀{vs:List Value} {ns:List Int},IntsAre vs ns->yf (ns.map V.int) vs
 |_,_,.nil=> .nil
 |_,_,.cons n t h=> .cons ⟨t,rfl⟩ (zdb h)
def zk7 (H:Hp):Prop:=∀b,H b=none\/∃o xs,H b=some (.frz o (.lst xs))
theorem zi8 {P:Program} {w:World} {K:r6} {mg mb:Str->Option Value} {CX:CXT} {k:Nat} {fa a:Addr} {fd:FuncData} {x:Str} {sp:Sp} {s₁:Shared} {vs:List Value} {ns:List Int}
  (KX:K.In s₁.heap) (fO:s₁.heap.Ns mainGlobals mg) (hb:s₁.heap.Ns builtinsNs mb) (qf:∀x:Str,x≠"__name__"->mb x=bootBuiltins x) (mB:s₁.heap.NoLimit) (hg:s₁.gens= #[])
  (ha:s₁.heap.get? a=some {cls:= .type "list",data:= .seq vs.toArray}) (hi:IntsAre vs ns) (hl:ns.length<=sizeLine) (hr:Zs k callerA)
  (F:∀base:Heap,K.In base->base.Ns mainGlobals mg->zZ P w K mg base CX k fa fd [x] sp) (kE:∀(s:Shared) (u:Value),BindsTo s fd ⟨[u],[]⟩ [(x,u)])
  (g9:∀H:Hp,zk7 H->SqX K H a (ns.map V.int)->sp [.ref a] H (λv _=>v= .bl true) λ_ _ _=>False)
  (mR:∀H e s',CX [] H s₁ (λ_ _ _=>False) e s'->False):
  codeAny (model P w) callerA (.call (.ref fa) ⟨[.ref a],[]⟩) (λr s'=>r= .ok (.ret (.bool true))/\OldK s₁.heap s'.heap/\s'.os=s₁.os/\AllBare s'.gens) s₁:=by
 have rv:=zdb hi;have lM:=hi.length;have core:∀H:Hp,zk7 H->SqX K H a (ns.map V.int)->HOk P w H s₁.heap->(∀b,H b≠none->b=a)->(H a≠none->K.lookup a=none)->
   codeAny (model P w) callerA (.call (.ref fa) ⟨[.ref a],[]⟩) (λr s'=>r= .ok (.ret (.bool true))/\OldK s₁.heap s'.heap/\s'.os=s₁.os/\AllBare s'.gens) s₁:=by
  intro H hO hS hok hA hK;have gH:∀{b:Addr} {o:Obj},s₁.heap.get? b=some o->H b=none->(zdz s₁.heap H).get? b=some o:=λe n=>ziL e n;have jT:∀{b:Addr} {o:Obj} {es:Array DictEntry} {ep:Nat},s₁.heap.get? b=some o->o.data= .dict es ep->H b=none:=λ{b o es ep} e d=>by
   cases q:H b with
   |none=>rfl
   |some u=>
    have e':b=a:=hA b (by rw[q];simp);subst e';rw[ha] at e;cases e;have d':Data.seq vs.toArray _=Data.dict es ep:=d;cases d'
  have kS:∀{b:Addr} {m:Str->Option Value},s₁.heap.Ns b m->(zdz s₁.heap H).Ns b m:=λ{b m} ⟨o,es,ep,e,d,r⟩=>⟨o,es,ep,gH e (jT e d),d,r⟩
  have o5:K.In (zdz s₁.heap H):=λb o e=>gH (KX b o e) (by
   cases q:H b with
   |none=>rfl
   |some u=>
    have e':b=a:=hA b (by rw[q];simp);subst e'
    rw[hK (by rw[q];simp)] at e;cases e)
  have hM:Mod K mg (zdz s₁.heap H):=⟨o5,kS fO,⟨mb,kS hb,qf⟩,let ⟨mc,h1,h2⟩:=mB;⟨mc,kS h1,h2⟩⟩;have e0:zfX P w K mg (zdz s₁.heap H) callerA [] s₁ H:=⟨rfl,hM,λb o e=>zkN e,ud (zhU _ _),trivial,λb hb=>absurd (show b∈([]:List Addr) from hb) (by simp),hok,.of_eq hg⟩;refine codeAny_mono ((F _ o5 (kS fO)).run callerA [] s₁ H ⟨[.ref a],[]⟩ [.ref a] [.ref a] _ _ hr e0 (kE s₁ (.ref a)) (.cons rfl .nil) (g9 H hO hS)) λr s' h=> ?_;cases r with
  |error e=>exact (mR H e s' h).elim
  |ok fl=>
   cases fl with
   |next=>exact tF h
   |brk=>exact tF h
   |cont=>exact tF h
   |ret u=>
    obtain⟨v,H',os,bare,un,mq,r',q⟩:=h;have q':v= .bl true:=q;subst q';obtain rfl:u=Value.bool true:=r';refine⟨rfl,OldK.of_keep λb o e=> ?_,os,bare⟩;cases q:H b with
    |none=>exact un.keep b o e q (by intro z;exact absurd (show b∈([]:List Addr) from z) (by simp)) (by simp)
    |some u=>
     rcases hO b with z|⟨ob,xs,z⟩
     .rw[q] at z;cases z
     .have z2:=un.frzs b ob _ z;obtain⟨e1,_⟩:=hok b _ z;obtain⟨e2,_⟩:=mq b _ z2;rw[e] at e1;cases e1;exact e2
 cases hk:K.lookup a with
 |some o=>
  have e:=KX a o hk;rw[ha] at e;cases e;refine core (λ_=>none) (λ_=> .inl rfl) (.inr ⟨vs.toArray,_,hk,by rw[rA,lM];exact hl,by simpa using rv⟩) (λb u z=>by have z':(none:Option HO)=some u:=z;cases z') (λb z=>absurd rfl z) λz=>absurd rfl z
 |none=>
  refine core (λb=>if b=a then some (.frz {cls:= .type "list",data:= .seq vs.toArray} (.lst (ns.map V.int))) else none) (λb=> ?_) (.inl (.inr ⟨{cls:= .type "list",data:= .seq vs.toArray},if_pos rfl⟩)) (λb u z=> ?_) (λb z=> ?_) λ_=>hk
  .by_cases hb:b=a
   .exact .inr ⟨_,_,if_pos hb⟩
   .exact .inl (if_neg hb)
  .by_cases hb:b=a
   .have z':=(if_pos hb).symm.trans z;cases z';subst hb;exact⟨ha,by rw[rh];exact hl,vs,_,rv,ha⟩
   .have z':=(if_neg hb).symm.trans z;cases z'
  .by_cases hb:b=a
   .exact hb
   .exact absurd (if_neg hb) z
noncomputable abbrev KOf {K:r6} {h:Heap} (_:K.In h):r6:=K
theorem zk8 {l:A0} {n k:Nat} {q:Program} {loose:List Str} {XP:(Str->Option Value)->Heap->Prop} {YP:World->Heap->Prop} {d:DefRec} {K:Params->r6} {CX:World->CXT} {sp:World->Sp} {x:Str}
  (hn:l.most=some n) (gf:n<=sizeLine) (kz:d.params.defaults=[]) (hr:Zs k callerA)
  (hY:∀(w:World) (h:Heap),YP w h->(K w.params).In h)
  (F:∀(w:World) (mg:Str->Option Value) (fa:Addr) (h:Heap),(K w.params).In h->h.Ns mainGlobals mg->mg d.name=some (.ref fa)->
   ∃fd:FuncData,(∀(s:Shared) (u:Value),BindsTo s fd ⟨[u],[]⟩ [(x,u)])/\
    ∀base:Heap,(K w.params).In base->base.Ns mainGlobals mg->zZ l.prog w (K w.params) mg base (CX w) k fa fd [x] (sp w))
  (g9:∀(w:World) (H:Hp) (a:Addr) (ns:List Int),ns.length<=n->zk7 H->SqX (K w.params) H a (ns.map V.int)->sp w [.ref a] H (λv _=>v= .bl true) λ_ _ _=>False)
  (mR:∀(w:World) (H:Hp) (s:Shared) (e:Value) (s':Shared),CX w [] H s (λ_ _ _=>False) e s'->False):
  Bc q loose XP YP l.row.toRowW d [] (λf vs=>AU f vs):=by
 refine Att.zeG hn kz λw s₀ s₁ mg mb fa o pm cd doc a vs ns G Y ho hd fC jt jq hints hlen hg=> ?_;have KX:=hY w _ Y;obtain⟨fd,hb,hF⟩:=F w mg fa _ KX G.T.g jt;exact zi8 KX G.T.g G.T.b G.T.builtins G.T.nolimit hg jq hints (si hlen gf) hr hF hb (λH hO hS=>g9 w H a ns hlen hO hS) λH e s'=>mR w H s₁ e s'
end L2
/- THE LAST THEOREM (shape; LID, My.* are mY):
   My.Adr: a structure of fJ addresses gM oh nr names (classes, functions); My.Txt K t: a structure (Prop) of fJ equations over K;
   My.txt_mk : {K} {implicit addresses ..} (e1 : nsIn K mainGlobals "law" = some (some (.ref f))) (e2 : K.lookup f = some ⟨oc, od, .func (fnOf "law" "law" params body scope dV kV doc pm an aH ct), sl⟩) (e3 : codeIn K aH "law" = true) .. : ∃ t, My.Txt K t
set_option maxHeartbeats 0 in
theorem PySem.Challenge.cw_LID_holds : PySem.Challenge.rw_LID.Holds := by
 w_on; o_law; k_head; (case hw => w_witness2)
 k_fill
 refine L2.walk_of (l := PySem.Challenge.rw_LID) (n := 63) (k := 40) (x := "script") (CX := λw => ..) (sp := λ_ => My.sp_law) rfl ∅ rfl ⟨rfl, by decide, by decide⟩ (λw h Y => B3 Y) ?F ?S ?C
 case F =>
  intro w mg fa h KX G jt;have T : ∃ t, My.Txt (L2.KOf KX) t := by
   dsimp only[L2.KOf]                          -- K oC n9 as «<heap const> w.params» for k_is;refine' My.txt_mk ?e1 ?e2 ?e3 ..
   (case e1 => PySem.W.k_is)                    -- in fJ order: a name -> af address -> af object -> af parts
   (case e2 => PySem.W.k_is)
   ..
  obtain⟨t, T⟩ := T;have e0 := jt.symm.trans (rR KX G T.law);cases e0                                       -- fa is fJ law's own address;exact⟨_, λs u => .of_eq rfl, λbase kb nb => My.law_fn T kb nb⟩     -- if «.of_eq rfl» comes qw early: refine' ⟨_, ?b, λbase kb nb => My.law_fn T kb nb⟩; exact λs u => .of_eq rfl
 case S => exact λw H a ns hl hO hS => ..
 case C => exact ..
(fJ tactic k_is has no namespace: write k_is) -/
namespace L2
open PySem PySem.Spec PyProof.Rows
noncomputable def zbc (s:Stmt) (j:Nat):Stmt:=match s with
 | .ClassDef _ _ _ body _ _ _ _ _ _ _=>body.getD j (.Pass ⟨0,0,0,0⟩)
 |_=> .Pass ⟨0,0,0,0⟩
noncomputable def WD (s:Stmt):Arguments:=match s with
 | .FunctionDef _ a _ _ _ _ _ _ _ _=>a
 |_=>{posonlyargs:=[],args:=[],vararg:=none,kwonlyargs:=[],kw_defaults:=[],kwarg:=none,defaults:=[]}
noncomputable def Xs (s:Stmt):List Stmt:=match s with
 | .FunctionDef _ _ b _ _ _ _ _ _ _=>b
 |_=>[]
noncomputable def zf (s:Stmt):Scope:=match s with
 | .FunctionDef _ _ _ _ _ _ sc _ _ _=>sc
 |_=>{kind:= .function,names:=[],isGenerator:=false,isCoroutine:=false}
noncomputable abbrev CX0:CXT:=λ_ _ _ _ _ _=>False
noncomputable abbrev E0:XK:=λ_ _ _=>False
structure Fun (K:r6) (x qual:Str) (st:Stmt) (f:Addr) (fd:FuncData):Prop where
 ex:∃(oc:Value) (od:Option Addr) (kV doc pm:Value) (an:Option Addr) (aH ct:Value) (gI:Array (Option Value)),
  fd=tO x qual (WD st) (Xs st) (zf st) .none kV doc pm an aH ct/\K.lookup f=some ⟨oc,od,.func fd,gI⟩/\uD K aH qual=true
 kp:tK K (.ref f)=true
section
variable {P:Program} {w:World} {K:r6} {mg:Str->Option Value} {base:Heap}
theorem Fun.binds {x qual:Str} {st:Stmt} {f:Addr} {fd:FuncData} {ps:List Str} (F:Fun K x qual st f fd)
  (h:∀(kV doc pm:Value) (an:Option Addr) (aH ct:Value) (us:List Value),us.length=ps.length->bindArgs (tO x qual (WD st) (Xs st) (zf st) .none kV doc pm an aH ct) ⟨us,[]⟩=pure (ps.zip us)):Vx K fd ps []:=by
 obtain⟨oc,od,kV,doc,pm,an,aH,ct,gI,rfl,lk,fC⟩:=F.ex;exact .all (h kV doc pm an aH ct)
theorem zi9 {x qual:Str} {st:Stmt} {f:Addr} {oc:Value} {od an:Option Addr} {gI:Array (Option Value)} {kV doc pm aH ct:Value} (l:K.lookup f=some ⟨oc,od,.func (tO x qual (WD st) (Xs st) (zf st) .none kV doc pm an aH ct),gI⟩)
  (c:uD K aH qual=true) (k:tK K (.ref f)=true):Fun K x qual st f (tO x qual (WD st) (Xs st) (zf st) .none kV doc pm an aH ct):=⟨⟨oc,od,kV,doc,pm,an,aH,ct,gI,rfl,l,c⟩,k⟩
end
theorem zja {A:Around} {k:Nat} (hr:Zs k A):A.units+1<cLine:=sx (Nat.add_le_add_left (by decide:1<=64) _) hr.units
section
variable {X:Cx}
theorem pv (i:Nat) {x:Str} {pos:Pos} (hN:X.N[i]? =some x:=by rfl) (hv:Vis X.env.scope x:=by first|exact rm rfl|exact Or.inr (rm rfl)|exact Or.inr (Or.inr rfl)) (hd:(x==("__debug__":Str))=false:=by decide)
  (fC:(x==("__classdict__":Str))=false:=by decide):PE X (.Name x pos) (zmN i):=zmO hN hv hd fC
end
def UI (H H':Hp):Prop:=∀b o,H b=some o->H' b=some o
theorem UI.refl (H:Hp):UI H H:=λ_ _ h=>h
section
variable {κ:Type} [DecidableEq κ]
end
theorem VC {prog:Program} {w:World} {A:Around} {elt iter tg:Expr} {ifs:List Expr} {scope:Scope} {pos:Pos} {it acc:Value} {env:Env} {s:Shared} {R:Result->Shared->Prop} (I:Nat->Shared->Prop)
  (turn:∀n s,I n s->wpAny (model prog w) A (pyNext it) (λr s₁=>match r with
   |none=>R (.ok .next) s₁
   |some v=>wpAny (model prog w) A (letOwnedTupleGo tg it v) (λ_ s₁'=>wpAny (model prog w) A (assign tg env v) (λ_ s₂=>
     wpAny (model prog w) A (forIn ifs true λc r=>if r=true then do let ok <-isTrue c env (eval c env);pure (ua ok) else pure (ua r)) (λok s₃=>
      if ok=true then wpAny (model prog w) A (eval elt env) (λx s₄=>
       wpAny (model prog w) A (call (.builtin "list.append") [acc,x]) (λ_ s₅=>∃m,m<n/\I m s₅) (λ_ _=>False) s₄) (λ_ _=>False) s₃
      else ∃m,m<n/\I m s₃) (λ_ _=>False) s₂)
     (λ_ _=>False) s₁') (λ_ _=>False) s₁) (λ_ _=>False) s)
  (n:Nat) (h:I n s):codeAny (model prog w) A (.compLoop (.ListComp elt [⟨tg,iter,ifs,0⟩] scope pos) 0 it acc env) R s:=by
 refine codeAny_loop rfl I (λn s hI=> ?_) n h;show wpAny _ A ((compTurn (.ListComp elt [⟨tg,iter,ifs,0⟩] scope pos) 0 it acc env).onRaise (λx=>do noteFrame x env;theTreesLotGoes x)) _ _ s;refine wpAny_noted ?_;rw[compTurn_list];refine wpAny_bind (wpAny_standAt (wpAny_bind (wpAny_mono (turn n s hI) (λr s₁ h₁=> ?_) λ_ _ h'=>h'.elim)));cases r with
 |none=>exact wpAny_pure h₁
 |some v=>
  refine wpAny_bind (wpAny_mono h₁ (λ_ s₁' h₁'=> ?_) λ_ _ h'=>h'.elim);refine wpAny_bind (wpAny_mono h₁' (λ_ s₂ h₂=>wpAny_bind (wpAny_mono h₂ (λok s₃ h₃=> ?_) λ_ _ h'=>h'.elim)) λ_ _ h'=>h'.elim);cases ok with
  |false=>exact wpAny_pure ⟨rfl,h₃⟩
  |true=>
   exact wpAny_bind (wpAny_bind (wpAny_mono h₃ (λx s₄ h₄=>wpAny_bind (wpAny_mono h₄ (λ_ s₅ h₅=>wpAny_pure (wpAny_pure ⟨rfl,h₅⟩)) λ_ _ h'=>h'.elim)) λ_ _ h'=>h'.elim))
noncomputable def zcs (env:Env):List (Str×NameKind)->List (Str×Addr)->List (Str×Addr)
 |[],cs=>cs
 |(n,k)::r,cs=>zcs env r (if k== .free then (match env.cells.lookup n with|some c=>(n,c)::cs|none=>cs) else cs)
noncomputable def zeH (sc:Scope) (env:Env):List (Str×Addr):=zcs env sc.names []
theorem zeI {env:Env}:∀{ns:List (Str×NameKind)} {cs:List (Str×Addr)},(∀p∈cs,env.cells.lookup p.1=some p.2)->∀p∈zcs env ns cs,env.cells.lookup p.1=some p.2
 |[],_,h=>h
 |(n,k)::r,cs,h=>by
  unfold zcs;refine zeI ?_;by_cases hk:(k== .free)=true
  .rw[if_pos hk];cases e:env.cells.lookup n with
   |none=>exact h
   |some c=>
    intro p hp;rcases rX.mp hp with rfl|hp
    .exact e
    .exact h p hp
  .rw[if_neg hk];exact h
theorem zeJ {env:Env}:∀{ns:List (Str×NameKind)} {cs:List (Str×Addr)} {p:Str×Addr},p∈cs->p∈zcs env ns cs
 |[],_,_,h=>h
 |(n,k)::r,cs,p,h=>by
  unfold zcs;refine zeJ ?_;by_cases hk:(k== .free)=true
  .rw[if_pos hk];cases env.cells.lookup n with
   |none=>exact h
   |some c=>exact rF _ h
  .rw[if_neg hk];exact h
theorem zeK {env:Env} {x:Str} {c:Addr} (e:env.cells.lookup x=some c):∀{ns:List (Str×NameKind)} {cs:List (Str×Addr)},(x,NameKind.free)∈ns->(x,c)∈zcs env ns cs
 |[],_,h=>by cases h
 |(n,k)::r,cs,h=>by
  unfold zcs;rcases rX.mp h with h|h
  .injection h with h1 h2
   subst h1 h2;refine zeJ ?_;rw[if_pos (by rfl),e];exact rM
  .exact zeK e h
theorem Ux:∀{l:List (Str×Addr)} {x:Str} {c:Addr},(x,c)∈l->∃d,l.lookup x=some d
 |[],_,_,h=>by cases h
 |(n,d)::r,x,c,h=>by
  rw[sQ];cases e:x==n with
  |true=>exact⟨d,rfl⟩
  |false=>
   rcases rX.mp h with h|h
   .injection h with h1 h2
    subst h1;simp at e
   .exact Ux h
theorem Zt {sc:Scope} {env:Env} {x:Str} {c:Addr} (e:(zeH sc env).lookup x=some c):env.cells.lookup x=some c:=
 zeI (cs:=[]) (λp hp=>by cases hp) (x,c) (tm e)
theorem zeL {sc:Scope} {env:Env} {x:Str} {c:Addr} (h:(x,NameKind.free)∈sc.names) (e:env.cells.lookup x=some c):(zeH sc env).lookup x=some c:=by
 obtain⟨d,hd⟩:=Ux (zeK (cs:=[]) e h);have:=Zt (sc:=sc) hd;rw[e] at this;cases this;exact hd
theorem zct {sc:Scope} {env:Env} (h:∀y∈sc.names,y.2= .free->∃c,env.cells.lookup y.1=some c):closureFor sc env=pure (zeH sc env):=by
 unfold zeH closureFor;generalize sc.names=ns at h
 suffices hh:∀cs:List (Str×Addr),(forIn ns cs (λ(x:Str×NameKind) (r:List (Str×Addr))=>
    (match x with
     |(name,kind)=>if (kind==NameKind.free)=true then (cellOf env name>>=λc=>pure (ua ((name,c)::r))) else pure (ua r):Sem (ForInStep (List (Str×Addr)))))>>=λr=>pure r:Sem (List (Str×Addr)))=pure (zcs env ns cs) from hh []
 induction ns with
 |nil=>intro cs;rfl
 |cons p r ih=>
  intro cs;obtain⟨n,k⟩:=p;rw[List.forIn_cons];unfold zcs;have ih':=ih λy hy=>h y (rF _ hy);by_cases hk:(k== .free)=true
  .obtain⟨c,hc⟩:=h (n,k) rM (by simpa using hk);have hc:env.cells.lookup n=some c:=hc;have h1:cellOf env n=pure c:=by unfold cellOf;rw[hc]
   simp only[hk,if_true,h1,hc,pure_bind];exact ih' _
  .simp only[hk,if_false,pure_bind];exact ih' _
noncomputable def wq (X:Cx) (N':List Str) (sc:Scope) (C:Addr) (s₀:Shared) (H₀:Hp) (fp:List Addr):Cx where
 prog:=X.prog
 w:=X.w
 K:=X.K
 mg:=X.mg
 base:=X.base
 A:=X.A
 N:=N'
 s₀:=s₀
 H₀:=H₀
 env:=compEnvC sc (zeH sc X.env) C X.env
 outer:=X.stack
 stack:=X.stack
 ex:=fp
 fn:=λ_=>false
 calm:=X.calm
 pn:=[]
 xe:=λ_ _=>False
theorem Yw {env:Env}:∀{names:List (Str×NameKind)} {x:Str},names.lookup x=some .free->
  (names.map λ(n,k)=>if (k==NameKind.free&&env.scope.kind== .function&&env.kindOf n==some .cell) then (n,NameKind.cell) else (n,k)).lookup x=some .cell\/
  (names.map λ(n,k)=>if (k==NameKind.free&&env.scope.kind== .function&&env.kindOf n==some .cell) then (n,NameKind.cell) else (n,k)).lookup x=some .free
 |[],_,h=>by simp at h
 |(n,k)::r,x,h=>by
  have ih:= @Yw env r x;show tL x ((if (k==NameKind.free&&env.scope.kind== .function&&env.kindOf n==some .cell)=true then (n,NameKind.cell) else (n,k))::_)=_\/tL x ((if (k==NameKind.free&&env.scope.kind== .function&&env.kindOf n==some .cell)=true then (n,NameKind.cell) else (n,k))::_)=_;cases hx:x==n with
  |true=>
   simp only[sQ,hx] at h;cases h;by_cases hc:(NameKind.free==NameKind.free&&env.scope.kind== .function&&env.kindOf n==some .cell)=true
   .rw[if_pos hc];left;simp[sQ,hx]
   .rw[if_neg hc];right;simp[sQ,hx]
  |false=>
   simp only[sQ,hx] at h;by_cases hc:(k==NameKind.free&&env.scope.kind== .function&&env.kindOf n==some .cell)=true
   .rw[if_pos hc];simp only[sQ,hx];exact ih h
   .rw[if_neg hc];simp only[sQ,hx];exact ih h
theorem Xt {env:Env} {x:Str} {k:NameKind} (hk:k= .cell\/k= .free):∀{names:List (Str×NameKind)},(∀y∈names,y.2≠ .cell)->
  (names.map λ(n,k)=>if (k==NameKind.free&&env.scope.kind== .function&&env.kindOf n==some .cell) then (n,NameKind.cell) else (n,k)).lookup x=some k->(x,NameKind.free)∈names
 |[],_,h=>by simp at h
 |(n,j)::r,hc,h=>by
  have hr:∀y∈r,y.2≠ .cell:=λy hy=>hc y (rF _ hy);have h:tL x ((if (j==NameKind.free&&env.scope.kind== .function&&env.kindOf n==some .cell)=true then (n,NameKind.cell) else (n,j))::_)=_:=h;by_cases hj:(j==NameKind.free&&env.scope.kind== .function&&env.kindOf n==some .cell)=true
  .rw[if_pos hj,sQ] at h;have mF:j= .free:=by
    simp only[rT,beq_iff_eq] at hj;exact hj.1.1
   cases hx:x==n with
   |true=>
    rw[eq_of_beq hx,<-mF];exact rM
   |false=>
    rw[hx] at h;exact rF _ (Xt hk hr h)
  .rw[if_neg hj,sQ] at h;cases hx:x==n with
   |true=>
    rw[hx] at h;have h':j=k:=su h;have pR:j≠ .cell:=hc (n,j) rM;rcases hk with e|e
    .exact absurd (h'.trans e) pR
    .rw[eq_of_beq hx];have:j= .free:=h'.trans e;rw[this];exact rM
   |false=>
    rw[hx] at h;exact rF _ (Xt hk hr h)
def vH (X:Cx) (sc:Scope):List (Option Nat)->List Str->Prop
 |[],[]=>True
 |none::r,_::n=>vH X sc r n
 |some i::r,x::n=>(X.N[i]? =some x/\sc.names.lookup x=some .free)/\vH X sc r n
 |_,_=>False
noncomputable def Yc (cap:List (Option Nat)) (σ:St):St:=cap.map λo=>o.bind λi=>(σ[i]?).join
theorem vH.at {X:Cx} {sc:Scope}:∀{cap:List (Option Nat)} {N':List Str},vH X sc cap N'->∀(j i:Nat) (x:Str),cap[j]? =some (some i)->N'[j]? =some x->X.N[i]? =some x/\sc.names.lookup x=some .free
 |[],[],_,j,i,x,h,_=>by simp at h
 |none::r,y::n,c,0,i,x,h,_=>by simp at h
 |none::r,y::n,c,j+1,i,x,h,h2=>vH.at (cap:=r) c j i x (by simpa using h) (by simpa using h2)
 |some k::r,y::n,c,0,i,x,h,h2=>by
  simp at h h2;subst h h2;exact c.1
 |some k::r,y::n,c,j+1,i,x,h,h2=>vH.at (cap:=r) c.2 j i x (by simpa using h) (by simpa using h2)
theorem vH.len {X:Cx} {sc:Scope}:∀{cap:List (Option Nat)} {N':List Str},vH X sc cap N'->cap.length=N'.length
 |[],[],_=>rfl
 |none::r,y::n,c=>by simpa using vH.len (cap:=r) (N':=n) c
 |some k::r,y::n,c=>by simpa using vH.len (cap:=r) (N':=n) c.2
theorem zdc {cap:List (Option Nat)} {σ:St} {j:Nat} {v:V} (h:(Yc cap σ)[j]? =some (some v)):∃i,cap[j]? =some (some i)/\σ[i]? =some (some v):=by
 unfold Yc at h;rw[rq] at h;cases e:cap[j]? with
 |none=>rw[e] at h;cases h
 |some o=>
  rw[e] at h;cases o with
  |none=>simp at h
  |some i=>
   refine⟨i,rfl,?_⟩;simp only[A1,rE,sI] at h;cases q:σ[i]? with
   |none=>rw[q] at h;simp at h
   |some z=>rw[q] at h;simp at h;rw[h]
def PTs (X:Cx) (ifs:List Expr) (t:TT):Prop:=
 ∀(pins:List (Addr×Obj)) (s:Shared) (σ:St) (H:Hp) (Q:Bool->Hp->Prop),Inv X pins σ H s->t σ H Q->
  wpAny (model X.prog X.w) X.A (forIn ifs true λc r=>if r=true then do let ok <-isTrue c X.env (eval c X.env);pure (ua ok) else pure (ua r)) (TP X pins σ Q) X.xe s
theorem xC {X:Cx}:PTs X [] (λ_ H Q=>Q true H):=λ_ _ _ H _ I h=>wpAny_tests_nil ⟨H,I,h⟩
def zjb (cap:List (Option Nat)) (g:TG) (tt:TT) (te:TE) (J:It) (σ:St) (acc:Addr) (H0:Hp) (Q:Hp->Prop):Prop:=
 ∃W:Nat->Nat->List V->Hp->Prop,(∃m,W 0 m [] (upd H0 acc (.lst [])))/\∀i m ys H,W i m ys H->
  (J.stop i H/\Q H)\/(J.go i H/\∀x H',J.yld i H x H'->g x (Yc cap σ) H' λσ2 H2=>tt σ2 H2 λb H3=>
   if b=true then te σ2 H3 λv H4=>H4 acc=some (.lst ys)/\ys.length<sizeLine/\∃m',m'<m/\W (i+1) m' (ys++[v]) (upd H4 acc (.lst (ys++[v])))
   else ∃m',m'<m/\W (i+1) m' ys H3)
def zjc (cap:List (Option Nat)) (wi:TI) (g:TG) (tt:TT) (te:TE):TE:=λσ H Q=>wi σ H λJ H1=>∀acc,H1 acc=none->zjb cap g tt te J σ acc H1 λH2=>Q (.ref acc) H2
def zeM (i:Nat) (cap:List (Option Nat)) (wi:TI) (g:TG) (tt:TT) (te:TE):TS:=λD σ H=>wi σ H λJ H1=>∀acc,H1 acc=none->zjb cap g tt te J σ acc H1 λH2=>D.nx (σ.set i (some (.ref acc))) H2
structure Ug (X:Cx) (sc:Scope):Prop where
 cell:∀y∈sc.names,y.2≠ .cell
 kind:sc.kind= .function
 names:∀y∈sc.names,y.2= .local->sc.names.lookup y.1=some .local
 free:∀y∈sc.names,y.2= .free->X.env.kindOf y.1=some .cell\/X.env.kindOf y.1=some .free
section
variable {X:Cx} {elt tg iter:Expr} {ifs:List Expr} {sc:Scope} {pos:Pos} {wi:TI} {g:TG} {tt:TT} {te:TE} {N':List Str} {cap:List (Option Nat)}
theorem Inv.closure {pins:List (Addr×Obj)} {σ:St} {H:Hp} {s:Shared} (I:Inv X pins σ H s) (B:Ug X sc):closureFor sc X.env=pure (zeH sc X.env):=
 zct λy hy e=>I.ok.has y.1 (B.free y hy e)
theorem zh9 {pins:List (Addr×Obj)} {σ:St} {H:Hp} {s:Shared} {h₁:Heap} {t':Nat} {fp:List Addr} {acc C:Addr} {s₀:Shared} {m:Str->Option Value}
  (I:Inv X pins σ H s) (B:Ug X sc) (cp:vH X sc cap N') (hf:∀b∈fp,zco X pins H b) (q0:∀b∈fp,b<s.heap.objs.size) (fP:acc=s.heap.objs.size) (ho:s₀.os=s.os) (mI:s₀.gens=s.gens)
  (h0:s₀.heap=s.heap.push {cls:= .type "list",data:= .seq #[]}) (hC:C=s₀.heap.objs.size)
  (fO:h₁.Ns C m) (iW:∀b o,s₀.heap.get? b=some o->h₁.get? b=some o):
  Inv (wq X N' sc C s₀ (upd H acc (.lst [])) fp) [] (Yc cap σ) (upd H acc (.lst [])) {s₀ with heap:=h₁,toks:=t'}:=by
 have qP:H acc=none:=I.hok.fresh (ud fP.symm);have iO:∀b o,s.heap.get? b=some o->s₀.heap.get? b=some o:=λb o e=>by rw[h0];exact Heap.get?_push_of_some _ e
 have lJ:s₀.heap.objs.size=s.heap.objs.size+1:=by rw[h0,Heap.size_push]
 have I0:Inv X pins σ (upd H acc (.lst [])) {s with heap:=s₀.heap,toks:=s.toks}:=I.laid iO (ud fP.symm) ⟨rS _,[],0,.nil,by rw[h0,fP];exact Heap.get?_push_size _ rfl⟩;have CX':∀b,b<s.heap.objs.size->b≠C:=λb hb=>rQ (by rw[hC,lJ];exact tU hb);have CA:∀b,b<s.heap.objs.size->b≠acc:=λb hb=>rQ (by rw[fP];exact hb);have cellLt:∀x c,X.env.cells.lookup x=some c->c<s.heap.objs.size:=λx c e=>by
  obtain⟨v,o,q,_⟩:=I.cell x c e;exact Heap.lt_size q
 refine⟨⟨I.ok.mod,B.kind,I.ok.glob,I.ok.blt,ud hC.symm,λx y c h1 h2=>I.ok.inj x y c (Zt h1) (Zt h2),λx hx=> ?_,λx c h=>Bool.noConfusion h,I.ok.hd,I.ok.frames,.inl rfl,λb hb=>⟨CX' b (q0 b hb),λx c e=>(hf b hb).2.2.2.2.1 x c (Zt e)⟩,
   λb o e=> ?_,?_,λb o e hb=> ?_,λb hb hz=> ?_,I0.stack,I0.stkFree⟩,
  rfl,?_,Un.kept iW,⟨m,fO,λj x v h1 h2 h3=> ?_⟩,λx c e=> ?_,?_,λx c e=> ?_,λp hp=>absurd (show p∈([]:List (Addr×Obj)) from hp) (by simp),I0.hok.kept iW,?_⟩
 .have hm:(x,NameKind.free)∈sc.names:=by
   rcases hx with hx|hx
   .exact Xt (env:=X.env) (.inl rfl) B.cell hx
   .exact Xt (env:=X.env) (.inr rfl) B.cell hx
  obtain⟨c,hc⟩:=I.ok.has x (B.free _ hm rfl);exact⟨c,zeL hm hc⟩
 .obtain⟨e1,e2⟩:=I.bs b o e;exact⟨iO b o e1,by show upd H acc (.lst []) b=none;rw[yz (CA b (Heap.lt_size e1))];exact e2⟩
 .exact si I.ok.bsz (si I.sz (by show _<=s₀.heap.objs.size;omega))
 .rcases (hf b hb).2.2.2.1 with z|z
  .exact I.ok.noex b o e z
  .exact absurd (rZ (Heap.lt_size e) (si I.ok.bsz z)) (sS _)
 .rcases rX.mp (I.stkSub b hz) with e|e
  .exact (hf b hb).2.1 e
  .exact (hf b hb).2.2.1 e
 .show AllBare s₀.gens;rw[mI];exact I.bare
 .obtain⟨i,e1,e2⟩:=zdc h2;obtain⟨e3,e4⟩:=cp.at j i x e1 h1;have hm:(x,NameKind.free)∈sc.names:=tm e4;have hk:=B.free _ hm rfl;obtain⟨m0,pE,hl⟩:=I.loc;obtain⟨u,r,l⟩:=hl i x v e3 e2 (by rcases hk with k|k;exact .inr (.inl k);exact .inr (.inr k));refine⟨u,r,.inr ?_⟩;rcases l with⟨k,_⟩|⟨_,c,hc,o,q,d⟩
  .rcases hk with k'|k'
   .rw[k] at k';cases k'
   .rw[k] at k';cases k'
  .exact⟨Yw (env:=X.env) e4,c,zeL hm hc,o,iW c o (iO c o q),d⟩
 .obtain⟨v,o,q,d⟩:=I.cell x c (Zt e);exact⟨v,o,iW c o (iO c o q),d⟩
 .show upd H acc (.lst []) C=none;rw[yz (by rw[hC,fP,lJ];exact AK _)];exact I.hok.fresh (by rw[hC,lJ];exact tM _)
 .show upd H acc (.lst []) c=none;rw[yz (CA c (cellLt x c (Zt e)))];exact I.freeC x c (Zt e)
 .show (Yc cap σ).length=N'.length;unfold Yc;rw[rh];exact cp.len
def Kp (σ0 σ:St):Prop:=σ.length=σ0.length/\∀(j:Nat) v,σ0[j]? =some (some v)->σ[j]? =some (some v)
def zia (cap:List (Option Nat)) (g:TG):Prop:=∀σ0 σ x H Q,Kp (Yc cap σ0) σ->g x σ H Q->g x σ H λσ2 H2=>Q σ2 H2/\Kp (Yc cap σ0) σ2
def zg5 (cap:List (Option Nat)) (g:TGs):Prop:=∀σ0 σ x H Q,Kp (Yc cap σ0) σ->g x σ H Q->g x σ H λσ2 H2=>Q σ2 H2/\Kp (Yc cap σ0) σ2
theorem yy {i:Nat} (h:cap[i]? =some none):zia cap (zc2 i):=λσ0 σ x H Q k q=>by
 refine⟨q,by rw[t7];exact k.1,λj v e=> ?_⟩;have:j≠i:=by
  rintro rfl;obtain⟨i',e1,_⟩:=zdc e;rw[h] at e1;cases e1
 rw[sY (tf this)];exact k.2 j v e
theorem zib:zg5 cap zmU:=λσ0 σ x H Q k ⟨e,q⟩=>⟨e,q,k⟩
theorem zbv {t:TG} {u:TGs} (h1:zia cap t) (h2:zg5 cap u) (mono:∀v σ H (Q Q':St->Hp->Prop),(∀σ H,Q σ H->Q' σ H)->t v σ H Q->t v σ H Q'):zg5 cap (ziQ t u):=λσ0 σ x H Q k ⟨v,r,e,q⟩=>
 ⟨v,r,e,mono v σ H _ _ (λσ' H' ⟨q',k'⟩=>h2 σ0 σ' r H' Q k' q') (h1 σ0 σ v H _ k q)⟩
theorem zbw {i:Nat}:∀v σ H (Q Q':St->Hp->Prop),(∀σ H,Q σ H->Q' σ H)->zc2 i v σ H Q->zc2 i v σ H Q':=λ_ _ _ _ _ f q=>f _ _ q
theorem zjd {K:r6} {n:Nat} {t:TGs} (h:zg5 cap t):zia cap (zkQ K n t):=λσ0 σ x H Q k ⟨a,xs,e,hq,hl,q⟩=>⟨a,xs,e,hq,hl,h σ0 σ xs H Q k q⟩
theorem zdd {pins:List (Addr×Obj)} {σ:St} {H:Hp} {s:Shared} {use:Option (Value->Sem Unit)} {Q:Value->Shared->Prop} {R:Addr->Hp->Prop} {p:Pos}
  (hc:X.calm=true) (B:Ug X sc) (cp:vH X sc cap N') (hi:PI X tg iter wi) (ow:zia cap g)
  (hg:∀C s₀ H₀ fp,PG (wq X N' sc C s₀ H₀ fp) tg g) (ht:∀C s₀ H₀ fp,PTs (wq X N' sc C s₀ H₀ fp) ifs tt) (he:∀C s₀ H₀ fp,PE (wq X N' sc C s₀ H₀ fp) elt te)
  (hs:∀x,foldedSetIterable iter X.env x=pure x)
  (I:Inv X pins σ H s) (h:wi σ H λJ H1=>∀acc,H1 acc=none->zjb cap g tt te J σ acc H1 (R acc))
  (fin:∀(acc C:Addr) (H':Hp) (s':Shared) (m:Str->Option Value),Inv X pins σ H' s'->s'.heap.Ns C m->C≠X.env.locals->
   (∀{σ':St} {s'':Shared},Inv X pins σ' H' s''->∀h',Heap.SameBut C s''.heap h'->Inv X pins σ' H' {s'' with heap:=h'})->
   R acc H'->compPost (model X.prog X.w) X.A X.xe use Q (.ref acc) C (.ok .next) s'):
  wpAny (model X.prog X.w) X.A (comprehension (.ListComp elt [⟨tg,iter,ifs,0⟩] sc pos) sc X.env p (newList []) false (eval iter X.env) use) Q X.xe s:=by
 refine wpAny_comprehension_free rfl hs (I.closure B) B.kind B.names (thn (hi pins s σ H _ I h) λxv s1 h1=>thn h1 λlO s2 h2=> ?_);obtain⟨it,fp,tn,J,H2,e,I2,T,cG,f2,r2⟩:=h2;subst e;have oa:∀b∈fp,b<s2.heap.objs.size:=λb hb=>by
  obtain⟨o,e,_⟩:=T.obj _ _ cG b hb;exact Heap.lt_size e
 refine wpAny_newObj_type (wpAny_newFunctionEnv B.cell (by intro y hy;simp at hy) (λh₁ hns₁ hsb₁=> ?_) B.kind);dsimp only at hns₁ hsb₁ ⊢;obtain⟨s₀,kP⟩:∃s₀:Shared,s₀={s2 with heap:=s2.heap.push {cls:= .type "list",dict:=none,data:= .seq ([]:List Value).toArray}}:=⟨_,rfl⟩;have e0h:s₀.heap=s2.heap.push {cls:= .type "list",data:= .seq #[]}:=by rw[kP]
 obtain⟨C,eC⟩:∃C:Addr,C=s₀.heap.objs.size:=⟨_,rfl⟩;obtain⟨acc,eA⟩:∃a:Addr,a=s2.heap.objs.size:=⟨_,rfl⟩;rw[show (s2.heap.push {cls:= .type "list",dict:=none,data:= .seq ([]:List Value).toArray}).objs.size=C by rw[eC,e0h]] at hns₁ hsb₁ ⊢;have keep₁:∀b o,s₀.heap.get? b=some o->h₁.get? b=some o:=λb o e=>by
  refine hsb₁.extBut b o ?_ ?_
  .rw[eC];exact rQ (Heap.lt_size e)
  .rw[e0h] at e;exact Heap.get?_push_of_some _ e
 have kR:C=s2.heap.objs.size+1:=by rw[eC,e0h,Heap.size_push]
 have iO:∀b o,s2.heap.get? b=some o->s₀.heap.get? b=some o:=λb o e=>by rw[e0h];exact Heap.get?_push_of_some _ e
 have o9:H2 acc=none:=I2.hok.fresh (ud eA.symm);show codeAny (model X.prog X.w) X.A (.compStart (.ListComp elt [⟨tg,iter,ifs,0⟩] sc pos) 0 (.ref it) (.ref s2.heap.objs.size) (compEnvC sc (zeH sc X.env) C X.env))
  (compPost (model X.prog X.w) X.A X.xe use Q (.ref s2.heap.objs.size) C) {s2 with heap:=h₁,toks:=s2.toks+([]:List (Str×Value)).length}
 rw[<-eA];have qo:({s2 with heap:=h₁,toks:=s2.toks+([]:List (Str×Value)).length}:Shared)={s₀ with heap:=h₁,toks:=s2.toks+([]:List (Str×Value)).length}:=by rw[kP]
 rw[qo];obtain⟨W,⟨m0,w0⟩,turn⟩:=r2 acc o9;have Ib:Inv (wq X N' sc C s₀ (upd H2 acc (.lst [])) fp) [] (Yc cap σ) (upd H2 acc (.lst [])) {s₀ with heap:=h₁,toks:=s2.toks+([]:List (Str×Value)).length}:=
  zh9 I2 B cp f2 oa eA (by rw[kP]) (by rw[kP]) e0h eC hns₁ keep₁
 have stat:∀{H':Hp},(∀b∈fp,H' b=none)->∀b∈fp,zco (wq X N' sc C s₀ (upd H2 acc (.lst [])) fp) [] H' b:=λhn b hb=>
  ⟨hn b hb,(Ib.ok.exf b hb).1,Ib.ok.exfs b hb,.inl hb,λx c e=>(Ib.ok.exf b hb).2 x c e,λp hp=>absurd (show p∈([]:List (Addr×Obj)) from hp) (by simp)⟩
 have qm:∀b∈fp,upd H2 acc (.lst []) b=none:=λb hb=>by
  rw[yz (by rw[eA];exact rQ (oa b hb))];exact (f2 b hb).1
 have loop:codeAny (model X.prog X.w) X.A (.compLoop (.ListComp elt [⟨tg,iter,ifs,0⟩] sc pos) 0 (.ref it) (.ref acc) (compEnvC sc (zeH sc X.env) C X.env))
   (compPost (model X.prog X.w) X.A X.xe use Q (.ref acc) C) {s₀ with heap:=h₁,toks:=s2.toks+([]:List (Str×Value)).length}:=by
  refine VC (λn s'=>∃i ys H',Inv (wq X N' sc C s₀ (upd H2 acc (.lst [])) fp) [] (Yc cap σ) H' s'/\tn i s'.heap/\(∀b∈fp,H' b=none)/\W i n ys H') ?_ m0
   ⟨0,[],_,Ib,T.keep _ _ _ cG λb hb o e=>keep₁ b o (iO b o e),qm,w0⟩
  rintro n s3 ⟨i,ys,H3,I3,iy,kO,w3⟩;rcases turn i n ys H3 w3 with⟨stop,qn⟩|⟨go,step⟩
  .refine thn (T.done (wq X N' sc C s₀ (upd H2 acc (.lst [])) fp) rfl rfl rfl hc i [] s3 _ H3 (λ_ _=>False) I3 (stat kO) iy stop) λr s4 ⟨hr,I4⟩=> ?_;subst hr;have u0:Un (frs X.stack) fp H2 (upd H2 acc (.lst [])) s2.heap s₀.heap:=Un.laid iO (ud eA.symm) o9;have un:Un (frs X.stack) fp H2 H3 s2.heap s4.heap:=u0.trans I4.base;have I5:Inv X pins σ H3 s4:=I2.call' (by rw[I4.os];show s₀.os=_;rw[kP]) un I4.hok I4.bare λb hb=>⟨(f2 b hb).2.2.2.1,(f2 b hb).2.1,(f2 b hb).2.2.2.2.1,(f2 b hb).2.2.2.2.2⟩;obtain⟨m4,pD,_⟩:=I4.loc;have CL:C≠X.env.locals:=λz=>by
    have:=I2.lt;rw[<-z,kR] at this;exact absurd this (AV.mpr (tM _))
   refine fin acc C H3 s4 m4 I5 pD CL (λ{σ' s''} I6 h' sb=> ?_) qn;refine I6.turned (t':=s''.toks) (λb o hb e=>(sb.2 b hb).trans e) I4.free CL (.inr ?_) (λx c e z=> ?_) λp hp z=> ?_
   .have:=I2.sz;rw[kR];omega
   .obtain⟨v,o,q,_⟩:=I2.cell x c e;have:=Heap.lt_size q;rw[z,kR] at this;exact absurd this (AV.mpr (tM _))
   .obtain⟨q,_⟩:=I2.pin p hp;have:=Heap.lt_size q;rw[z,kR] at this;exact absurd this (AV.mpr (tM _))
  .refine thn (T.item (wq X N' sc C s₀ (upd H2 acc (.lst [])) fp) rfl rfl rfl hc i [] s3 _ H3 (λ_ _=>False) I3 (stat kO) iy go) λr s4 ⟨u,hr,h4⟩=> ?_;subst hr;refine thn h4 ?_;rintro _ s5 ⟨x,H5,I5,r5,y5,jb,mU⟩;have I5':=I5.pinned (stat mU) (T.obj _ _ jb);refine thn (hg C s₀ _ fp _ s5 _ H5 x u _ I5' r5 (ow σ _ x H5 _ ⟨rfl,λ_ _ e=>e⟩ (step x H5 y5))) ?_;rintro _ s6 ⟨σ6,H6,I6,q6,nu⟩;have again:∀{H7:Hp} {s7:Shared} {zs:List V},Inv (wq X N' sc C s₀ (upd H2 acc (.lst [])) fp) ([]++zbq fp s5.heap) σ6 H7 s7->(∃m',m'<n/\W (i+1) m' zs H7)->
     ∃m,m<n/\∃i ys H',Inv (wq X N' sc C s₀ (upd H2 acc (.lst [])) fp) [] (Yc cap σ) H' s7/\tn i s7.heap/\(∀b∈fp,H' b=none)/\W i m ys H':=λ{H7 s7 zs} I7 w7=>by
    obtain⟨m',hm,w7⟩:=w7;refine⟨m',hm,i+1,zs,H7,(I7.unpinned).weak nu.1.symm nu.2,T.keep _ _ _ jb λb hb o e=>(I7.pin (b,o) (sC _ (sC _ (WB hb e)))).1,λb hb=> ?_,w7⟩;obtain⟨o,e,d⟩:=T.obj _ _ jb b hb;exact (I7.pin (b,o) (sC _ (sC _ (WB hb e)))).2.1
   refine thn (ht C s₀ _ fp _ s6 σ6 H6 _ I6 q6) ?_;rintro ok s7 ⟨H7,I7,q7⟩;cases ok with
   |false=>
    rw[if_neg rJ] at q7 ⊢;exact again I7 q7
   |true=>
    rw[if_pos rfl] at q7 ⊢;refine thn (he C s₀ _ fp _ s7 σ6 H7 _ I7 q7) ?_;rintro xv s8 ⟨v,H8,I8,r8,kH,pL,w8⟩;refine thn (yH _ s8 σ6 H8 (.ref acc) [v] (.ref acc) [xv] (λ_ H9=>H9=upd H8 acc (.lst (ys++[v]))) I8 rfl (.cons r8 .nil) ⟨acc,ys,v,rfl,rfl,kH,pL,rfl⟩) ?_;rintro _ s9 ⟨_,H9,I9,_,e9⟩;subst e9;exact again I9 w8
 exact codeAny_compStart_list loop (T.self _ 0 _ _ _ (T.keep _ _ _ cG λb hb o e=>keep₁ b o (iO b o e)) loop)
theorem wC (hc:X.calm=true) (B:Ug X sc) (cp:vH X sc cap N') (hi:PI X tg iter wi) (ow:zia cap g)
  (hg:∀C s₀ H₀ fp,PG (wq X N' sc C s₀ H₀ fp) tg g) (ht:∀C s₀ H₀ fp,PTs (wq X N' sc C s₀ H₀ fp) ifs tt) (he:∀C s₀ H₀ fp,PE (wq X N' sc C s₀ H₀ fp) elt te)
  (hs:∀x,foldedSetIterable iter X.env x=pure x:=by intro _;rfl):PE X (.ListComp elt [⟨tg,iter,ifs,0⟩] sc pos) (zjc cap wi g tt te):=by
 intro pins s σ H Q I h;rw[eval_ListComp];refine zdd (use:=none) (R:=λacc H2=>Q (.ref acc) H2) hc B cp hi ow hg ht he hs I h λacc C H' s' m I' hn CL mk r=> ?_;exact⟨m,hn,λh' sb=>⟨.ref acc,H',mk I' h' sb,rfl,r⟩⟩
theorem WE {i:Nat} {y:Str} {py jP:Pos} (hc:X.calm=true) (B:Ug X sc) (cp:vH X sc cap N') (hi:PI X tg iter wi) (ow:zia cap g)
  (hg:∀C s₀ H₀ fp,PG (wq X N' sc C s₀ H₀ fp) tg g) (ht:∀C s₀ H₀ fp,PTs (wq X N' sc C s₀ H₀ fp) ifs tt) (he:∀C s₀ H₀ fp,PE (wq X N' sc C s₀ H₀ fp) elt te)
  (hN:X.N.Nodup) (hy:X.N[i]? =some y) (hl:X.env.scope.names.lookup y=some .local)
  (p6:swapsWith (.ListComp elt [⟨tg,iter,ifs,0⟩] sc pos) (some (.Name y py)) jP.line X.env=pure true:=by rfl)
  (hs:∀x,foldedSetIterable iter X.env x=pure x:=by intro _;rfl):PS X (.Assign [.Name y py] (.ListComp elt [⟨tg,iter,ifs,0⟩] sc pos) jP) (zeM i cap wi g tt te):=by
 intro pins s σ H D I h;rw[exec_Assign_Name_used _ _ _ _ p6];refine wpAny_bind (wpAny_standAt (wpAny_bind ?_));show wpAny _ X.A (do let _ <-comprehension (.ListComp elt [⟨tg,iter,ifs,0⟩] sc pos) sc X.env _ (newList []) false (eval iter X.env) (some (assign (.Name y py) X.env))) _ _ s;refine wpAny_bind (thn (zdd (use:=some (assign (.Name y py) X.env)) (Q:=λ_ s'=>SP X pins D .next s') (R:=λacc H2=>D.nx (σ.set i (some (.ref acc))) H2) hc B cp hi ow hg ht he hs I h λacc C H' s' m I' hn CL mk r=> ?_) λ_ s' hq=>wpAny_pure (wpAny_pure hq));show wpAny _ X.A (assign (.Name y py) X.env (.ref acc)) _ _ _;refine wpAny_assign_Name (zc0 I' hN hy (.inl hl) (v:= .ref acc) rfl (λs'' I'' iW=> ?_) (.inr hl));obtain⟨a,sb,ha⟩:=iW;have qi:C≠a:=by
  rcases ha with ha|ha
  .rw[ha];exact CL
  .intro z;rw[<-z] at ha;obtain⟨v,o,q,d⟩:=I'.cell y C ha;obtain⟨o',es,ep,q',d',_⟩:=hn;rw[q] at q';cases q';rw[d] at d';cases d'
 exact⟨m,hn.sameBut sb qi,λh' sb'=>⟨_,H',mk I'' h' sb',r⟩⟩
end
def wO {α:Type}:Sem α->Prop
 | .pure _=>True
 | .raise _=>True
 | .unsupported _=>True
 | .finish _=>True
 | .rule _ k=>∀u,wO (k u)
 | .at _ k=>∀u,wO (k u)
 | .load _ _ k=>∀o,wO (k o)
 | .update _ _ f k=>(∀o,(f o).dict=o.dict/\(f o).cls=o.cls)/\∀u,wO (k u)
 | .alloc _ k=>∀a,wO (k a)
 | .loadIfAlive _ k=>∀o,wO (k o)
 | .point _ k=>∀u,wO (k u)
 | .stack k=>∀x,wO (k x)
 | .ask k=>∀x,wO (k x)
 |_=>False
def KD (h h':Heap):Prop:=∀(b:Nat) o,h.objs[b]? =some o->∃o',h'.objs[b]? =some o'/\o'.dict=o.dict/\o'.cls=o.cls
theorem KD.refl (h:Heap):KD h h:=λ_ o e=>⟨o,e,rfl,rfl⟩
theorem KD.trans {h h1 h2:Heap} (x:KD h h1) (y:KD h1 h2):KD h h2:=λb o e=>by
 obtain⟨o1,e1,d1,c1⟩:=x b o e;obtain⟨o2,e2,d2,c2⟩:=y b o1 e1;exact⟨o2,e2,d2.trans d1,c2.trans c1⟩
theorem KD.push (h:Heap) (o:Obj):KD h (h.push o):=λb o' e=>by
 refine⟨o',?_,rfl,rfl⟩;obtain⟨objs,l⟩:=h;show (objs.push o)[b]? =some o';have e:objs[b]? =some o':=e;rw[Array.getElem?_push];have hb:b<objs.size:=(Array.getElem?_eq_some_iff.mp e).1;rw[if_neg (rQ hb)];exact e
theorem KD.update (h:Heap) (a:Addr) {f:Obj->Obj} (hf:∀o,(f o).dict=o.dict/\(f o).cls=o.cls):KD h (h.update a f):=λb o e=>by
 obtain⟨objs,l⟩:=h;show ∃o',(objs.modify a f)[b]? =some o'/\_;rw[Array.getElem?_modify];have e:objs[b]? =some o:=e;by_cases j9:a=b
 .rw[if_pos j9,e];exact⟨f o,rfl,hf o⟩
 .rw[if_neg j9,e];exact⟨o,rfl,rfl,rfl⟩
theorem zeN {h:Heap} {a:Addr} {o:Obj} (e:h.get? a=some o):h.objs[a]? =some o:=by
 unfold Heap.get? at e;split at e
 .cases e
 .exact e
theorem KD.at {h h':Heap} {a:Addr} {o o':Obj} (k:KD h h') (e:h.get? a=some o) (e':h'.get? a=some o'):o'.dict=o.dict/\o'.cls=o.cls:=by
 obtain⟨o1,e1,d⟩:=k a o (zeN e);rw[zeN e'] at e1;cases e1;exact d
theorem zk9 {α:Type} {M:Model} {Γ:PySem.Ctx} {t:Sem α}:∀{Q:α->Pos->Shared->Prop} {E:Value->Pos->Shared->Prop} {p:Pos} {s:Shared} {h₀:Heap},wO t->KD h₀ s.heap->Sem.wp M Γ t Q E p s->
  Sem.wp M Γ t (λa p' s'=>Q a p' s'/\KD h₀ s'.heap) (λe p' s'=>E e p' s'/\KD h₀ s'.heap) p s:=by
 induction t with
 |pure a=>exact λ_ k h=>⟨h,k⟩
 |raise e=>exact λ_ k h=>⟨h,k⟩
 |unsupported w=>exact λ_ _ h=>h.elim
 |finish e=>exact λ_ _ h=>h.elim
 |rule _ k ih=>exact λt z h=>ih () (t ()) z h
 | «at» _ k ih=>exact λt z h=>ih () (t ()) z h
 |load a _ k ih=>
  intro Q E p s h₀ t z h;obtain⟨o,e,h⟩:=h;exact⟨o,e,ih o (t o) z h⟩
 |update a _ f k ih=>
  intro Q E p s h₀ t z h;obtain⟨e,h⟩:=h;exact⟨e,ih () (t.2 ()) (z.trans (KD.update _ _ t.1)) h⟩
 |alloc o k ih=>exact λt z h=>ih _ (t _) (z.trans (KD.push _ _)) h
 |loadIfAlive a k ih=>exact λt z h=>ih _ (t _) z h
 |point _ k ih=>exact λt z h=>ih () (t ()) z h
 |stack k ih=>exact λt z h=>ih _ (t _) z h
 |ask k ih=>exact λt z h=>ih _ (t _) z h
 |register _ _ _=>exact λt=>t.elim
 |fresh _ _=>exact λt=>t.elim
 |choose _ _ _ _=>exact λt=>t.elim
 |os _ _ _ _=>exact λt=>t.elim
 |call _ _ _ _ _ _=>exact λt=>t.elim
 |handled _ _ _=>exact λt=>t.elim
 |newGen _ _ _=>exact λt=>t.elim
 |genState _ _ _=>exact λt=>t.elim
 |resume _ _ _ _ _=>exact λt=>t.elim
 |yield _ _ _ _ _=>exact λt=>t.elim
 |fork _ _ _=>exact λt=>t.elim
 |thread _ _=>exact λt=>t.elim
 |await _ _ _ _ _ _=>exact λt=>t.elim
theorem zje {α:Type} {M:Model} {A:Around} {t:Sem α} {Q:α->Shared->Prop} {E:Value->Shared->Prop} {s:Shared} (T:wO t) (h:wpAny M A t Q E s):wpAny M A t (λa s'=>Q a s'/\KD s.heap s'.heap) (λe s'=>E e s'/\KD s.heap s'.heap) s:=
 λΓ p hΓ=>zk9 T (KD.refl _) (h Γ p hΓ)
theorem zic {α β:Type} {f:α->Sem β} (hf:∀a,wO (f a)):∀{t:Sem α},wO t->wO (t.bind f):=by
 intro t
 induction t with
 |pure a=>exact λ_=>hf a
 |raise e=>exact λ_=>trivial
 |unsupported w=>exact λ_=>trivial
 |finish e=>exact λ_=>trivial
 |rule _ k ih=>exact λt u=>ih u (t u)
 | «at» _ k ih=>exact λt u=>ih u (t u)
 |load a _ k ih=>exact λt u=>ih u (t u)
 |update a _ f k ih=>exact λt=>⟨t.1,λu=>ih u (t.2 u)⟩
 |alloc o k ih=>exact λt u=>ih u (t u)
 |loadIfAlive a k ih=>exact λt u=>ih u (t u)
 |point _ k ih=>exact λt u=>ih u (t u)
 |stack k ih=>exact λt u=>ih u (t u)
 |ask k ih=>exact λt u=>ih u (t u)
 |register _ _ _=>exact λt=>t.elim
 |fresh _ _=>exact λt=>t.elim
 |choose _ _ _ _=>exact λt=>t.elim
 |os _ _ _ _=>exact λt=>t.elim
 |call _ _ _ _ _ _=>exact λt=>t.elim
 |handled _ _ _=>exact λt=>t.elim
 |newGen _ _ _=>exact λt=>t.elim
 |genState _ _ _=>exact λt=>t.elim
 |resume _ _ _ _ _=>exact λt=>t.elim
 |yield _ _ _ _ _=>exact λt=>t.elim
 |fork _ _ _=>exact λt=>t.elim
 |thread _ _=>exact λt=>t.elim
 |await _ _ _ _ _ _=>exact λt=>t.elim
theorem tb {α β:Type} {t:Sem α} {f:α->Sem β} (h:wO t) (hf:∀a,wO (f a)):wO (t>>=f):=zic hf h
theorem zcu (v:Value):wO (fieldsOf v):=by
 unfold fieldsOf;split
 .refine tb (λo=>trivial) λo=> ?_;split<;>trivial
 .trivial
theorem WF (v:Value) (i:Nat):wO (field v i):=by
 unfold field;refine tb (zcu v) λa=> ?_;split<;>trivial
theorem zbx (g:Array Value->Array Value) (o:Obj):(Obj.mapFields g o).dict=o.dict/\(Obj.mapFields g o).cls=o.cls:=by
 obtain⟨c,d,dt,sl⟩:=o;cases dt<;>exact⟨rfl,rfl⟩
theorem XM (v:Value) (i:Nat) (x:Value):wO (setField v i x):=by
 unfold setField;split
 .unfold updateField;refine tb (λo=>trivial) λo=> ?_;split
  .split
   .exact⟨λo=>zbx _ o,λ_=>trivial⟩
   .trivial
  .trivial
 .trivial
theorem zby (e:Value) (f:Option Addr):wO (setFlight e f):=by
 unfold setFlight;refine tb (WF _ _) λtb'=> ?_;split
 .exact XM _ _ _
 .trivial
theorem zbz (ty:String) (vs:List Value):wO (newFields ty vs):=by
 have h:wO (newObjAsIs (Value.type ty) (Data.fields vs.toArray)):=by
  unfold newObjAsIs;exact tb (λa=>trivial) λa=>trivial
 unfold newFields newObj;show wO (if vs.toArray.size>sizeLine+2 then (unsupported "record:memory">>=λ_=>newObjAsIs (Value.type ty) (Data.fields vs.toArray)) else newObjAsIs (Value.type ty) (Data.fields vs.toArray));split
 .trivial
 .exact h
theorem zeO (env:Env) (outer:List Env):wO (behindIsImport env outer):=by
 unfold behindIsImport;split
 .trivial
 .split
  .trivial
  .exact tb (WF _ _) λ_=>trivial
theorem zf3:wO underTheClaimsCaller:=tb (λ_=>trivial) λ_=>trivial
theorem zcv (env:Env) (i:Bool) (outer:List Env):wO (keptBack env i outer):=by
 cases outer with
 |nil=>
  unfold keptBack;by_cases h:(env.scope.isGenerator||env.scope.isCoroutine)=true
  .rw[if_pos h];trivial
  .rw[if_neg h];refine tb zf3 λx=> ?_;trivial
 |cons c r=>
  unfold keptBack;trivial
theorem zbA:∀l:List Env,wO (readyFrames l)
 |[]=>trivial
 |env::outer=>by
  unfold readyFrames;split
  .refine tb (λo=>trivial) λo=> ?_;split
   .trivial
   .exact tb (zeO _ _) λi=>tb (zcv _ _ _) λb=>tb ⟨λo=>⟨rfl,rfl⟩,λ_=>trivial⟩ λ_=>zbA outer
  .trivial
theorem zdI (env:Env):wO (Ak env):=by
 unfold Ak;refine tb (λx=>trivial) λl=>tb ?_ λo=> ?_
 .generalize List.dropWhile _ l=l';unfold frameObject;cases l' with
  |nil=>trivial
  |cons a r=>exact tb (zbA _) λ_=>trivial
 .split<;>trivial
theorem za1 (f:Addr) (b:Bool):wO (entryPlaceOf f b):=by
 unfold entryPlaceOf;refine tb (λx=>trivial) λl=> ?_;split<;>trivial
theorem zbB (e:Value) (env:Env):wO (noteFrame e env):=by
 unfold noteFrame;split
 .rename_i f _;have last:∀head:Value,wO (do setField e 1 (<-EntryCells.newEntry head (<-Ak env) .none (rawInt f) .none (<-entryPlaceOf f (head != .none)))):=λhead=>
   tb (zdI env) λa=>tb (za1 _ _) λpl=>tb (zbz _ _) λb=>XM _ _ _
  refine tb (WF _ _) λhead=> ?_;split
  .refine tb (WF _ _) λx=> ?_;split
   .trivial
   .exact tb (XM _ _ _) λ_=>last head
  .exact last head
 .trivial
theorem zdJ (env:Env) (e:Value):wO (leaving env e):=tb (zbB e env) λ_=>zby _ _
theorem xB.there {P:Program} {w:World} {H:Hp} {h:Heap} {a:Addr} {o:HO} (x:xB P w H h a o):∃ob,h.get? a=some ob:=by
 cases o with
 |lst xs=>obtain⟨_,_,_,_,e⟩:=x;exact⟨_,e⟩
 |tup xs=>obtain⟨_,_,_,ob,e,_⟩:=x;exact⟨_,e⟩
 |dK aj=>obtain⟨_,_,_,_,o,_,_,e,_⟩:=x;exact⟨_,e⟩
 |dT aj=>obtain⟨_,_,_,_,o,_,_,e,_⟩:=x;exact⟨_,e⟩
 |dN aj=>obtain⟨_,_,_,_,o,_,_,e,_⟩:=x;exact⟨_,e⟩
 |set S n=>obtain⟨o,_,_,_,e,_⟩:=x;exact⟨_,e⟩
 |ins C dx fs=>obtain⟨_,_,_,e,_⟩:=x;exact⟨_,e⟩
 |own y=>obtain⟨_,e⟩:=x;exact⟨_,e⟩
 |xd fs=>obtain⟨_,⟨_,_,_,e,_⟩,_⟩:=x;exact⟨_,e⟩
 |rng lo hi=>obtain⟨_,_,_,e⟩:=x;exact⟨_,e⟩
 |frz ob u=>obtain⟨e,_⟩:=x;exact⟨_,e⟩
 |tbl ps=>exact⟨_,(show h.get? a=some _ from x)⟩
 |met f y=>exact⟨_,(show h.get? a=some _ from x)⟩
 |ext φ=>obtain⟨_,⟨_,e⟩,_⟩:=x;exact⟨_,e⟩
def Cov (outer:List Env) (H':Hp) (old h' B:Heap):Prop:=
 (∀b o,(∃o0,old.get? b=some o0)->b∉frs outer->h'.get? b=some o->B.get? b=some o)/\∀b u o,H' b=some u->h'.get? b=some o->B.get? b=some o
structure Fly (P:Program) (w:World) (outer:List Env) (H:Hp) (s:Shared) (e:Addr) (cls:Value) (H':Hp) (s':Shared):Prop where
 os:s'.os=s.os
 bare:AllBare s'.gens
 un:Un (frs outer) [] H H' s.heap s'.heap
 hok:HOk P w H' s'.heap
 fly:∃B t,Heap.FlyingW B outer e cls (.ref t) s'.heap/\Cov outer H' s.heap s'.heap B
 new:s.heap.get? e=none
 free:H' e=none
 nd:∀o,s'.heap.get? e=some o->o.dict=none
noncomputable def CXE (P:Program) (w:World):CXT:=λouter H s E ev s'=>∃e cls H',ev= .ref e/\Fly P w outer H s e cls H' s'/\E cls none H'
theorem Fly.moved {P:Program} {w:World} {outer:List Env} {H H':Hp} {s s':Shared} {e:Addr} {cls a0:Value} {B h2:Heap} (F:Fly P w outer H s e cls H' s') (fl:Heap.FlyingW B outer e cls a0 s'.heap) (cov:Cov outer H' s.heap s'.heap B)
  (st:B.StaysIn h2) (sm:s'.heap.UpToSlots h2):Un (frs outer) [] H H' s.heap h2/\HOk P w H' h2/\Cov outer H' s.heap h2 B:=by
 have nofs:∀b u,H' b=some u->∃o,s'.heap.get? b=some o/\B.get? b=some o/\h2.get? b=some o:=λb u q=>by
  obtain⟨o,e1⟩:=(F.hok b u q).there;have e2:=cov.2 b u o q e1;exact⟨o,e1,e2,st b o e2⟩
 have old:∀b o0,s.heap.get? b=some o0->b∉frs outer->∃o,s'.heap.get? b=some o/\B.get? b=some o/\h2.get? b=some o:=λb o0 q hb=>by
  obtain⟨o,e1⟩:=F.un.there b o0 q (by simp);have e2:=cov.1 b o ⟨o0,q⟩ hb e1;exact⟨o,e1,e2,st b o e2⟩
 have fr:∀b∈frs outer,∃o sl,s'.heap.get? b=some o/\h2.get? b=some {o with slots:=sl}:=λb hb=>by
  obtain⟨_,o,e1,d⟩:=fl.2.2.1.mem hb;obtain⟨sl,e2⟩:=sm b o e1 d;exact⟨o,sl,e1,e2⟩
 refine⟨⟨λb o q n hb _=> ?_,λb o q n hb _=> ?_,λb o q n hx=>F.un.free b o q n hx,λb o q _=> ?_,F.un.tups,F.un.frzs,F.un.tbls⟩,λa u q=> ?_,λb o q hb e1=> ?_,λb u o q e1=> ?_⟩
 .obtain⟨o1,e1,_,e3⟩:=old b o q hb;have e4:=F.un.keep b o q n hb (by simp);rw[e1] at e4;cases e4;exact e3
 .obtain⟨o1,ng,e1,e2⟩:=fr b hb;obtain⟨sl,e4⟩:=F.un.slot b o q n hb (by simp);rw[e1] at e4;cases e4;exact⟨ng,e2⟩
 .by_cases hb:b∈frs outer
  .obtain⟨o1,ng,e1,e2⟩:=fr b hb;exact⟨_,e2⟩
  .obtain⟨o1,_,_,e3⟩:=old b o q hb;exact⟨_,e3⟩
 .refine (F.hok a u q).stay (λb ob hb eb=> ?_) (λ_ z=>z) λ_ _ z=>z;have:∃u',H' b=some u':=by
   rcases hb with z|z
   .exact⟨u,z ▸ q⟩
   .exact⟨_,z⟩
  obtain⟨u',hu⟩:=this;obtain⟨o1,e1,_,e3⟩:=nofs b u' hu;rw[eb] at e1;cases e1;exact e3
 .obtain⟨o0,q⟩:=q;obtain⟨o1,_,e2,e3⟩:=old b o0 q hb;rw[e1] at e3;cases e3;exact e2
 .obtain⟨o1,_,e2,e3⟩:=nofs b u q;rw[e1] at e3;cases e3;exact e2
section
variable {P:Program} {w:World} {K:r6} {mg:Str->Option Value} {base:Heap} {N:List Str} {qual:Str} {scope:Scope} {f:Addr} {aH:Value} {A:Around} {outer:List Env} {s:Shared} {H:Hp} {E:XK}
theorem zj:Vy (CXE P w) (zeA (CXE P w) P w K mg base N qual scope f aH A outer s H E) E:=by
 rintro pins σ H1 s1 ev s' I ⟨e,cls,H',rfl,F,hE⟩;obtain⟨B,t,fl,cov⟩:=F.fly;have pY:∀b∈frs (envOfC qual scope s.heap.objs.size f aH::outer),b∈s.heap.objs.size::frs outer:=I.stkSub;refine wpAny_mono (zje (zdJ _ _) (wpAny_leaves_onW (E:=λ_ _=>False) (Q:=λ_ s''=>∃h',s''={s' with heap:=h'}/\Heap.FlyingW B outer e cls (.ref t) h'/\s'.heap.UpToSlots h') (L:=s.heap.objs.size) I.ok.frames rfl fl λh' x1 x2=>⟨h',rfl,x1,x2⟩)) (λ_ s3 h3=> ?_) λ_ _ h3=>h3.1.elim;obtain⟨⟨h',rfl,x1,x2⟩,kd⟩:=h3;obtain⟨un,hok,cov'⟩:=F.moved fl cov x1.1 x2;have iN:∀b:Addr,b∉(zeA (CXE P w) P w K mg base N qual scope f aH A outer s H E).ex:=λb z=>absurd (show b∈([]:List Addr) from z) (by simp);have nj:∀b o,s.heap.get? b=some o->b∉frs outer->b∉frs (envOfC qual scope s.heap.objs.size f aH::outer):=λb o q hb hz=>by
  rcases rX.mp (pY b hz) with z|z
  .exact rQ (Heap.lt_size q) z
  .exact hb z
 have sub:∀b∈frs outer,b∈frs (envOfC qual scope s.heap.objs.size f aH::outer):=λb hb=>by
  unfold frs at hb ⊢;rw[ur];exact rF _ hb
 refine⟨e,cls,H',rfl,⟨F.os.trans I.os,F.bare,⟨λb o q n hb _=> ?_,λb o q n hb _=> ?_,λb o q n _=> ?_,λb o q _=> ?_,λb xs q=>un.tups b xs (I.base.tups b xs q),λb o xs q=>un.frzs b o xs (I.base.frzs b o xs q),λb ps q=> ?_⟩,hok,
  ⟨B,t,x1,λb o q hb e1=> ?_,cov'.2⟩,?_,F.free,λo q=> ?_⟩,hE⟩
 .exact un.keep b o (I.base.keep b o q n hb (iN b)) (I.base.free b o q n (iN b)) (nj b o q hb) (by simp)
 .obtain⟨sl,e1⟩:=I.base.slot b o q n hb (iN b);obtain⟨jI,e2⟩:=un.slot b _ e1 (I.base.free b o q n (iN b)) (sub b hb) (by simp);exact⟨jI,e2⟩
 .obtain⟨o1,e1⟩:=I.base.there b o q (iN b);exact un.free b o1 e1 (I.base.free b o q n (iN b)) (by simp)
 .obtain⟨o1,e1⟩:=I.base.there b o q (iN b);exact un.there b o1 e1 (by simp)
 .obtain⟨m1,e1⟩:=I.base.tbls b ps q;obtain⟨m2,e2⟩:=un.tbls b _ e1;exact⟨m1++m2,by rw[e2,v8]⟩
 .obtain⟨o0,q⟩:=q;obtain⟨o1,q1⟩:=I.base.there b o0 q (iN b);exact cov'.1 b o ⟨o1,q1⟩ (nj b o0 q hb) e1
 .cases q:s.heap.get? e with
  |none=>rfl
  |some o=>
   obtain⟨o',q'⟩:=I.base.there e o q (iN e);have:=F.new;rw[q'] at this;cases this
 .obtain⟨ob,nU,_⟩:=fl.there;exact (kd.at nU q).1.trans (F.nd ob nU)
end
structure zf4 (K:r6) (mg:Str->Option Value) (x:Str) (C:Addr) (qu:List Value) (newId:String):Prop where
 mg:mg x=some (.ref C)
 qC:w9 K C qu newId=true
theorem Uy {P:Program} {w:World} {X:Cx}:Vy (CXE P w) X E0:=λ_ _ _ _ _ _ _ ⟨_,_,_,_,_,h⟩=>h.elim
abbrev TEx:=St->Hp->VK->(Value->Hp->Prop)->Prop
abbrev TAx:=St->Hp->(List V->Hp->Prop)->(Value->Hp->Prop)->Prop
noncomputable abbrev TSx:=zak->(Value->Hp->Prop)->St->Hp->Prop
section
variable {X:Cx} {e:Expr} {es:List Expr} {te:TE}
end
noncomputable def zne (e:Addr) (cls:Value):HO:= .ext λh=>∃ob,h.get? e=some ob/\ob.cls=cls/\ob.dict=none/\∃vs,ob.data= .fields vs
noncomputable abbrev Cx.hand (X:Cx) (e:Addr):Cx:={X with A:=X.A.mark (some (.ref e)),calm:=false,xe:=λ_ _=>False}
section
variable {X:Cx} {pins:List (Addr×Obj)} {σ:St} {H:Hp} {s:Shared}
end
open PySem.Builtin.Int (intBits)
def zmm (i j:Int):Prop:=∃m n:Nat,intBits i<=m/\intBits j<=n/\m+n<=134217728
section
variable {X:Cx}
theorem WG:OpR X (binaryOp .Mult) (rI zmm λi j=> .int (i*j)):=opI λ_ _ _ _ _ _ _ hc q=>by
 obtain⟨m,n,h1,h2,h3⟩:=hc;exact mul_int q (IntMulOk.of_le h1 h2 h3)
end
section
variable {prog:Program} {w:World} {A:Around} {E:Value->Shared->Prop} {s:Shared} {K:r6} {x D:Addr} {ox:Obj}
theorem zdK {M:Model} {nameV:Value} {Q:Unit->Shared->Prop} (X:K.In s.heap) (I:uZ s.heap x ox D none) (be:sk K D (.type "BaseException")=some true) (hq:Q () s):
  wpAny M A (checkBuiltinCall "BaseException.__getattribute__" ⟨[.ref x,nameV],[]⟩) Q E s:=by
 obtain⟨hh,g,d,t,os⟩:=s;have hk:builtinKind "BaseException.__getattribute__"=some .slot:=by decide+kernel
 have hsplit:splitId "BaseException.__getattribute__"=some ("BaseException","__getattribute__"):=by decide+kernel
 have L0:=I.type (M:=M);have L1:=PySem.W.looks_mroIn (M:=M) X be;have ha:=F.args_bexc_ga (.ref x) nameV;simp only[checkBuiltinCall,hk,hsplit];refine wpAny_bind ?_;unfold isInstance;refine wpAny_bind (L0.at (L1.at ?_))
 repeat (first|wp_step)
 exact hq
theorem zid {Q:Option Value->Shared->Prop} (X:K.In s.heap) (I:uZ s.heap x ox D none) (ga:rK K (.ref D) "__getattribute__"=some (some (.builtin "BaseException.__getattribute__"))) (noga:rK K (.ref D) "__getattr__"=some none)
  (be:sk K D (.type "BaseException")=some true) (hf:A2 K D none "__class__"=some (.bind (.builtin "getset_descriptor.__get__") (.builtin "object.__class__"))) (hm:sk K D (.type "object")=some true)
  (h:Q (some (.ref D)) {s with toks:=s.toks+1}):wpAny (model prog w) A (getAttr? (.ref x) "__class__") Q E s:=by
 obtain⟨hh,g,d,t,os⟩:=s;have L0:=I.type (M:=model prog w);have L1:=uS (M:=model prog w) X ga;have L2:=uS (M:=model prog w) X noga;have L3:=PySem.W.looks_find (M:=model prog w) X I hf;have hb:=F.attrBase_ValueError.ga.bind (.ref x);unfold getAttr? getAttrBy? getAttrBy;refine wpAny_bind (wpAny_mkText (wpAny_bind (wpAny_attempt (wpAny_holding (wpAny_bind (L0.at (wpAny_bind (L1.at ?_))))))));dsimp only;rw[if_neg (show ¬(onTheHeap (Value.ref D)&&(Value.builtin "BaseException.__getattribute__"==Value.builtin "object.__getattribute__"))=true by rw[show (Value.builtin "BaseException.__getattribute__"==Value.builtin "object.__getattribute__")=false by decide+kernel];simp)];unfold getAttrByItsOwn hookBefore;refine wpAny_bind ?_;show wpAny _ _ (typeLookup (.ref D) "__getattr__") _ _ _;refine L2.at ?_;refine wpAny_bind (wpAny_attempt (wpAny_holding ?_));unfold callGetattribute boundAndCalled;rw[if_neg ∅,hb];refine wpAny_bind (wpAny_pure ?_);dsimp only;refine wpAny_call (codeAny_call_builtin F.attrBase_ValueError.ga.plain F.entry_bexc_ga (zdK (ox:=ox) X I be ?_));unfold Builtin.«object.__getattribute__»;refine wpAny_bind (wpAny_of_eq (show slotArgs "__getattribute__" 1 {pos:=[Value.ref x]++[Value.str (Str.ofString "__class__") t]}=pure (.ref x,[Value.str (Str.ofString "__class__") t]) from rfl) ?_);dsimp only;refine wpAny_bind (wpAny_of_eq (show Builtin.ObjectAttr.attrName (Value.str (Str.ofString "__class__") t)=pure (Str.ofString "__class__") from rfl) ?_);refine wpAny_bind (L0.at (wpAny_bind (L3.at ?_)));dsimp only;show wpAny _ _ (do ret (<-holding [Value.builtin "object.__class__"] (call (.builtin "getset_descriptor.__get__") [.builtin "object.__class__",.ref x,.ref D]))) _ _ _;refine wpAny_bind (wpAny_holding (wpAny_call (PySem.W.class_get (ox:=ox) (od:=none) X I hm ?_)));exact wpAny_pure (PySem.W.handed_on rfl (wpAny_pure h))
end
section
variable {X:Cx}
structure zeP (K:r6) (D:Addr):Prop where
 ga:rK K (.ref D) "__getattribute__"=some (some (.builtin "BaseException.__getattribute__"))
 noga:rK K (.ref D) "__getattr__"=some none
 be:sk K D (.type "BaseException")=some true
 hc:(Al K D).isSome=true
 ha:rK K (.ref D) "__class__"=some (some (.builtin "object.__class__"))
 hn:uH K (.builtin "object.__class__") "__get__"=some (some (.builtin "getset_descriptor.__get__"))
 htk:z8 K (.builtin "object.__class__")=some true
 hm:sk K D (.type "object")=some true
theorem zjf {K:r6} {x D:Addr} (e:zeP K D):Bo K (.ref x) (.ref D) (λh=>∃ox,uZ h x ox D none) where
 ty:=λ_ _ _ ⟨_,I⟩=>I.type
 it:=λ_ _ X _=>by
  obtain⟨cd,fC⟩:=tX.mp e.hc;unfold Al at fC;split at fC
  .rename_i ho;intro A' Q' E' s' k q;unfold isType loadHead;exact wpAny_bind (wpAny_loadPart (k _ _ (X _ _ ho)) (wpAny_pure q))
  .cases fC
 ne:=λh tp dd af n sl X la=>by
  obtain⟨cd,fC⟩:=tX.mp e.hc;refine Bool.eq_false_iff.mpr λq=> ?_;have z:D=tp:=Value.ref.inj (beq_iff_eq.mp q);subst z;unfold Al at fC;split at fC
  .rename_i ho;have y:=(X _ _ ho).symm.trans la;cases y
  .cases fC
 ca:=λ{_ _ _ _ _ s} X I k=>by
  obtain⟨ox,I⟩:=I;obtain⟨cd,fC⟩:=tX.mp e.hc;have hf:A2 K D none "__class__"=some (.bind (.builtin "getset_descriptor.__get__") (.builtin "object.__class__")):=by
   unfold A2;rw[fC,rE,e.ha,rE];simp[e.hn,e.htk]
  exact zid X I e.ga e.noga e.be hf e.hm k
inductive TyX (K:r6) (H:Hp):V->Value->Prop where
 |of {x:V} {t:Value} (h:zaZ K H x t):TyX K H x t
 |exc {e D:Addr} (h:H e=some (zne e (.ref D))) (k:zeP K D):TyX K H (.ref e) (.ref D)
 |sqt {a:Addr} {xs:List V} (h:SqT K H a xs):TyX K H (.ref a) (.type "tuple")
 |sql {a:Addr} {xs:List V} (h:SqL K H a xs):TyX K H (.ref a) (.type "list")
theorem TyX.kit {pins:List (Addr×Obj)} {σ:St} {H:Hp} {s:Shared} {x:V} {u t:Value} (I:Inv X pins σ H s) (rx:yr x u) (ty:TyX X.K H x t):∃Hh,Bo X.K u t Hh/\Hh s.heap:=by
 cases ty with
 |of ty=>
  cases ty with
  |non=>cases (show u=Value.none from rx);exact⟨_,PySem.W.kitx_none,u6⟩
  |bl y=>cases (show u=Value.bool y from rx);exact⟨_,PySem.W.kitx_bool,u6⟩
  |int i=>obtain⟨t,q⟩:=(show ∃t,u=Value.int i t from rx);cases q;exact⟨_,PySem.W.kitx_int,u6⟩
  |str y=>obtain⟨t,q⟩:=(show ∃t,u=Value.str y t from rx);cases q;exact⟨_,PySem.W.kitx_str,u6⟩
  |flt y=>obtain⟨t,q⟩:=(show ∃t,u=Value.float y t from rx);cases q;exact⟨_,PySem.W.kitx_float,u6⟩
  | @lst a xs ea=>
   cases (show u=Value.ref a from rx);obtain⟨_,_,n,_,h1⟩:=(show xB X.prog X.w H s.heap a (.lst xs) from I.hok a _ ea);exact⟨_,y2,⟨_,h1,rfl⟩⟩
  | @frz a ob xs ea=>
   cases (show u=Value.ref a from rx);obtain⟨_,_,_,n,_,h1⟩:=(show xB X.prog X.w H s.heap a (.frz ob (.lst xs)) from I.hok a _ ea);exact⟨_,y2,⟨_,h1,rfl⟩⟩
  | @tup a xs ea=>
   cases (show u=Value.ref a from rx);obtain⟨_,_,_,p⟩:=(show xB X.prog X.w H s.heap a (.tup xs) from I.hok a _ ea);obtain⟨o,h1,h2,_⟩:=p;exact⟨_,As,⟨o,h1,h2⟩⟩
  | @dK a aj ea=>
   cases (show u=Value.ref a from rx);obtain⟨_,_,vs,_,p⟩:=(show xB X.prog X.w H s.heap a (.dK aj) from I.hok a _ ea);obtain⟨o,es,ep,h1,h2,_⟩:=p;exact⟨_,Ax,⟨o,h1,h2.1⟩⟩
  | @dT a aj ea=>
   cases (show u=Value.ref a from rx);obtain⟨_,_,xs,_,o,es,ep,h1,h2,_⟩:=(show xB X.prog X.w H s.heap a (.dT aj) from I.hok a _ ea);exact⟨_,Ax,⟨o,h1,h2.1⟩⟩
  | @ins a C dx fs ea cl ha hn htk hm=>
   cases (show u=Value.ref a from rx);obtain⟨mA,O,_⟩:=zbb I.hok ea;obtain⟨od,J,_⟩:=O.look;exact⟨_,PySem.W.kitx_own (cl.get _) cl.hd ha hn htk hm,J⟩
 | @sqt a xs h=>
  cases (show u=Value.ref a from rx);obtain⟨af,_,⟨o,h1,h2,_⟩,_⟩:=I.tuple h;exact⟨_,As,⟨o,h1,h2⟩⟩
 | @sql a xs h=>
  cases (show u=Value.ref a from rx);obtain⟨af,_,⟨o,n,h1,h2,_⟩,_⟩:=I.list h;exact⟨_,y2,⟨o,h1,h2⟩⟩
 | @exc e D h k=>
  cases (show u=Value.ref e from rx);obtain⟨⟨ob,h1,h2,h3,vs,h4⟩,_⟩:=(show xB X.prog X.w H s.heap e (zne e (.ref D)) from I.hok e _ h);refine⟨_,zjf k,ob,h1,h2,?_,?_⟩
  .unfold PySem.W.notCls;rw[h4]
  .rw[h3];trivial
noncomputable def zoS:V->Option Value
 | .ref a=>some (.ref a)
 | .ty n=>some (.type n)
 |_=>none
theorem zjg {c:V} {cv u:Value} (h:zoS c=some cv) (r:yr c u):u=cv:=by
 cases c with
 |ref a=>cases h;exact r
 |ty n=>cases h;exact r
 |_=>cases h
theorem yr.nb {x:V} {u:Value} (r:yr x u):u≠ .builtin "__main__.__loader__#opaque":=by
 cases x with
 |non=>rintro rfl;cases r
 |bl b=>rintro rfl;cases r
 |int i=>rintro rfl;obtain⟨_,q⟩:=r;cases q
 |str i=>rintro rfl;obtain⟨_,q⟩:=r;cases q
 |byt i=>rintro rfl;obtain⟨_,q⟩:=r;cases q
 |flt i=>rintro rfl;obtain⟨_,q⟩:=r;cases q
 |ref a=>rintro rfl;cases r
 |ty a=>rintro rfl;cases r
def zla (K:r6):List V->Hp->VK->Prop:=λxs H Q=>∃x c cv t b,xs=[x,c]/\zoS c=some cv/\TyX K H x t/\sE K t cv=some b/\Q (.bl b) H
theorem zjh:vC X (.builtin "isinstance") (zla X.K):=by
 intro pins s σ H xs us Q I r h;obtain⟨x,c,cv,t,b,rfl,hc,ty,e,q⟩:=h;obtain⟨u,w',rfl,ru,rw'⟩:=zgV r;obtain rfl:=zjg hc rw';obtain⟨Hh,Z,p⟩:=ty.kit I ru;exact PySem.W.kia_one Z I.kIn p e ru.nb λtk=>⟨.bl b,H,I.tok tk,rfl,q⟩
end
theorem zbC {K:r6} {t:Value}:sE K t t=some true:=by unfold sE;rw[if_pos (by simp)]
theorem zdL {K:r6}:sE K (.type "bool") (.type "int")=some true:=by
 have h:(fastBuiltinMro "bool").map (·.contains (.type "int"))=some true:=by decide+kernel
 have hm:tP "int"=true:=by decide+kernel
 unfold sE Ag;rw[if_neg ∅];show (if tP "int"=true then x3 K (.type "bool") (.type "int") else none)=_;rw[if_pos hm];exact h
theorem zdM {K:r6}:sE K (.type "int") (.type "bool")=some false:=by
 have h:(fastBuiltinMro "int").map (·.contains (.type "bool"))=some false:=by decide+kernel
 have hm:tP "bool"=true:=by decide+kernel
 unfold sE Ag;rw[if_neg ∅];show (if tP "bool"=true then x3 K (.type "int") (.type "bool") else none)=_;rw[if_pos hm];exact h
end L2
namespace L2
open PySem PySem.Spec PyProof.Rows
inductive D where
 |non|bl (b:Bool)|int (i:Int)|str (x:Str)|tup (l:List D)|lst (l:List D)|ins (C:Addr) (ns:List Str) (l:List D)
mutual
inductive Is (K:r6) (H:Hp):V->D->Prop where
 |non:Is K H .non .non
 |bl (b:Bool):Is K H (.bl b) (.bl b)
 |int (i:Int):Is K H (.int i) (.int i)
 |str (x:Str):Is K H (.str x) (.str x)
 |tup {a:Addr} {xs:List V} {ds:List D}:SqT K H a xs->IsL K H xs ds->Is K H (.ref a) (.tup ds)
 |lst {a:Addr} {xs:List V} {ds:List D}:SqL K H a xs->IsL K H xs ds->Is K H (.ref a) (.lst ds)
 |ins {a C dx:Addr} {ns:List Str} {xs:List V} {ds:List D}:H a=some (.ins C dx (ns.zip xs))->ns.length=xs.length->IsL K H xs ds->Is K H (.ref a) (.ins C ns ds)
inductive IsL (K:r6) (H:Hp):List V->List D->Prop where
 |nil:IsL K H [] []
 |cons {v:V} {d:D} {vs:List V} {ds:List D}:Is K H v d->IsL K H vs ds->IsL K H (v::vs) (d::ds)
end
theorem vI {H:Hp} {p:Addr} {o:HO} (h:H p=none):UI H (upd H p o):=λb u e=>by rw[yz (Zo e h)];exact e
theorem IsL.len {K:r6} {H:Hp}:∀{vs:List V} {ds:List D},IsL K H vs ds->vs.length=ds.length
 |_,_,.nil=>rfl
 |_,_,.cons _ l=>by rw[rl,rl,l.len]
theorem IsL.get {K:r6} {H:Hp}:∀{vs:List V} {ds:List D} {i:Nat} {d:D},IsL K H vs ds->ds[i]? =some d->∃v,vs[i]? =some v/\Is K H v d
 |_,_,_,_,.nil,e=>by simp at e
 |_,_,0,_,.cons h _,e=>by simp at e;subst e;exact⟨_,rfl,h⟩
 |_,_,i+1,d,.cons _ l,e=>by
  obtain⟨v,e1,e2⟩:=l.get (i:=i) (d:=d) (by simpa using e);exact⟨v,by simpa using e1,e2⟩
theorem Is.int_inv {K:r6} {H:Hp} {v:V} {i:Int} (h:Is K H v (.int i)):v= .int i:=by cases h;rfl
theorem Is.bl_inv {K:r6} {H:Hp} {v:V} {b:Bool} (h:Is K H v (.bl b)):v= .bl b:=by cases h;rfl
theorem Is.str_inv {K:r6} {H:Hp} {v:V} {b:Str} (h:Is K H v (.str b)):v= .str b:=by cases h;rfl
theorem Is.non_inv {K:r6} {H:Hp} {v:V} (h:Is K H v .non):v= .non:=by cases h;rfl
theorem Is.tup_inv {K:r6} {H:Hp} {v:V} {ds:List D} (h:Is K H v (.tup ds)):∃a xs,v= .ref a/\SqT K H a xs/\IsL K H xs ds:=by cases h with|tup a b=>exact⟨_,_,rfl,a,b⟩
theorem Is.lst_inv {K:r6} {H:Hp} {v:V} {ds:List D} (h:Is K H v (.lst ds)):∃a xs,v= .ref a/\SqL K H a xs/\IsL K H xs ds:=by cases h with|lst a b=>exact⟨_,_,rfl,a,b⟩
noncomputable abbrev dQ (a b:Int):D:= .tup [.int a,.int b]
section
variable {σ:St} {H:Hp} {Q:VK} {ta tb tc:TE} {D':zak} {v:V} {i:Nat}
end
local macro_rules | `(tactic| walk_at "rd") => `(tactic| repeat (first | refine nC ?_ | refine nN ?_ | refine kX ?_ | refine nA rfl ?_ | refine qD ?_ | refine oO ?_ | refine oQ ?_ | refine qE ?_ | refine oM ?_ | refine nM ?_ | refine qG ?_ | refine qF ?_ | refine oP ?_ | refine nG ?_ | refine nO ?_ | refine oN ?_ | refine lW ?_ | refine nF ?_ | refine lR ?_ | refine nL ?_ | refine lS ?_ | refine lT ?_ | refine nD ?_ | refine lP ?_ | refine nK ?_ | refine nH ?_ | refine lU ?_ | refine lV ?_ | refine oR ?_ | refine nB ?_ | refine nJ ?_ | refine nE ?_ | refine lQ ?_ | refine kW ?_))
end L2
namespace L2
open PySem PySem.Spec PyProof.Rows
section
variable {σ:St} {H:Hp} {Q:VK} {D':zak} {E:XK}
end
theorem Fun.okE {P:Program} {w:World} {K:r6} {mg:Str->Option Value} {base:Heap} {x qual:Str} {st:Stmt} {f:Addr} {fd:FuncData} {N ps:List Str} {k:Nat} {sp:Sp} (F:Fun K x qual st f fd) (S:zw N ps (zf st)) (len:∀vs H Q E,sp vs H Q E->vs.length=ps.length)
  (hU:∀(aH:Value) (A:Around) (outer:List Env) (s:Shared) (H:Hp) (vs:List V) (Q:VK) (E:XK),Zs k (A.deeper (envOfC qual (zf st) s.heap.objs.size f aH))->sp vs H Q E->
   ∃t,PSs (zeA (CXE P w) P w K mg base N qual (zf st) f aH A outer s H E) (Xs st) t/\t {nx:=λ_ H'=>Q .non H',rt:=Q} (Vz N vs) H):zZ P w K mg base (CXE P w) (k+1) f fd ps sp:=by
 obtain⟨oc,od,kV,doc,pm,an,aH,ct,gI,rfl,lk,fC⟩:=F.ex;exact zoK lk fC S len λA outer s H vs Q E hr g9=>hU aH A outer s H vs Q E hr g9
section
variable {σ:St} {H:Hp} {Q:VK} {D':zak} {E:XK} {EX:Value->Hp->Prop}
end
section
variable {X:Cx} {K:r6}
theorem zt (h:X.K=K:=by rfl):IxR X (zm8 K):=h ▸ zm9
theorem yI (h:X.K=K:=by rfl):IxR X (zm7 K):=h ▸ zk2
theorem Uh (h:X.K=K:=by rfl):vC X (.builtin "isinstance") (zla K):=h ▸ zjh
theorem zU (h:X.K=K:=by rfl):vC X (.builtin "len") (λxs H Q=>∃p ys,xs=[.ref p]/\(SqL K H p ys\/SqT K H p ys)/\Q (.int ys.length) H):=h ▸ zdF
theorem zf5 (h:X.K=K:=by rfl):vC X (.type "list") (λxs H Q=>∃p ys,xs=[.ref p]/\(SqL K H p ys\/SqT K H p ys)/\∀l,H l=none->Q (.ref l) (upd H l (.lst ys))):=h ▸ zdG
theorem yx (h:X.K=K:=by rfl):vC X (.type "tuple") (λxs H Q=>∃p ys,xs=[.ref p]/\((SqL K H p ys/\∀l,H l=none->Q (.ref l) (upd H l (.tup ys)))\/(SqT K H p ys/\Q (.ref p) H))):=h ▸ zcr
theorem zf6 (h:X.K=K:=by rfl):OpR X (compareOp .In) (rIn K false):=h ▸ zh4
theorem Wm (h:X.K=K:=by rfl):OpR X (compareOp .NotIn) (rIn K true):=h ▸ zdE
theorem Yd (h:X.K=K:=by rfl):SlR X (zi4 K):=h ▸ zk3
variable {tg l:Expr} {tl:TE}
theorem VD (hl:PE X l tl) (h:X.K=K:=by rfl):PI X tg l (ziS K tl):=h ▸ zkR hl
theorem xP (hl:PE X l tl) (h:X.K=K:=by rfl):PI X tg l (zmY K tl):=h ▸ zmZ hl
theorem ZE {es:List Expr} {k:Nat} {t:TGs} {n:Nat} {pos:Pos} (hc:X.calm=true) (h:PGs X es t) (hK:X.K=K:=by rfl)
  (hn:(assignEach es X.env).length=n:=by rfl) (fM:(assignEach es X.env).findIdx? (·.1)=none:=by rfl):PG X (.Tuple es k pos) (zkQ K n t):=hK ▸ zmV hc h hn fM
theorem xD {sc:Scope}:vH X sc [] []:=trivial
theorem xt {sc:Scope} {r:List (Option Nat)} {n:List Str} {x:Str} (h:vH X sc r n):vH X sc (none::r) (x::n):=h
theorem Ti {sc:Scope} {r:List (Option Nat)} {n:List Str} {x:Str} {i:Nat} (h1:X.N[i]? =some x) (h2:sc.names.lookup x=some .free) (h:vH X sc r n):vH X sc (some i::r) (x::n):=⟨⟨h1,h2⟩,h⟩
end
noncomputable def zmn (osc sc:Scope):Bool:=sc.names.all (λy=>y.2 != .cell)&&sc.kind== .function&&sc.names.all (λy=>y.2 != .local||sc.names.lookup y.1==some .local)&&
 sc.names.all (λy=>y.2 != .free||(osc.names.lookup y.1==some .cell||osc.names.lookup y.1==some .free))
theorem blk {X:Cx} {osc sc:Scope} (hs:X.env.scope=osc) (h:zmn osc sc=true):Ug X sc:=by
 unfold zmn at h;simp only[rT,sr,bne_iff_ne,ne_eq,beq_iff_eq,uU] at h;obtain⟨⟨⟨h1,h2⟩,h3⟩,h4⟩:=h;refine⟨h1,h2,λy hy e=>(h3 y hy).resolve_left λz=>z e,λy hy e=> ?_⟩;show X.env.scope.names.lookup y.1=_\/X.env.scope.names.lookup y.1=_;rw[hs];exact (h4 y hy).resolve_left λz=>z e
section
variable {g:TG} {tb:TS} {σ:St} {H:Hp} {nx:St->Hp->Prop} {rt:VK}
end
mutual
noncomputable def D.depth:D->Nat
 | .tup l=>D.depths l+1
 | .lst l=>D.depths l+1
 | .ins _ _ _=>1000
 |_=>0
noncomputable def D.depths:List D->Nat
 |[]=>0
 |d::r=>max (D.depth d) (D.depths r)
end
section
variable {X:Cx} {pins:List (Addr×Obj)} {σ:St} {H:Hp} {s:Shared}
end
section
variable {σ:St} {H:Hp} {Q:VK} {D':zak} {cap:List (Option Nat)} {wi:TI} {g:TG} {tt:TT} {te:TE}
variable {acc:Addr} {H0:Hp} {Qh:Hp->Prop}
end
section
variable {X:Cx}
end
section
variable {X:Cx} {pins:List (Addr×Obj)} {σ:List (Option V)} {H H':Hp} {s:Shared} {h':Heap}
theorem Inv.turnedL {t':Nat} {fp:List Addr} (I:Inv X pins σ H s) (k:∀b o,b∉fp->s.heap.get? b=some o->h'.get? b=some o) (hf:∀b∈fp,zco X pins H b):Inv X pins σ H {s with heap:=h',toks:=t'}:=by
 have jW:∀b u,H b=some u->b∉fp:=λb u e z=>by rw[(hf b z).1] at e;cases e
 refine I.step (g':=s.gens) (d':=s.drawn) (ch:=fp) (λb hb=> ?_) (λb o _ _ hc e _=>k b o hc e) (λb o _ _ hc e _=>⟨o.slots,k b o hc e⟩) (λ_ _ _ _ n=>n)
  (λb o hc e=>⟨o,k b o hc e⟩) (λ_ _ e=>e) (λ_ _ _ e=>e) (λb ps e=>⟨#[],by rw[e];simp⟩) (λm hm=> ?_) (λb u e=> ?_) I.bare
 .obtain⟨f0,f1,f2,f3,f4,f5⟩:=hf b hb;exact⟨f3,f1,f4,f5⟩
 .obtain⟨o,es,ep,ho,r⟩:=hm;exact⟨o,es,ep,k _ o (λz=>(hf _ z).2.1 rfl) ho,r⟩
 .refine (I.hok b u e).stay (λc v hc q=>k c v ?_ q) (λ_ q=>q) λ_ _ q=>q;rcases hc with z|z
  .rw[z];exact jW b u e
  .exact jW c _ z
theorem Inv.turnedT {t':Nat} {fp:List Addr} {ys:List V} {us:List Value} (I:Inv X pins σ H s) (hv:yf ys us) (hl:ys.length<=sizeLine) (k:∀b o,b∉fp->s.heap.get? b=some o->h'.get? b=some o)
  (hp:h'.get? s.heap.objs.size=some {cls:= .type "tuple",data:= .seq us.toArray}) (hf:∀b∈fp,zco X pins H b) (hx:∀b∈fp,∃o,s.heap.get? b=some o):
  Inv X pins σ (upd H s.heap.objs.size (.tup ys)) {s with heap:=h',toks:=t'}/\H s.heap.objs.size=none/\∀b∈fp,upd H s.heap.objs.size (.tup ys) b=none:=by
 have fr:H s.heap.objs.size=none:=I.hok.fresh (rj _);have nb:∀b∈fp,b≠s.heap.objs.size:=λb hb z=>by
  obtain⟨o,e⟩:=hx b hb;exact absurd (Heap.lt_size e) (by rw[z];exact sS _)
 have fb:∀b∈fp,upd H s.heap.objs.size (.tup ys) b=none:=λb hb=>by rw[yz (nb b hb)];exact (hf b hb).1
 have I0:Inv X pins σ (upd H s.heap.objs.size (.tup ys)) {s with heap:=s.heap.push {cls:= .type "tuple",data:= .seq us.toArray}}:=
  I.laid (t':=s.toks) (λb o e=>Heap.get?_push_of_some _ e) (rj _) ⟨hl,us,hv,XI.new _ _⟩
 refine⟨Inv.turnedL (s:={s with heap:=s.heap.push {cls:= .type "tuple",data:= .seq us.toArray}}) (t':=t') (fp:=fp) I0 (λb o hb e=> ?_) (λb hb=> ?_),fr,fb⟩
 .by_cases z:b=s.heap.objs.size
  .subst z;rw[Heap.get?_push_size _ rfl] at e;cases e;exact hp
  .refine k b o hb ?_;rwa [Heap.get?_push_ne _ _ _ z] at e
 .obtain⟨f0,f1,f2,f3,f4,f5⟩:=hf b hb;exact⟨fb b hb,f1,f2,f3,f4,f5⟩
end
section
variable {X:Cx}
end
structure ZA (z TI TO i1 i2:Addr):Prop where
 TIz:TI≠z
 TOz:TO≠z
 i1z:i1≠z
 i2z:i2≠z
 TITO:TI≠TO
 TIi1:TI≠i1
 TIi2:TI≠i2
 TOi1:TO≠i1
 TOi2:TO≠i2
 i12:i1≠i2
section
variable {X:Cx}
end
section
variable {σ:St} {H:Hp} {cap:List (Option Nat)} {g:TG} {tt:TT} {te:TE} {acc:Addr} {H0:Hp} {Qh:Hp->Prop}
structure zp2 (J:It) (n:Nat) (f:Nat->Option (V×V)) (ok:Hp->Prop):Prop where
 go:∀i H,ok H->i<n->J.go i H
 stop:∀H,ok H->J.stop n H
 yld:∀i H x H',ok H->i<n->J.yld i H x H'->∃p u v,x= .ref p/\H p=none/\H'=upd H p (.tup [u,v])/\f i=some (u,v)
end
section
variable {σ:St} {H:Hp} {Q:VK} {D':zak}
end
section
variable {σ:St} {H:Hp} {Q:VK}
end
open Classical in
noncomputable def frG (H H':Hp):Hp:=λb=>match H' b with
 |some (.lst xs)=>if H b=none then some (.lst xs) else none
 |o=>o
def Dom (H H':Hp):Prop:=∀b,H' b=none->H b=none
structure Acc (K:r6) (H0:Hp) (acc:Addr) (ys:List V) (ds:List D) (H:Hp):Prop where
 at_:H acc=some (.lst ys)
 new:IsL K (frG (upd H0 acc (.lst [])) H) ys ds
 same:UI H0 H
 dom:Dom (upd H0 acc (.lst [])) H
section
variable {X:Cx}
theorem zar (ns:List Int):∀k,preSum (λi=>ns.getD i 0) k=(ns.take k).sum
 |0=>by simp[preSum]
 |k+1=>by
  unfold preSum;rw[zar ns k,Ay,List.sum_append];cases h:ns[k]? <;>simp[rp,h]
def zoT (K:r6):List V->Hp->VK->Prop:=λxs H Q=>∃(p:Addr) (ns:List Int),xs=[.ref p]/\SqL K H p (ns.map V.int)/\Q (.int ns.sum) H
theorem zas {K:r6} (hc:X.calm=true) (hK:X.K=K:=by rfl):vC X (.builtin "sum") (zoT K):=by
 subst hK;intro pins s σ H xs us Q I r h;obtain⟨p,ns,rfl,hq,q⟩:=h;obtain⟨u,rfl,ru⟩:=Xr r;cases ru;obtain⟨af,rv,pl,hz⟩:=I.list hq;have lt:p<s.heap.objs.size:=by
  obtain⟨o,n,e,_⟩:=id pl;exact Heap.lt_size e
 have hl:=rv.length;rw[rh] at hl;refine call_sum_walkAnyS (wpAny_pyIter_list pl.isList ?_);have W:=(Walks.list (prog:=X.prog) (w:=X.w) (A:=X.A.in1) (I.ok.hd hc) s.heap.objs.size p (rQ lt) af.toArray).toS;refine⟨s.heap.objs.size,_,_,_,_,_,_,λi=>ns.getD i 0,rfl,W,?_,?_,?_,?_⟩
 .exact⟨⟨_,Heap.get?_push_size _ rfl,rfl,rfl⟩,Heap.IsList.push pl.isList _⟩
 .intro b hb;rw[Heap.size_push];rcases (by simpa using hb:b=s.heap.objs.size\/b=p) with rfl|rfl
  .exact sP _
  .exact tU lt
 .intro i v hv;have hv:af[i]? =some v:=by simpa using hv
  have hi:i<ns.length:=by rw[hl];exact (rg.1 hv).1
  obtain⟨u,hu,t,ru⟩:=rv.get (i:=i) (x:=V.int ns[i]) (by rw[rq,r9 hi];rfl);rw[hu] at hv;cases hv;refine⟨t,?_⟩;rw[ru];show Value.int ns[i] t=Value.int (ns.getD i 0) t;rw[rp,r9 hi,uj]
 .intro s' t' m
  have I1:Inv X pins σ H {s with heap:=s'.heap,toks:=s'.toks}:=I.kept λb o e=>m.heap b o (λz=>by
   have z:b=s.heap.objs.size:=by simpa using z
   exact absurd (Heap.lt_size e) (by rw[z];exact sS _)) (Heap.get?_push_of_some _ e)
  have e:({s with heap:=s'.heap,toks:=s'.toks}:Shared)=s':=by
   have h1:=m.gens;have h2:=m.drawn;have h3:=m.os;cases s';simp only at h1 h2 h3;subst h1 h2 h3;rfl
  rw[e] at I1;refine⟨.int ns.sum,H,I1,⟨t',?_⟩,q⟩;rw[zar];have:af.toArray.size=ns.length:=by rw[rA,<-hl]
  rw[this,sF]
end
section
variable {σ:St} {H:Hp} {Q:VK}
end
section
variable {σ:St} {H:Hp} {v:V}
end
end L2
namespace L2
open PySem PySem.Spec PyProof.Rows PyProof
section
variable {X:Cx}
def zlb:V->Option Int->Option Int->Hp->VK->Prop:=λx lo hi H Q=>∃z,x= .str z/\z.length<=sizeLine/\Q (.str (Txt.slice z lo hi)) H
theorem znf:SlR X zlb:=by
 intro pins s σ H x v vl vu lo hi sl Q I rx hs pl pu h;obtain⟨z,rfl,hz,q⟩:=h;obtain⟨t,rfl⟩:=rx;refine⟨"str",_,F.slot_str_getitem.lookup,typeIs_str _ _ _,?_⟩;obtain⟨l,lh,iX⟩:∃l:Option (Int×Tok),vl=partValue l/\l.map (·.1)=lo:=by
  cases pl with
  |none=>exact⟨none,rfl,rfl⟩
  |int i t=>exact⟨some (i,t),rfl,rfl⟩
 obtain⟨u,oY,oX⟩:∃l:Option (Int×Tok),vu=partValue l/\l.map (·.1)=hi:=by
  cases pu with
  |none=>exact⟨none,rfl,rfl⟩
  |int i t=>exact⟨some (i,t),rfl,rfl⟩
 subst lh oY iX oX;exact wpAny_getItem_str_slice (l:=l) (u:=u) (st:=none) hs rfl (post_val_or_str ⟨si (Txt.slice_le z _ _) hz,λt' k=>⟨.str _,H,I.tok _,⟨_,rfl⟩,q⟩⟩)
theorem zng {K:r6} {a b:String} (h1:(Value.type a==Value.type b)=false) (h:(fastBuiltinMro a).map (·.contains (.type b))=some false) (hm:tP b=true) (hs:x3 K (.type a) (.type b)=(fastBuiltinMro a).map (·.contains (.type b))):sE K (.type a) (.type b)=some false:=by
 unfold sE Ag;rw[if_neg (by rw[h1];decide)];show (if tP b=true then x3 K (.type a) (.type b) else none)=_;rw[if_pos hm,hs,h]
end
end L2
namespace L2
open PySem PySem.Spec PyProof.Rows
open AutoSeq1 (wpAny_loadPart')
section
variable {prog:Program} {w:World} {A:Around} {E:Value->Shared->Prop} {s:Shared}
theorem zf7 {h h':Heap} {a t:Addr} {i:Nat} (x:IsTupIter h a t i) (e:∀o,h.get? a=some o->h'.get? a=some o):IsTupIter h' a t i:=let ⟨o,ho,r⟩:=x;⟨o,e o ho,r⟩
theorem zoU {it t:Addr} {i:Nat} {af:Array Value} {x:Value} {Q:Value->Shared->Prop} (hit:IsTupIter s.heap it t i) (ht:IsTup s.heap t af) (hx:af[i]? =some x)
  (q:∀h',IsTupIter h' it t (i+1)->Heap.SameBut it s.heap h'->Q x {s with heap:=h'}):wpAny (model prog w) A (Builtin.SmallTypes.nextOf (.ref it)) Q E s:=by
 obtain⟨io,iY,ic,iD⟩:=id hit;obtain⟨oo,m9,_,tn,lI⟩:=ht;unfold Builtin.SmallTypes.nextOf;refine wpAny_bind (wpAny_callSpecial?_slot (name:=Str.ofString "__next__") hit.typeIs slot_tupleiter_next (wpAny_call_entry slot_tupleiter_next hit.typeIs entry_tupleiter_next ?_ (args_tupleiter_next _)));refine wpAny_bind (m:=field (.ref it) 0) (wpAny_field iY iD (x:= .ref t) rfl ?_);show wpAny _ _ (if (Value.ref t==Value.none)=true then _ else _) _ _ s;rw[if_neg (show ¬((Value.ref t==Value.none)=true) from rJ)];refine wpAny_bind (m:=field (.ref it) 1) (wpAny_field iY iD (x:= .int i 0) rfl ?_);refine wpAny_bind (m:=seqItems? (.ref t)) (wpAny_seqItems m9 lI ?_);simp only[sH,hx];refine wpAny_bind (wpAny_setField iY iD (by simp) (wpAny_pure ⟨x,rfl,wpAny_pure (q _ ⟨_,Heap.get?_update_self _ iY (Obj.isFreed_of_fields (Obj.data_mapFields iD _)),(Obj.cls_mapFields ..).trans ic,?_⟩ (Heap.SameBut.update ..))⟩));rw[Obj.data_mapFields iD];simp[rawInt]
theorem zde {it t:Addr} {i:Nat} {af:Array Value} {Q:Value->Shared->Prop} (hh:A.handled=none) (hit:IsTupIter s.heap it t i) (ht:IsTup s.heap t af) (hx:af[i]? =none)
  (q:∀h' e,Heap.ExtBut it s.heap h'->(∃o,h'.get? e=some o/\o.cls= .type "StopIteration")->E (.ref e) {s with heap:=h'}):wpAny (model prog w) A (Builtin.SmallTypes.nextOf (.ref it)) Q E s:=by
 obtain⟨io,iY,ic,iD⟩:=id hit;obtain⟨oo,m9,_,tn,lI⟩:=ht;unfold Builtin.SmallTypes.nextOf;refine wpAny_bind (wpAny_callSpecial?_slot (name:=Str.ofString "__next__") hit.typeIs slot_tupleiter_next (wpAny_call_entry slot_tupleiter_next hit.typeIs entry_tupleiter_next ?_ (args_tupleiter_next _)));refine wpAny_bind (m:=field (.ref it) 0) (wpAny_field iY iD (x:= .ref t) rfl ?_);show wpAny _ _ (if (Value.ref t==Value.none)=true then _ else _) _ _ s;rw[if_neg (show ¬((Value.ref t==Value.none)=true) from rJ)];refine wpAny_bind (m:=field (.ref it) 1) (wpAny_field iY iD (x:= .int i 0) rfl ?_);refine wpAny_bind (m:=seqItems? (.ref t)) (wpAny_seqItems m9 lI ?_);simp only[sH,hx];refine wpAny_bind (wpAny_rule (wpAny_bind (wpAny_setField iY iD (by simp) ?_)));refine wpAny_bind (m:=newExc (.type "StopIteration") []) ?_;simp only[newExc,newTuple];refine wpAny_bind (wpAny_newObj_type ?_ (by size_fits));refine wpAny_bind (m:=firstArgMember _ _) (wpAny_of_eq (a:=Value.none) (by first|rfl|(simp only[firstArgMember];rfl)) ?_);refine wpAny_newObj_type ?_ (by size_fits);simp only[raiseNew];refine wpAny_bind (wpAny_handled ?_);(first|rw[show A.in1.handled=none from hh]|rw[hh]);exact wpAny_bind (wpAny_pure (wpAny_throw (q _ _ (((Heap.SameBut.update ..).extBut.push _).push _) ⟨_,Heap.get?_push_size _ rfl,rfl⟩)))
theorem znh (hh:A.handled=none) (it t:Addr) (dM:t≠it) (af:Array Value):Draws prog w A it [it,t] af.size (λi v=>af[i]? =some v) (λi h=>IsTupIter h it t i/\IsTup h t af) where
 live:=λ_ _ st=>let ⟨o,ho,_⟩:=st.1;⟨o,ho⟩
 frame:=λ_ _ _ st hk=>⟨zf7 st.1 λo e=>hk it (by simp) o e,let ⟨o,ho,r⟩:=st.2;⟨o,hk t (by simp) o ho,r⟩⟩
 item:=λi s Q E hi st hQ=>zoU st.1 st.2 (x:=af[i]) (by simp[hi]) λh' mG nQ=>hQ _ h' s.toks (by simp[hi]) ⟨mG,st.2.extBut nQ.extBut dM⟩ nQ
 done:=λs Q E st hE=>zde hh st.1 st.2 (by simp) hE
theorem zeQ (t:Addr) (af:Array Value) (n:Nat) (dct:Option Addr) (sl:Array (Option Value)):
  Meets (Builtin.«enumerate.__new__» ⟨[.type "enumerate",.ref t],[]⟩) (λ_ R s=>s.heap.get? t=some {cls:= .type "tuple",dict:=dct,data:= .seq af n,slots:=sl}/\
   R (.ok (.ret (.ref (s.heap.push {cls:= .type "tuple_iterator",data:= .fields #[.ref t,.int 0 0]}).objs.size)))
    {s with heap:=(s.heap.push {cls:= .type "tuple_iterator",data:= .fields #[.ref t,.int 0 0]}).push {cls:= .type "enumerate",data:= .fields #[.none,.bool false,.ref s.heap.objs.size,rawInt 0,.none,.none]}}):=
 .of_wp λprog w A R s h=>by
  obtain⟨hp,g,d,tk,os⟩:=s;obtain⟨ht,h⟩:=h;have k7:=sub_enumerate;have hT:IsTup (Shared.heap ⟨hp,g,d,tk,os⟩) t af:=⟨_,ht,rfl,n,rfl⟩
  wp_walk using wpAny_loadPart' ht
  refine wpAny_stack_any λst=>wpAny_pure ?_;split
  .rename_i c _ _ _ _ _;cases (c==Value.type "enumerate")<;>(wp_walk using wpAny_loadPart' ht,iter_tuple hT;exact⟨_,rfl,h⟩)
  .wp_walk using wpAny_loadPart' ht,iter_tuple hT
   exact⟨_,rfl,h⟩
theorem zf8 {t:Addr} {af:Array Value} {Q:Value->Shared->Prop} (hT:IsTup s.heap t af)
  (h:∀h',IsEnum h' (s.heap.objs.size+1) s.heap.objs.size 0 .none->IsTupIter h' s.heap.objs.size t 0->h'.objs.size=s.heap.objs.size+2->(∀b o,s.heap.get? b=some o->h'.get? b=some o)->Q (.ref (s.heap.objs.size+1)) {s with heap:=h'}):
  wpAny (model prog w) A (call (.type "enumerate") [.ref t]) Q E s:=by
 obtain⟨⟨c,dct,dt,sl⟩,ht,hc,n,hd⟩:=hT
 replace hc:c= .type "tuple":=hc
 replace hd:dt= .seq af n:=hd
 subst hc hd;refine callType_new F.called_enumerate ∅ (F.typeCall_enumerate_1 _) (F.newCall_enumerate_1 _) (λobj=>F.args_object_init_2 obj _) F.entry_enumerate_new (zeQ t af n dct sl) ⟨ht,?_⟩;have hz:(s.heap.push {cls:= .type "tuple_iterator",data:= .fields #[.ref t,.int 0 0]}).objs.size=s.heap.objs.size+1:=Heap.size_push ..;have he:=Heap.get?_push_size (s.heap.push {cls:= .type "tuple_iterator",data:= .fields #[.ref t,.int 0 0]}) (o:={cls:= .type "enumerate",data:= .fields #[.none,.bool false,.ref s.heap.objs.size,rawInt 0,.none,.none]}) rfl;show _/\_;rw[hz] at he ⊢;exact⟨⟨_,he,rfl⟩,h _ he ⟨_,Heap.get?_push_of_some _ (Heap.get?_push_size _ rfl),rfl,rfl⟩ (by rw[Heap.size_push,hz]) λb o x=>Heap.get?_push_of_some _ (Heap.get?_push_of_some _ x)⟩
end
noncomputable def zoV (K:r6) (a:Addr):It:=
 ⟨λi H=>∃xs x,SqT K H a xs/\xs[i]? =some x,λi H x H'=>∃p y,x= .ref p/\H p=none/\H'=upd H p (.tup [.int i,y])/\∀xs,SqT K H a xs->xs[i]? =some y,λi H=>∃xs,SqT K H a xs/\xs.length<=i⟩
theorem zlc {X:Cx} {pins:List (Addr×Obj)} {σ:St} {H:Hp} {s:Shared} {a:Addr} {xs ys:List V} (I:Inv X pins σ H s) (h1:SqT X.K H a xs) (h2:SqT X.K H a ys):xs=ys:=I.tuple_inj h1 h2
theorem zf9 {P:Program} {w:World} {K:r6} {elts:List Expr} {k:Nat} {tp:Pos} (a e it:Addr) (dM:e≠it):
  zhV P w K (.Tuple elts k tp) (zoV K a) [e,it] e (λi h=>(∃old,IsEnum h e it i old)/\IsTupIter h it a i) where
 mem:=by simp
 obj:=λi h st b hb=>by
  obtain⟨⟨old,he⟩,o,e',c,d⟩:=st;rcases (by simpa using hb:b=e\/b=it) with rfl|rfl
  .exact⟨_,he,λv z=>by cases z⟩
  .exact⟨o,e',λv z=>by rw[d] at z;cases z⟩
 keep:=λi h h' st k=>⟨let ⟨old,he⟩:=st.1;⟨old,k e (by simp) _ he⟩,zf7 st.2 λo e=>k it (by simp) o e⟩
 item:=by
  intro X hP hw hK hc i pins s σ H E I hf st hg;subst hP hw hK;obtain⟨xs,x,hq,hx⟩:=hg;obtain⟨af,rv,p,hz⟩:=I.tuple hq;obtain⟨u,hu,ru⟩:=rv.get hx;obtain⟨⟨old,he⟩,hit⟩:=st;obtain⟨oi,nS,ci,_⟩:=id hit;obtain⟨ot,lg,ct,_⟩:=id p;have oz:a≠it:=λz=>by subst z;rw[nS] at lg;cases lg;rw[ci] at ct;exact absurd ct ∅
  have oB:e≠a:=λz=>by subst z;rw[he] at lg;cases lg;exact absurd (show Value.type "enumerate"= .type "tuple" from ct) ∅
  have hi:i<af.toArray.size:=by have:=(rg.1 hu).1;simpa using this
  refine wpAny_pyNext_enum_itemD (znh (prog:=X.prog) (w:=X.w) (A:=X.A.in1) (I.ok.hd hc) it a oz af.toArray) he ⟨hit,p⟩ hi dM (by simp[dM,oB]) λy h1 tk hP j7 md jZ qH lq=> ?_;have hy:y=u:=by
   have:af.toArray[i]? =some u:=by simpa using hu
   rw[this] at hP;exact (su hP).symm
  subst hy;refine⟨_,rfl,?_⟩;refine wpAny_letOwnedTupleGo_enum (s:={s with heap:=h1,toks:=tk+1}) j7 λh2 lz fB=> ?_;have fB:Heap.SameBut e h1 h2:=fB;have oF:e<s.heap.objs.size:=Heap.lt_size he;have vv:yf [V.int i,x] [.int i tk,y]:= .cons ⟨_,rfl⟩ (.cons ru .nil);have T:=Inv.turnedT (h':=h2) (t':=tk+1) (fp:=[e,it]) I vv (by show 2<=sizeLine;decide) (λb o hb eb=> ?_) ((fB.2 _ (y7 oF)).trans jZ) hf (λb hb=> ?_)
  .obtain⟨I2,fr,fb⟩:=T;exact⟨.ref s.heap.objs.size,_,I2,rfl,⟨_,x,rfl,fr,rfl,λys hy=>by rw[zlc I hy hq];exact hx⟩,⟨⟨_,lz⟩,zf7 md.1 λo eo=>(fB.2 it dM.symm).trans eo⟩,fb⟩
  .have hb:b≠e/\b≠it:=by simpa using hb
   exact (fB.2 b hb.1).trans (lq b o hb.1 hb.2 eb)
  .rcases (by simpa using hb:b=e\/b=it) with rfl|rfl
   .exact⟨_,he⟩
   .exact⟨oi,nS⟩
 done:=by
  intro X hP hw hK hc i pins s σ H E I hf st hg;subst hP hw hK;obtain⟨xs,hq,hx⟩:=hg;obtain⟨af,rv,p,hz⟩:=I.tuple hq;have hl:=rv.length;obtain⟨⟨old,he⟩,hit⟩:=st;have hT:s.TypeIs (.ref e) "enumerate":=⟨_,he,rfl⟩;unfold pyNext;refine wpAny_bind (wpAny_attempt (wpAny_callSpecial?_slot (name:=Str.ofString "__next__") hT F.slot_enumerate_next (wpAny_call_entry F.slot_enumerate_next hT F.entry_enumerate_next ?_ (F.args_enumerate_next_1 _))));refine wpAny_bind (m:=field (.ref e) 2) (wpAny_field he rfl (x:= .ref it) rfl ?_);refine wpAny_bind (zde (I.ok.hd hc) hit p (by simp;omega) λh' ex qa lZ=> ?_);obtain⟨oe,pq,qd⟩:=lZ;refine wpAny_bind (wpAny_isInstance (T:="StopIteration") (b:=true) ⟨oe,pq,qd⟩ isSubtype_stop (wpAny_pure ?_));exact⟨rfl,Inv.turnedL (t':=s.toks) (fp:=[e,it]) I (λb o hb eo=>qa b o (λz=>hb (by simp[z])) eo) hf⟩
 self:=λ_ _ _ _ _ st h=>let ⟨⟨_,he⟩,_⟩:=st;wpAny_pyIter_enum he h
section
variable {X:Cx}
def zji (K:r6) (ta:TA):TI:=λσ H R=>ta σ H λvs H1=>∃a,vs=[.ref a]/\(∃xs,SqT K H1 a xs)/\R (zoV K a) H1
theorem zjj {K:r6} {elts:List Expr} {k:Nat} {tp:Pos} {l:Expr} {ta:TA} {p pos:Pos} (hg:Gl X "enumerate") (hm:X.mg "enumerate"=none) (ha:PA X [l] ta) (hK:X.K=K:=by rfl) (hs:starEach [l] X.env=[(false,eval l X.env)]:=by rfl):
  PI X (.Tuple elts k tp) (.Call (.Name "enumerate" p) [l] [] pos) (zji K ta):=by
 subst hK;intro pins s σ H R I h;refine Call_ (Vw I hg hm Boot.«enumerate» (tN (thn (ha pos pins s σ H _ I h) ?_) hs rfl));rintro us s1 ⟨vs,H1,I1,r1,q1⟩;obtain⟨a,e,⟨xs,hq⟩,q⟩:=q1;subst e;obtain⟨u,rfl,ru⟩:=Xr r1;cases ru;obtain⟨af,rv,p,hz⟩:=I1.tuple hq;refine zf8 p λh' he hit g7 hk=> ?_;have I2:Inv X pins σ H1 {s1 with heap:=h'}:=I1.kept (t':=s1.toks) hk;refine wpAny_pyIter_enum (s:={s1 with heap:=h'}) he ?_;refine⟨s1.heap.objs.size+1,[s1.heap.objs.size+1,s1.heap.objs.size],_,_,H1,rfl,I2,zf9 a (s1.heap.objs.size+1) s1.heap.objs.size (AK _),⟨⟨_,he⟩,hit⟩,λb hb=> ?_,q⟩;have hb:s1.heap.objs.size<=b:=by
  rcases (by simpa using hb:b=s1.heap.objs.size+1\/b=s1.heap.objs.size) with rfl|rfl
  .exact tM _
  .exact rj _
 exact Inv.fpOk I1 hb (I1.hok.fresh hb)|>λ⟨f0,f1,f2,f3,f4,f5⟩=>⟨f0,f1,f2,f3,f4,f5⟩
end
end L2
namespace L2
open PySem PySem.Spec PyProof.Rows
section
variable {prog:Program} {w:World} {A:Around} {E:Value->Shared->Prop} {s:Shared}
noncomputable abbrev zT1 (h:Heap) (l1:Addr):Heap:=h.push {cls:= .type "tuple_iterator",data:= .fields #[.ref l1,.int 0 0]}
noncomputable abbrev zT2 (h:Heap) (l1 l2:Addr):Heap:=(zT1 h l1).push {cls:= .type "tuple_iterator",data:= .fields #[.ref l2,.int 0 0]}
noncomputable abbrev zT3 (h:Heap) (l1 l2:Addr):Heap:=(zT2 h l1 l2).push {cls:= .type "tuple",data:= .seq #[.ref h.objs.size,.ref (zT1 h l1).objs.size]}
noncomputable abbrev zT4 (h:Heap) (l1 l2:Addr):Heap:=(zT3 h l1 l2).push {cls:= .type "tuple",data:= .seq #[.none,.none]}
noncomputable abbrev zT5 (h:Heap) (l1 l2:Addr):Heap:=(zT4 h l1 l2).push {cls:= .type "zip",data:= .fields #[.none,.bool false,.bool false,.ref (zT2 h l1 l2).objs.size,.ref (zT3 h l1 l2).objs.size]}
end
section
variable {X:Cx}
end
mutual
noncomputable def D.py:D->PyData
 | .non=> .none
 | .bl b=> .bool b
 | .int i=> .int i
 | .str x=> .str x
 | .tup l=> .tuple (D.pys l)
 | .lst l=> .list (D.pys l)
 | .ins _ _ _=> .none
noncomputable def D.pys:List D->List PyData
 |[]=>[]
 |d::r=>D.py d::D.pys r
end
mutual
def D.small (n:Nat):D->Prop
 | .int i=>i.natAbs<2^n
 | .tup l=>D.smalls n l
 | .lst l=>D.smalls n l
 | .non=>True
 | .bl _=>True
 | .str _=>False
 | .ins _ _ _=>False
def D.smalls (n:Nat):List D->Prop
 |[]=>True
 |d::r=>D.small n d/\D.smalls n r
end
mutual
noncomputable def D.wt (n:Nat):D->Nat
 | .tup l=>D.wts n l
 | .lst l=>D.wts n l
 | .int _=>n
 |_=>0
noncomputable def D.wts (n:Nat):List D->Nat
 |[]=>0
 |d::r=>D.wt n d+1+D.wts n r
end
section
variable {X:Cx} {pins:List (Addr×Obj)} {σ:St} {H:Hp} {s:Shared}
end
theorem zga {i:Int} {n:Nat} (hn:0<n) (h:i.natAbs<2^n):i.natAbs.log2<n:=by
 by_cases h0:i.natAbs=0
 .rw[h0];exact hn
 .exact (Nat.log2_lt h0).mpr h
structure zpS (n:Nat) (d:D):Prop where
 seq:∃l,d= .tup l\/d= .lst l
 small:D.small n d
 n0:8<=n
 n1:n<=1900
 deep:D.depth d<=40
 size:(n+3)*D.wt n d+n+1<=16777216
section
variable {X:Cx}
end
noncomputable abbrev zoW (t:Addr) (i:Int):Obj:={cls:= .type "reversed",data:= .fields #[.ref t,rawInt i]}
noncomputable abbrev zp6 (h:Heap) (a t:Addr) (i:Int):Prop:=h.get? a=some (zoW t i)
section
variable {prog:Program} {w:World} {A:Around} {E:Value->Shared->Prop} {s:Shared}
end
section
variable {X:Cx} {tg:Expr}
def zmo (K:r6):R2:=λx y H Q=>∃a b xs ys,x= .ref a/\y= .ref b/\SqT K H a xs/\SqT K H b ys/\xs.length+ys.length<=sizeLine/\(xs=[]->Q (.ref b) H)/\(xs≠[]->ys=[]->Q (.ref a) H)/\(xs≠[]->ys≠[]->∀p,H p=none->Q (.ref p) (upd H p (.tup (xs++ys))))
theorem zg6 {K:r6} (hK:X.K=K:=by rfl):OpR X (binaryOp .Add) (zmo K):=by
 subst hK;intro pins s σ H x y v u Q I rx ry h;obtain⟨a,b,xs,ys,e1,e2,ha,hb,hz,q1,q2,q3⟩:=h;by_cases hx:xs=[]
 .subst e1 e2;cases rx;cases ry;obtain⟨af,r1,p1,_⟩:=I.tuple ha;obtain⟨bP,r2,p2,_⟩:=I.tuple hb;obtain⟨⟨cls,dd,data,sl⟩,ho,hc,n,hd⟩:=id p1;obtain⟨⟨mX,lE,data2,jI⟩,jr,gb,n2,hd2⟩:=id p2;simp only at hc hd gb hd2;subst hc hd gb hd2;exact concat_meets ⟨_,ho,rfl⟩ ⟨_,jr,rfl⟩ noFill_tuple_add seq_tuple_add uJ uF (uw _ _) (tuple_addW0 a b af.toArray bP.toArray n n2 dd lE sl jI (by have:=r1.nil_iff.mpr hx;simp[this])) ⟨ho,jr,⟨.ref b,H,I,rfl,q1 hx⟩⟩
 .exact zk0 pins s σ H x y v u Q I rx ry ⟨a,b,xs,ys,e1,e2,ha,hb,hx,hz,q2 hx,q3 hx⟩
end
end L2
namespace L2
open PySem PySem.Spec PyProof.Rows PyProof
section
variable {X:Cx}
def zmp (K:r6):List V->Hp->VK->Prop:=λxs H Q=>∃(p:Addr) (ns:List Int),xs=[.ref p]/\SqT K H p (ns.map V.int)/\Q (.int ns.sum) H
theorem zgb {K:r6} (hc:X.calm=true) (hK:X.K=K:=by rfl):vC X (.builtin "sum") (zmp K):=by
 subst hK;intro pins s σ H xs us Q I r h;obtain⟨p,ns,rfl,hq,q⟩:=h;obtain⟨u,rfl,ru⟩:=Xr r;cases ru;obtain⟨af,rv,pl,hz⟩:=I.tuple hq;have lt:p<s.heap.objs.size:=pl.lt;have hl:=rv.length;rw[rh] at hl;have pl':s.heap.IsTuple p af.toArray:=pl;refine call_sum_walkAnyS (wpAny_pyIter_tuple pl' ?_);have W:=(Walks.tuple (prog:=X.prog) (w:=X.w) (A:=X.A.in1) (I.ok.hd hc) s.heap.objs.size p (rQ lt) af.toArray).toS;refine⟨s.heap.objs.size,_,_,_,_,_,_,λi=>ns.getD i 0,rfl,W,?_,?_,?_,?_⟩
 .exact⟨⟨_,Heap.get?_push_size _ rfl,rfl,rfl⟩,IsTup.push pl _⟩
 .intro b hb;rw[Heap.size_push];rcases (by simpa using hb:b=s.heap.objs.size\/b=p) with rfl|rfl
  .exact sP _
  .exact tU lt
 .intro i v hv;have hv:af[i]? =some v:=by simpa using hv
  have hi:i<ns.length:=by rw[hl];exact (rg.1 hv).1
  obtain⟨u,hu,t,ru⟩:=rv.get (i:=i) (x:=V.int ns[i]) (by rw[rq,r9 hi];rfl);rw[hu] at hv;cases hv;refine⟨t,?_⟩;rw[ru];show Value.int ns[i] t=Value.int (ns.getD i 0) t;rw[rp,r9 hi,uj]
 .intro s' t' m
  have I1:Inv X pins σ H {s with heap:=s'.heap,toks:=s'.toks}:=I.kept λb o e=>m.heap b o (λz=>by
   have z:b=s.heap.objs.size:=by simpa using z
   exact absurd (Heap.lt_size e) (by rw[z];exact sS _)) (Heap.get?_push_of_some _ e)
  have e:({s with heap:=s'.heap,toks:=s'.toks}:Shared)=s':=by
   have h1:=m.gens;have h2:=m.drawn;have h3:=m.os;cases s';simp only at h1 h2 h3;subst h1 h2 h3;rfl
  rw[e] at I1;refine⟨.int ns.sum,H,I1,⟨t',?_⟩,q⟩;rw[zar];have:af.toArray.size=ns.length:=by rw[rA,<-hl]
  rw[this,sF]
theorem zdf (a:Array Nat):∀m:Nat,(rY m).filterMap (λi=>a[i]?)=a.toList.take m
 |0=>rfl
 |m+1=>by
  rw[A3,List.filterMap_append,zdf a m,Ay];rw[Af];cases h:a[m]? <;>simp[h]
theorem zat {z:Str} (h:1<=z.length):(Txt.slice z none (some (-1))).cps.toList=z.cps.toList.take (z.length-1):=by
 have hl:z.length=z.cps.size:=rfl;have e1:uK none (some (-1)) 1 z.length=rY (z.length-1):=by
  unfold uK sliceRange;simp only[show (1:Int)>0 by decide,if_true,show (-1:Int)<0 by decide];have e2:max 0 (min (-1+(z.length:Int)) (z.length:Int))=((z.length-1:Nat):Int):=by omega
  rw[e2];have e3:(if (0:Int)<((z.length-1:Nat):Int) then (((z.length-1:Nat):Int)-0+1-1) / 1 else 0).toNat=z.length-1:=by
   rw[Int.ediv_one];split<;>omega
  rw[e3]
  conv=>rhs;rw[<-List.map_id (rY (z.length-1))]
  refine List.map_congr_left λk _=> ?_;show (0+1*(k:Int)).toNat=k;omega
 unfold Txt.slice;rw[e1];split
 .rename_i hh;rw[Az] at hh;simp at hh;omega
 .show (List.filterMap _ _).toArray.toList=_;rw[List.toList_toArray];exact zdf z.cps (z.length-1)
end
end L2
namespace L2
open PySem PySem.Spec PyProof.Rows
section
variable {X:Cx}
def zoX (K:r6):List V->Hp->VK->Prop:=λxs H Q=>∃(p:Addr) (bs:List Bool),xs=[.ref p]/\SqL K H p (bs.map V.bl)/\Q (.bl (bs.all id)) H
theorem zie:∀(bs:List Bool),(rY bs.length).all (λi=>bs.getD i false)=bs.all id:=λbs=>by
 rw[u5,sr,sr];constructor
 .intro h b hb;obtain⟨i,hi,e⟩:=tV.1 hb;have:=h i (uX.2 hi);rw[rp,r9 hi,uj,e] at this;exact this
 .intro h i hi;have hi:=uX.1 hi;rw[rp,r9 hi,uj];exact h _ (uk hi)
theorem zgc {pins:List (Addr×Obj)} {σ:St} {H:Hp} {s:Shared} {p:Addr} {bs:List Bool} (hc:X.calm=true) (I:Inv X pins σ H s) (hq:SqL X.K H p (bs.map V.bl)) {R:Value->Shared->Prop}
  (k:∀Ia fp wr G n P St tr (s₂:Shared),WalksS X.prog X.w X.A.in1 Ia fp wr G n P St->St 0 s₂->TruthOf X.prog X.w X.A.in1 P tr->n=bs.length->(tr=λi=>bs.getD i false)->(∀s',Moved wr G s₂ s'->Inv X pins σ H s')->R (.ref Ia) s₂):
  wpAny (model X.prog X.w) X.A.in1 (pyIter (.ref p)) R X.xe s:=by
 obtain⟨af,rv,pl,hz⟩:=I.list hq;have lt:p<s.heap.objs.size:=by
  obtain⟨o,n,e,_⟩:=id pl;exact Heap.lt_size e
 have hl:=rv.length;rw[rh] at hl;refine wpAny_pyIter_list pl.isList ?_;have W:=(Walks.list (prog:=X.prog) (w:=X.w) (A:=X.A.in1) (I.ok.hd hc) s.heap.objs.size p (rQ lt) af.toArray).toS;refine k s.heap.objs.size _ _ _ _ _ _ (λi=>bs.getD i false) _ W ?_ ?_ ?_ rfl ?_
 .exact⟨⟨_,Heap.get?_push_size _ rfl,rfl,rfl⟩,Heap.IsList.push pl.isList _⟩
 .intro i v s Q E hv hQ;have hv:af[i]? =some v:=by simpa using hv
  have hi:i<bs.length:=by rw[hl];exact (rg.1 hv).1
  obtain⟨u,hu,ru⟩:=rv.get (i:=i) (x:=V.bl bs[i]) (by rw[rq,r9 hi];rfl);have e0:u=v:=by
   rw[hu] at hv;exact su hv
  have ru:u=Value.bool bs[i]:=ru;rw[<-e0,ru];refine wpAny_truthy_bool ?_;have e:bs.getD i false=bs[i]:=by rw[rp,r9 hi,uj]
  rw[<-e];exact hQ
 .rw[rA,<-hl]
 .intro s' m
  have I1:Inv X pins σ H {s with heap:=s'.heap,toks:=s'.toks}:=I.kept λb o e=>m.heap b o (λz=>by
   have z:b=s.heap.objs.size:=by simpa using z
   exact absurd (Heap.lt_size e) (by rw[z];exact sS _)) (Heap.get?_push_of_some _ e)
  have e:({s with heap:=s'.heap,toks:=s'.toks}:Shared)=s':=by
   have h1:=m.gens;have h2:=m.drawn;have h3:=m.os;cases s';simp only at h1 h2 h3;subst h1 h2 h3;rfl
  rw[e] at I1;exact I1
theorem Wn {K:r6} (hc:X.calm=true) (hK:X.K=K:=by rfl):vC X (.builtin "all") (zoX K):=by
 subst hK;intro pins s σ H xs us Q I r h;obtain⟨p,bs,rfl,hq,q⟩:=h;obtain⟨u,rfl,ru⟩:=Xr r;cases ru;refine call_all_walkS (zgc hc I hq λIa fp wr G n P St tr s₂ W h0 ht hn oZ hm=>⟨Ia,fp,wr,G,n,P,St,tr,rfl,W,h0,ht,λs' m=>⟨.bl _,H,hm s' m,rfl,?_⟩⟩);rw[hn,oZ,zie];exact q
theorem Inv.lstR {pins:List (Addr×Obj)} {σ:St} {H:Hp} {s:Shared} {l:Addr} {xs:List V} (I:Inv X pins σ H s) (hH:SqX X.K H l xs):xs.length<=sizeLine/\∃(af:List Value) (n:Nat),yf xs af/\xs.length=af.length/\s.heap.get? l=some {cls:= .type "list",data:= .seq af.toArray n}:=by
 rcases hH with hH|⟨af,n,hk,hz,r⟩
 .obtain⟨z,af,n,r,e⟩:=hH.ok I.hok;exact⟨z,af,n,r,r.length,e⟩
 .have hl:=r.length;have iX:af.toList.length=af.size:=uv;exact⟨⋯,af.toList,n,r,r.length,I.kIn l _ hk⟩
def zmq (K:r6):R2:=λx y H Q=>∃l b xs zs,x= .ref l/\y= .ref b/\SqX K H l xs/\SqX K H b zs/\xs.length+zs.length<=sizeLine/\∀p,H p=none->Q (.ref p) (upd H p (.lst (xs++zs)))
theorem vc {K:r6} (hK:X.K=K:=by rfl):OpR X (binaryOp .Add) (zmq K):=by
 subst hK;intro pins s σ H x y v u Q I rx ry h;obtain⟨l,b,xs,zs,rfl,rfl,hH,hB,hz,q⟩:=h;cases rx;cases ry;obtain⟨z,af,n,r,hl,e⟩:=I.lstR hH;obtain⟨z2,bP,n2,r2,iX,e2⟩:=I.lstR hB;refine PySem.P.add_list e e2 ?_ (by rw[rA,rA];omega);have ea:af.toArray++bP.toArray=(af++bP).toArray:=by simp
 rw[ea];exact⟨.ref _,_,I.lnew (t':=s.toks) (r.append r2) (by rw[rk];omega),rfl,q _ I.fresh⟩
theorem zif (l:Addr) (items:Array Value) (n:Nat) (b:Addr) (ob:Obj) (T:String) (dS:Array Value) (n2:Nat) (hT:T="list"\/T="tuple") (kc:(!items.isEmpty&&Builtin.List.listTooLong (items.size+dS.size))=false) (jk:items.size<=sizeLine) (fB:items.size+dS.size<=sizeLine):
  Meets (Builtin.«list.extend» ⟨[.ref l,.ref b],[]⟩) (λ_ R s=>s.heap.get? l=some {cls:= .type "list",dict:=none,data:= .seq items n,slots:= #[]}/\s.heap.get? b=some ob/\ob.cls= .type T/\ob.data= .seq dS n2/\R (.ok (.ret Value.none)) {s with heap:=s.heap.update l (Obj.mapSeq λx=>x++dS),toks:=s.toks}):=by
 intro prog w A R s h;obtain⟨hl,hb,hc,hd,hR⟩:=h;show wpAny _ _ (Builtin.List.listExtendWith (.ref l) (.ref b) .none) _ _ s;unfold Builtin.List.listExtendWith;refine wpAny_bind (wpAny_typeOf (T:=T) ⟨ob,hb,hc⟩ ?_);have kC:(Builtin.List.listSameRef (.ref l) (.ref b)||Value.type T==Value.type "list"||Value.type T==Value.type "tuple")=true:=by
  rcases hT with rfl|rfl<;>simp
 rw[if_pos kC];refine wpAny_bind ?_;unfold Builtin.List.listItems;refine wpAny_bind (wpAny_seqItems hb hd (wpAny_pure ?_));refine wpAny_bind ?_;refine wpAny_bind (wpAny_seqItems hl rfl (wpAny_pure ?_));rw[if_neg (by rw[kc];exact rJ)];have oS:(items++dS).size<=sizeLine+1:=by rw[Array.size_append];omega
 refine wpAny_bind (m:=Builtin.List.listUpdate (.ref l) (· ++dS)) ?_;show wpAny _ _ (updateSeq l (λx=>x++dS)) _ _ s;refine wpAny_updateSeq hl rfl (hz:=jk) (_hz':=oS) ?_;exact wpAny_pure hR
def zeR (K:r6):V->List V->Hp->VK->Prop:=λx vs H Q=>∃l b xs zs,x= .ref l/\vs=[.ref b]/\H l=some (.lst xs)/\(SqX K H b zs\/SqT K H b zs)/\xs.length+zs.length<=sizeLine/\Q .non (upd H l (.lst (xs++zs)))
theorem UJ {K:r6} (hK:X.K=K:=by rfl):MtR X "list.extend" (zeR K):=by
 subst hK;intro pins s σ H x vs v us Q I rx rv h;obtain⟨l,b,xs,zs,rfl,rfl,hH,hB,hz,q⟩:=h;cases rx;obtain⟨u,rfl,ru⟩:=rv.one;cases ru;obtain⟨z,af,n,r,hl,e⟩:=I.lstM hH;have key:∀{bP:List Value} {ob:Obj} {T:String} {n2:Nat},yf zs bP->(T="list"\/T="tuple")->s.heap.get? b=some ob->ob.cls= .type T->ob.data= .seq bP.toArray n2->
   wpAny (model X.prog X.w) X.A (call (.builtin "list.extend") [.ref l,.ref b]) (EP X pins σ Q) X.xe s:=by
  intro bP ob T n2 r2 hT hb hc hd;have iX:=r2.length;have g7:af.toArray.size+bP.toArray.size<=sizeLine:=by rw[rA,rA];omega
  refine call_meets F.slot_list_extend ⟨_,e,rfl⟩ F.entry_list_extend (F.args_list_extend_2 _ _)
   (zif l af.toArray n b ob T bP.toArray n2 hT (by rw[zi7 g7,Ah]) (by rw[rA];omega) g7) ⟨e,hb,hc,hd,?_⟩
  refine⟨.non,_,I.lset (its':=af++bP) hH e (by simp) (r.append r2) ?_,rfl,q⟩;rw[rk];omega
 rcases hB with hB|hB
 .obtain⟨z2,bP,n2,r2,iX,e2⟩:=I.lstR hB;exact key r2 (.inl rfl) e2 rfl rfl
 .obtain⟨bP,r2,⟨ob,hb,hc,n2,hd⟩,_⟩:=I.tuple hB;exact key r2 (.inr rfl) hb hc hd
end
section
variable {prog:Program} {w:World} {A:Around} {E:Value->Shared->Prop} {s:Shared}
end
section
variable {X:Cx}
end
end L2
namespace HT
open PySem PyProof.Rows
section
variable {prog:Program} {w:World} {A:Around} {E:Value->Shared->Prop} {s:Shared}
theorem Us {t sl:Addr} {items:Array Value} {vl vu:Value} {lo hi:Option Int} {Q:Value->Shared->Prop} (ht:IsTup s.heap t items) (hs:s.heap.IsSliceOf sl vl vu .none) (pl:IsPart vl lo) (pu:IsPart vu hi)
  (hw:sIx items.size 0 lo=0/\sIx items.size items.size hi=items.size) (h:Q (.ref t) s):wpAny (model prog w) A (getItem (.ref t) (.ref sl)) Q E s:=by
 obtain⟨os,gK,jz,ip⟩:=id hs;have kI:s.TypeIs (.ref sl) "slice":=⟨os,gK,jz⟩;unfold getItem
 try with_reducible refine wpAny_holding ?_
 first|refine wpAny_bind (wpAny_pure ?_)|skip
 refine wpAny_bind (wpAny_sequenceKey ht.typeIs ∅ ?_)
 refine wpAny_bind (wpAny_callSpecial?_slot (name:=Str.ofString "__getitem__") ht.typeIs sf
  (wpAny_call_entry sf ht.typeIs entry_tuple_getitem ?_ (args_tuple_getitem _ _)))
 show wpAny _ _ (Builtin.Tuple.tupleItemsOf (.ref t)>>=_) _ _ s;refine wpAny_bind (tupleItemsOf_ ht ?_);refine wpAny_bind (wpAny_typeOf kI ?_);rw[if_pos ∅];refine wpAny_bind (Wl hs pl pu ?_);have lX:((((sIx items.size 0 lo:Nat):Int)==0&&(1:Int)==1&&(sIx items.size items.size hi-sIx items.size 0 lo)==items.size)=true):=by
  rw[hw.1,hw.2];simp
 show wpAny _ _ (if (((sIx items.size 0 lo:Nat):Int)==0&&(1:Int)==1&&(sIx items.size items.size hi-sIx items.size 0 lo)==items.size)=true then _ else _) _ _ s;rw[if_pos lX];refine wpAny_bind ?_;unfold Builtin.Tuple.tupleIsExact;refine wpAny_bind (wpAny_typeOf ht.typeIs ?_);refine wpAny_pure ?_;rw[if_pos ∅];refine wpAny_bind (wpAny_rule ?_);exact wpAny_pure ⟨_,rfl,wpAny_pure h⟩
end
end HT
namespace L2
open PySem PySem.Spec PyProof.Rows
section
variable {X:Cx}
def zld (K:r6):V->Option Int->Option Int->Hp->VK->Prop:=λx lo hi H Q=>∃a xs,x= .ref a/\SqT K H a xs/\
 (HT.sIx xs.length 0 lo=0/\HT.sIx xs.length xs.length hi=xs.length->Q (.ref a) H)/\(¬(HT.sIx xs.length 0 lo=0/\HT.sIx xs.length xs.length hi=xs.length)->∀p,H p=none->Q (.ref p) (upd H p (.tup (zcp xs lo hi))))
theorem zle {K:r6} (hK:X.K=K:=by rfl):SlR X (zld K):=by
 subst hK;intro pins s σ H x v vl vu lo hi sl Q I rx hs pl pu h;obtain⟨a,xs,rfl,hx,q1,q2⟩:=h;by_cases hw:HT.sIx xs.length 0 lo=0/\HT.sIx xs.length xs.length hi=xs.length
 .cases rx;obtain⟨af,r,ht,hz⟩:=I.tuple hx;have hlen:af.toArray.size=xs.length:=by rw[rA];exact r.length.symm
  refine⟨"tuple",_,sf.lookup,ht.typeIs,?_⟩;exact HT.Us ht hs pl pu (by rw[hlen];exact hw) ⟨.ref a,H,I,rfl,q1 hw⟩
 .exact zm6 pins s σ H (.ref a) v vl vu lo hi sl Q I rx hs pl pu ⟨a,xs,rfl,hx,hw,q2 hw⟩
section
variable {X:Cx} {tg:Expr}
end
end
section
variable {env:Env} {r:List Expr}
theorem zjk {a b c}:starEach (.Tuple a b c::r) env=(false,eval (.Tuple a b c) env)::starEach r env:=by rw[starEach];simp
theorem zeS {a b c}:starEach (.Constant a b c::r) env=(false,eval (.Constant a b c) env)::starEach r env:=by rw[starEach];simp
theorem zlf {a b}:starEach (.Name a b::r) env=(false,eval (.Name a b) env)::starEach r env:=by rw[starEach];simp
theorem zdN {a b c}:starEach (.Subscript a b c::r) env=(false,eval (.Subscript a b c) env)::starEach r env:=by rw[starEach];simp
theorem zjl {a b c d}:starEach (.BinOp a b c d::r) env=(false,eval (.BinOp a b c d) env)::starEach r env:=by rw[starEach];simp
theorem zlg {a b c d}:starEach (.Call a b c d::r) env=(false,eval (.Call a b c d) env)::starEach r env:=by rw[starEach];simp
theorem zdO {a b c}:starEach (.Attribute a b c::r) env=(false,eval (.Attribute a b c) env)::starEach r env:=by rw[starEach];simp
end
end L2
namespace L2
open PySem PySem.Spec PyProof.Rows PySem.Builtin
section
variable {X:Cx}
end
end L2
namespace L2
open PySem PySem.Spec PyProof.Rows PySem.Calls
section
variable {X:Cx}
end
section
variable {prog:Program} {w:World} {A:Around} {E:Value->Shared->Prop} {s:Shared} {T:String} {r d:Addr} {n:Nat} {P:Nat->Value->Prop} {OK:Heap->Prop} {Q:Value->Shared->Prop}
end
section
variable {X:Cx}
end
section
variable {prog:Program} {w:World} {A:Around} {E:Value->Shared->Prop} {s:Shared} {T:String} {r d:Addr} {n:Nat} {P:Nat->Value->Prop} {OK:Heap->Prop} {Q:Value->Shared->Prop}
end
section
variable {X:Cx}
end
end L2
namespace L2
open PySem
inductive Xv where
 |non|bl (b:Bool)|int (i:Int)|str (x:Str)|tup (xs:List Xv)|ct (xs:List Xv)|ref (n:Nat)
inductive Ce where
 |lst (xs:List Xv)
 |frz (xs:List Xv)
 |dk (aj:List (Key×Xv))
 |dt (aj:List (List Key×Xv))
 |ins (nm:Str) (fs:List (Str×Xv))
 |fdk (aj:List (Key×Xv))
 |dn (aj:List (NK×Xv×Xv))
 |exc (nm:Str)
abbrev Sto:=List Ce
abbrev Rho:=List (Option Xv)
noncomputable def Ce.fz:Ce->Bool
 | .frz _=>true
 | .fdk _=>true
 | .exc _=>true
 |_=>false
noncomputable def HO.mu:HO->Bool
 | .lst _=>true
 | .dK _=>true
 | .dT _=>true
 | .dN _=>true
 | .ins _ _ _=>true
 | .set _ _=>true
 |_=>false
def Yx (H H':Hp):Prop:=∀b u,H b=some u->u.mu=false->H' b=some u
theorem Yx.refl (H:Hp):Yx H H:=λ_ _ e _=>e
theorem Yx.trans {H H1 H2:Hp} (a:Yx H H1) (b:Yx H1 H2):Yx H H2:=λx u e m=>b x u (a x u e m) m
theorem Yx.same {H H':Hp} (S:UI H H'):Yx H H':=λb u e _=>S b u e
structure Ext (j:List Addr) (H:Hp) (j':List Addr) (H':Hp):Prop where
 pre:∀(n:Nat) a,j[n]? =some a->j'[n]? =some a
 imm:Yx H H'
theorem Ext.refl {j:List Addr} {H:Hp}:Ext j H j H:=⟨λ_ _ e=>e,Yx.refl _⟩
theorem Ext.trans {j j1 j2:List Addr} {H H1 H2:Hp} (a:Ext j H j1 H1) (b:Ext j1 H1 j2 H2):Ext j H j2 H2:=⟨λn x e=>b.pre n x (a.pre n x e),a.imm.trans b.imm⟩
theorem Ext.same {j:List Addr} {H H':Hp} (S:UI H H'):Ext j H j H':=⟨λ_ _ e=>e,Yx.same S⟩
mutual
inductive Xis (K:r6) (j:List Addr) (H:Hp):Xv->V->Prop where
 |non:Xis K j H .non .non
 |bl (b:Bool):Xis K j H (.bl b) (.bl b)
 |int (i:Int):Xis K j H (.int i) (.int i)
 |str (x:Str):Xis K j H (.str x) (.str x)
 |tup {a:Addr} {vs:List V} {xs:List Xv}:H a=some (.tup vs)->yo K j H xs vs->Xis K j H (.tup xs) (.ref a)
 |ct {a:Addr} {vs:List V} {xs:List Xv}:(∀H,SqT K H a vs)->yo K j H xs vs->Xis K j H (.ct xs) (.ref a)
 |ref {n:Nat} {a:Addr}:j[n]? =some a->Xis K j H (.ref n) (.ref a)
inductive yo (K:r6) (j:List Addr) (H:Hp):List Xv->List V->Prop where
 |nil:yo K j H [] []
 |cons {x:Xv} {v:V} {xs:List Xv} {vs:List V}:Xis K j H x v->yo K j H xs vs->yo K j H (x::xs) (v::vs)
end
mutual
theorem Xis.mono {K:r6} {j j':List Addr} {H H':Hp} (S:Ext j H j' H'):∀{x:Xv} {v:V},Xis K j H x v->Xis K j' H' x v
 |_,_,.non=> .non
 |_,_,.bl b=> .bl b
 |_,_,.int i=> .int i
 |_,_,.str x=> .str x
 |_,_,.tup h l=> .tup (S.imm _ _ h rfl) (yo.mono S l)
 |_,_,.ct h l=> .ct h (yo.mono S l)
 |_,_,.ref h=> .ref (S.pre _ _ h)
theorem yo.mono {K:r6} {j j':List Addr} {H H':Hp} (S:Ext j H j' H'):∀{xs:List Xv} {vs:List V},yo K j H xs vs->yo K j' H' xs vs
 |_,_,.nil=> .nil
 |_,_,.cons h l=> .cons (Xis.mono S h) (yo.mono S l)
end
section
variable {K:r6} {j:List Addr} {H:Hp}
theorem yo.len:∀{xs:List Xv} {vs:List V},yo K j H xs vs->vs.length=xs.length
 |_,_,.nil=>rfl
 |_,_,.cons _ l=>by rw[rl,rl,l.len]
theorem yo.get:∀{xs:List Xv} {vs:List V} {i:Nat} {x:Xv},yo K j H xs vs->xs[i]? =some x->∃v,vs[i]? =some v/\Xis K j H x v
 |_,_,_,_,.nil,e=>by simp at e
 |_,_,0,_,.cons h _,e=>by simp at e;subst e;exact⟨_,rfl,h⟩
 |_,_,i+1,x,.cons _ l,e=>by
  obtain⟨v,e1,e2⟩:=l.get (i:=i) (x:=x) (by simpa using e);exact⟨v,by simpa using e1,e2⟩
theorem yo.append:∀{xs ys:List Xv} {vs ws:List V},yo K j H xs vs->yo K j H ys ws->yo K j H (xs++ys) (vs++ws)
 |_,_,_,_,.nil,h=>h
 |_,_,_,_,.cons h l,k=> .cons h (l.append k)
theorem yo.one {v:V} {x:Xv} (h:Xis K j H x v):yo K j H [x] [v]:= .cons h .nil
theorem yo.take:∀{xs:List Xv} {vs:List V} (n:Nat),yo K j H xs vs->yo K j H (xs.take n) (vs.take n)
 |_,_,0,_=> .nil
 |_,_,_+1,.nil=> .nil
 |_,_,n+1,.cons h l=> .cons h (l.take n)
theorem yo.drop:∀{xs:List Xv} {vs:List V} (n:Nat),yo K j H xs vs->yo K j H (xs.drop n) (vs.drop n)
 |_,_,0,h=>h
 |_,_,_+1,.nil=> .nil
 |_,_,n+1,.cons h l=>l.drop n
theorem yo.ints:∀ns:List Int,yo K j H (ns.map Xv.int) (ns.map V.int)
 |[]=> .nil
 |n::r=> .cons (.int n) (yo.ints r)
theorem yo.set {v:V} {x:Xv} (hv:Xis K j H x v):∀{xs:List Xv} {vs:List V} (n:Nat),yo K j H xs vs->yo K j H (xs.set n x) (vs.set n v)
 |_,_,_,.nil=> .nil
 |_,_,0,.cons _ l=> .cons hv l
 |_,_,n+1,.cons h l=> .cons h (l.set hv n)
theorem yo.dropLast {xs:List Xv} {vs:List V} (h:yo K j H xs vs):yo K j H xs.dropLast vs.dropLast:=by
 rw[Ai,Ai,h.len];exact h.take _
theorem yo.at_ {xs:List Xv} {vs:List V} {i:Int} {x:Xv} (h:yo K j H xs vs) (e:atI xs i=some x):∃v,atI vs i=some v/\Xis K j H x v:=by
 unfold atI at e ⊢;rw[h.len];cases e1:ixN xs.length i with
 |none=>rw[e1] at e;cases e
 |some m=>
  rw[e1] at e;obtain⟨v,e3,e4⟩:=h.get (i:=m) e;exact⟨v,e3,e4⟩
theorem Xis.int_inv {v:V} {i:Int} (h:Xis K j H (.int i) v):v= .int i:=by cases h;rfl
theorem Xis.bl_inv {v:V} {b:Bool} (h:Xis K j H (.bl b) v):v= .bl b:=by cases h;rfl
theorem Xis.str_inv {v:V} {b:Str} (h:Xis K j H (.str b) v):v= .str b:=by cases h;rfl
theorem Xis.non_inv {v:V} (h:Xis K j H .non v):v= .non:=by cases h;rfl
theorem Xis.ref_inv {v:V} {n:Nat} (h:Xis K j H (.ref n) v):∃a,v= .ref a/\j[n]? =some a:=by cases h with|ref e=>exact⟨_,rfl,e⟩
theorem Xis.tup_inv {v:V} {xs:List Xv} (h:Xis K j H (.tup xs) v):∃a vs,v= .ref a/\H a=some (.tup vs)/\yo K j H xs vs:=by cases h with|tup a b=>exact⟨_,_,rfl,a,b⟩
theorem yo.cons_inv {vs:List V} {x:Xv} {xs:List Xv} (h:yo K j H (x::xs) vs):∃v r,vs=v::r/\Xis K j H x v/\yo K j H xs r:=by cases h with|cons a b=>exact⟨_,_,rfl,a,b⟩
theorem yo.nil_inv {vs:List V} (h:yo K j H [] vs):vs=[]:=by cases h;rfl
theorem yo.d1 {vs:List V} {a:Xv} (h:yo K j H [a] vs):∃x,vs=[x]/\Xis K j H a x:=by
 obtain⟨x,r,rfl,hx,h⟩:=h.cons_inv;obtain rfl:=h.nil_inv;exact⟨x,rfl,hx⟩
theorem yo.d2 {vs:List V} {a b:Xv} (h:yo K j H [a,b] vs):∃x y,vs=[x,y]/\Xis K j H a x/\Xis K j H b y:=by
 obtain⟨x,r,rfl,hx,h⟩:=h.cons_inv;obtain⟨y,rfl,hy⟩:=h.d1;exact⟨x,y,rfl,hx,hy⟩
noncomputable def Xv.tupOf:Xv->Option (List Xv)
 | .tup xs=>some xs
 | .ct xs=>some xs
 |_=>none
theorem Xis.tupO {v:V} {x:Xv} {xs:List Xv} (h:Xis K j H x v) (e:x.tupOf=some xs):∃a vs,v= .ref a/\SqT K H a vs/\yo K j H xs vs:=by
 cases h with
 |tup h l=>simp[Xv.tupOf] at e;subst e;exact⟨_,_,rfl,SqT.of h,l⟩
 |ct h l=>simp[Xv.tupOf] at e;subst e;exact⟨_,_,rfl,h H,l⟩
 |_=>simp[Xv.tupOf] at e
end
inductive KX {κ:Type} (K:r6) (j:List Addr) (H:Hp):List (κ×Xv)->List (κ×V)->Prop where
 |nil:KX K j H [] []
 |cons {k:κ} {x:Xv} {v:V} {r:List (κ×Xv)} {rs:List (κ×V)}:Xis K j H x v->KX K j H r rs->KX K j H ((k,x)::r) ((k,v)::rs)
theorem KX.mono {κ:Type} {K:r6} {j j':List Addr} {H H':Hp} (S:Ext j H j' H'):∀{xs:List (κ×Xv)} {vs:List (κ×V)},KX K j H xs vs->KX K j' H' xs vs
 |_,_,.nil=> .nil
 |_,_,.cons h l=> .cons (h.mono S) (l.mono S)
mutual
noncomputable def zoY:Xv->Option NK
 | .int i=>some (.int i)
 | .str x=>some (.str x)
 | .tup l=>(zjm l).map .tup
 | .ct l=>(zjm l).map .tup
 | .non=>none
 | .bl _=>none
 | .ref _=>none
noncomputable def zjm:List Xv->Option (List NK)
 |[]=>some []
 |x::r=>(zoY x).bind λk=>(zjm r).map (k:: ·)
end
inductive NX (K:r6) (j:List Addr) (H:Hp):List (NK×Xv×Xv)->List (NK×Addr×V)->Prop where
 |nil:NX K j H [] []
 |cons {k:NK} {x y:Xv} {b:Addr} {v:V} {r:List (NK×Xv×Xv)} {rs:List (NK×Addr×V)}:zoY x=some k/\zkM k<=8->Xis K j H x (.ref b)->Xis K j H y v->NX K j H r rs->NX K j H ((k,x,y)::r) ((k,b,v)::rs)
theorem NX.mono {K:r6} {j j':List Addr} {H H':Hp} (S:Ext j H j' H'):∀{xs:List (NK×Xv×Xv)} {vs:List (NK×Addr×V)},NX K j H xs vs->NX K j' H' xs vs
 |_,_,.nil=> .nil
 |_,_,.cons e h1 h2 l=> .cons e (h1.mono S) (h2.mono S) (l.mono S)
def zcw (K:r6) (j:List Addr) (H:Hp) (a:Addr):Ce->Prop
 | .lst xs=>∃vs,H a=some (.lst vs)/\yo K j H xs vs
 | .frz xs=>∃vs,((∃o,H a=some (.frz o (.lst vs)))\/∀H,SqX K H a vs)/\yo K j H xs vs
 | .dk aj=>∃ks:List (Key×V),H a=some (.dK ks)/\KX K j H aj ks
 | .dt aj=>∃ks:List (List Key×V),H a=some (.dT ks)/\KX K j H aj ks
 | .ins nm fs=>∃(C dx:Addr) (vs:List (Str×V)),rD K mainGlobals nm=some (some (.ref C))/\H a=some (.ins C dx vs)/\KX K j H fs vs
 | .fdk aj=>∃(o:Obj) (ks:List (Key×V)),H a=some (.frz o (.dK ks))/\KX K j H aj ks
 | .dn aj=>∃ks:List (NK×Addr×V),H a=some (.dN ks)/\NX K j H aj ks
 | .exc nm=>∃C:Addr,rD K mainGlobals nm=some (some (.ref C))/\H a=some (zne a (.ref C))
theorem zcw.mu {K:r6} {j:List Addr} {H:Hp} {a:Addr}:∀{c:Ce},zcw K j H a c->c.fz=false->∃o,H a=some o/\o.mu=true
 | .lst _,⟨_,e,_⟩,_=>⟨_,e,rfl⟩
 | .frz _,_,z=>by cases z
 | .dk _,⟨_,e,_⟩,_=>⟨_,e,rfl⟩
 | .dt _,⟨_,e,_⟩,_=>⟨_,e,rfl⟩
 | .ins _ _,⟨_,_,_,_,e,_⟩,_=>⟨_,e,rfl⟩
 | .fdk _,_,z=>by cases z
 | .dn _,⟨_,e,_⟩,_=>⟨_,e,rfl⟩
 | .exc _,_,z=>by cases z
theorem zcw.mono {K:r6} {j j':List Addr} {H H':Hp} {a:Addr} (S:Ext j H j' H'):∀{c:Ce},(c.fz=false->H' a=H a)->zcw K j H a c->zcw K j' H' a c
 | .lst _,h,⟨_,e,l⟩=>⟨_,(h rfl).trans e,l.mono S⟩
 | .frz _,_,⟨_,.inl ⟨o,e⟩,l⟩=>⟨_,.inl ⟨o,S.imm _ _ e rfl⟩,l.mono S⟩
 | .frz _,_,⟨_,.inr e,l⟩=>⟨_,.inr e,l.mono S⟩
 | .dk _,h,⟨_,e,l⟩=>⟨_,(h rfl).trans e,l.mono S⟩
 | .dt _,h,⟨_,e,l⟩=>⟨_,(h rfl).trans e,l.mono S⟩
 | .ins _ _,h,⟨_,_,_,n,e,l⟩=>⟨_,_,_,n,(h rfl).trans e,l.mono S⟩
 | .fdk _,_,⟨_,_,e,l⟩=>⟨_,_,S.imm _ _ e rfl,l.mono S⟩
 | .dn _,h,⟨_,e,l⟩=>⟨_,(h rfl).trans e,l.mono S⟩
 | .exc _,_,⟨C,n,e⟩=>⟨C,n,S.imm _ _ e rfl⟩
structure Fm where
 H0:Hp
 j0:List Addr
 S0:Sto
structure En (K:r6) (F:Fm) (j:List Addr) (H:Hp) (σ:St) (ρ:Rho) (S:Sto):Prop where
 len:σ.length=ρ.length
 slot:∀(i:Nat) x,ρ[i]? =some (some x)->∃v,σ[i]? =some (some v)/\Xis K j H x v
 jl:j.length=S.length
 inj:∀(n m:Nat) a c d,j[n]? =some a->j[m]? =some a->S[n]? =some c->S[m]? =some d->c.fz=false->d.fz=false->n=m
 cel:∀(n:Nat) c a,S[n]? =some c->j[n]? =some a->zcw K j H a c
 ext:Ext F.j0 F.H0 j H
 old:∀(n:Nat) c,F.S0[n]? =some c->∃c',S[n]? =some c'/\(c'.fz=false->c.fz=false)/\(c.fz=true->c'=c)
 l0:F.j0.length=F.S0.length
 keep:∀b u,F.H0 b=some u->H b=some u\/∃(n:Nat) (c:Ce),F.j0[n]? =some b/\F.S0[n]? =some c/\c.fz=false
 fresh:∀(n:Nat) a,F.j0.length<=n->j[n]? =some a->F.H0 a=none
 dom:∀b,H b=none->F.H0 b=none
section
variable {K:r6} {F:Fm} {j j':List Addr} {H H':Hp} {σ σ':St} {ρ ρ':Rho} {S S':Sto} {v:V} {x:Xv} {a p:Addr} {o:HO} {i n:Nat} {c c':Ce}
theorem En.heap (E:En K F j H σ ρ S) (Sm:UI H H'):En K F j H' σ ρ S:=by
 have X:Ext j H j H':=Ext.same Sm;refine⟨E.len,λi x e=> ?_,E.jl,E.inj,λn c a e1 e2=> ?_,E.ext.trans X,E.old,E.l0,λb u e=> ?_,E.fresh,λb e=>E.dom b ?_⟩
 .obtain⟨v,e1,e2⟩:=E.slot i x e;exact⟨v,e1,e2.mono X⟩
 .have h:=E.cel n c a e1 e2;refine h.mono X λz=> ?_;obtain⟨o,e,_⟩:=h.mu z;exact (Sm _ _ e).trans e.symm
 .rcases E.keep b u e with h|h
  .exact .inl (Sm _ _ h)
  .exact .inr h
 .cases e':H b with
  |none=>rfl
  |some u=>rw[Sm b u e'] at e;cases e
theorem En.new (E:En K F j H σ ρ S) (h:H p=none):En K F j (upd H p o) σ ρ S/\Ext j H j (upd H p o):=⟨E.heap (vI h),Ext.same (vI h)⟩
theorem En.cell (E:En K F j H σ ρ S) (h:H p=none) (hc:zcw K (j++[p]) (upd H p o) p c):En K F (j++[p]) (upd H p o) σ ρ (S++[c])/\Ext j H (j++[p]) (upd H p o):=by
 have X:Ext j H (j++[p]) (upd H p o):=⟨λn a e=>by rw[rB (rg.1 e).1];exact e,Yx.same (vI h)⟩;have iR:∀{n:Nat} {a:Addr},(j++[p])[n]? =some a->j[n]? =some a\/(n=j.length/\a=p):=λ{n a} e=>by
  by_cases hn:n<j.length
  .rw[rB hn] at e;exact .inl e
  .rw[rL ⋯] at e;cases hm:n-j.length with
   |zero=>rw[hm] at e;simp at e;exact .inr ⟨⋯,e.symm⟩
   |succ m=>rw[hm] at e;simp at e
 have sat:∀{n:Nat} {d:Ce},(S++[c])[n]? =some d->S[n]? =some d\/(n=S.length/\d=c):=λ{n d} e=>by
  by_cases hn:n<S.length
  .rw[rB hn] at e;exact .inl e
  .rw[rL ⋯] at e;cases hm:n-S.length with
   |zero=>rw[hm] at e;simp at e;exact .inr ⟨⋯,e.symm⟩
   |succ m=>rw[hm] at e;simp at e
 have lt:∀{n:Nat} {d:Ce},S[n]? =some d->n<S.length:=λe=>(rg.1 e).1;have jd:∀{n:Nat} {a:Addr} {d:Ce},j[n]? =some a->S[n]? =some d->d.fz=false->a≠p:=λ{n a d} e1 e2 z q=>by
  subst q;obtain⟨o',e,_⟩:=(E.cel n d a e2 e1).mu z;rw[h] at e;cases e
 refine⟨⟨E.len,λi x e=> ?_,by simp[E.jl],λn m a c1 c2 e1 e2 e3 e4 z1 z2=> ?_,λn d a e1 e2=> ?_,E.ext.trans X,λn d e=> ?_,E.l0,λb u e=> ?_,λn a hn e=> ?_,λb e=> ?_⟩,X⟩
 .obtain⟨v,e1,e2⟩:=E.slot i x e;exact⟨v,e1,e2.mono X⟩
 .rcases sat e3 with e3|⟨e3,_⟩
  .have h1:j[n]? =some a:=by
    rcases iR e1 with h1|⟨h1,_⟩
    .exact h1
    .have:=lt e3;rw[E.jl] at h1;omega
   rcases sat e4 with e4|⟨e4,_⟩
   .have h2:j[m]? =some a:=by
     rcases iR e2 with h2|⟨h2,_⟩
     .exact h2
     .have:=lt e4;rw[E.jl] at h2;omega
    exact E.inj n m a c1 c2 h1 h2 e3 e4 z1 z2
   .have:a=p:=by
     rcases iR e2 with h2|⟨_,h2⟩
     .have:=(rg.1 h2).1;rw[E.jl] at this;omega
     .exact h2
    exact absurd this (jd h1 e3 z1)
  .have:a=p:=by
    rcases iR e1 with h2|⟨_,h2⟩
    .have:=(rg.1 h2).1;rw[E.jl] at this;omega
    .exact h2
   rcases sat e4 with e4|⟨e4,_⟩
   .have h2:j[m]? =some a:=by
     rcases iR e2 with h2|⟨h2,_⟩
     .exact h2
     .have:=lt e4;rw[E.jl] at h2;omega
    exact absurd this (jd h2 e4 z2)
   .rw[e3,e4]
 .rcases sat e1 with e1|⟨e1,rfl⟩
  .have h2:j[n]? =some a:=by
    rcases iR e2 with h2|⟨h2,_⟩
    .exact h2
    .have:=lt e1;rw[E.jl] at h2;omega
   have hh:=E.cel n d a e1 h2;exact hh.mono X λz=>yz (jd h2 e1 z)
  .have:a=p:=by
    rcases iR e2 with h2|⟨_,h2⟩
    .have:=(rg.1 h2).1;rw[E.jl] at this;omega
    .exact h2
   subst this;exact hc
 .obtain⟨d',e1,e2⟩:=E.old n d e;exact⟨d',by rw[rB (lt e1)];exact e1,e2⟩
 .rcases E.keep b u e with h'|h'
  .exact .inl (vI h _ _ h')
  .exact .inr h'
 .rcases iR e with e|⟨_,rfl⟩
  .exact E.fresh n a hn e
  .exact E.dom _ h
 .refine E.dom b ?_;cases e':H b with
  |none=>rfl
  |some u=>rw[vI h b u e'] at e;cases e
theorem En.writeF (E:En K F j H σ ρ S) (hs:S[n]? =some c) (z:c.fz=false) (hj:j[n]? =some a) (hc:∀X:Ext j H j (upd H a o),zcw K j (upd H a o) a c'):En K F j (upd H a o) σ ρ (S.set n c')/\Ext j H j (upd H a o):=by
 obtain⟨o0,h0,m0⟩:=(E.cel n c a hs hj).mu z
 have X:Ext j H j (upd H a o):=⟨λ_ _ e=>e,λb u e m=>by
  have:b≠a:=λq=>by subst q;rw[h0] at e;cases e;rw[m] at m0;cases m0
  rw[yz this];exact e⟩
 have sat:∀{m:Nat} {d:Ce},(S.set n c')[m]? =some d->(m=n/\d=c')\/(m≠n/\S[m]? =some d):=λ{m d} e=>by
  rw[tG] at e;split at e
  .rename_i q;split at e
   .cases e;exact .inl ⟨q.symm,rfl⟩
   .cases e
  .rename_i q;exact .inr ⟨λr=>q r.symm,e⟩
 have o8:∀{m:Nat} {d:Ce},(S.set n c')[m]? =some d->∃d',S[m]? =some d'/\(d.fz=false->d'.fz=false):=λ{m d} e=>by
  rcases sat e with⟨rfl,rfl⟩|⟨_,e⟩
  .exact⟨c,hs,λ_=>z⟩
  .exact⟨d,e,λy=>y⟩
 refine⟨⟨E.len,λi x e=> ?_,by simp[E.jl],λk m b c1 c2 e1 e2 e3 e4 z1 z2=> ?_,λm d b e1 e2=> ?_,E.ext.trans X,λm d e=> ?_,E.l0,λb u e=> ?_,E.fresh,λb e=> ?_⟩,X⟩
 .obtain⟨v,e1,e2⟩:=E.slot i x e;exact⟨v,e1,e2.mono X⟩
 .obtain⟨d1,f1,g1⟩:=o8 e3;obtain⟨d2,f2,g2⟩:=o8 e4;exact E.inj k m b d1 d2 e1 e2 f1 f2 (g1 z1) (g2 z2)
 .rcases sat e1 with⟨rfl,rfl⟩|⟨q,e1⟩
  .rw[hj] at e2;cases e2;exact hc X
  .refine (E.cel m d b e1 e2).mono X λzd=>yz λr=> ?_;subst r;exact q (E.inj m n b d c e2 hj e1 hs zd z)
 .obtain⟨d',e1,e2,e3⟩:=E.old m d e;by_cases q:m=n
  .subst q;rw[hs] at e1;cases e1;refine⟨c',by rw[tG,if_pos rfl,if_pos (rg.1 hs).1],λ_=>e2 z,λy=> ?_⟩;rw[e2 z] at y;cases y
  .exact⟨d',by rw[tG,if_neg (λr=>q r.symm)];exact e1,e2,e3⟩
 .by_cases q:b=a
  .subst q;by_cases hn:n<F.j0.length
   .have pS:F.j0[n]? =some b:=by
     have e1:F.j0[n]? =some F.j0[n]:=r9 hn;have e2:=E.ext.pre n _ e1;rw[hj] at e2;cases e2;exact e1
    have gf:n<F.S0.length:=by rw[<-E.l0];exact hn
    obtain⟨d',f1,f2,_⟩:=E.old n _ (r9 gf);rw[hs] at f1;cases f1;exact .inr ⟨n,_,pS,r9 gf,f2 z⟩
   .rw[E.fresh n b ⋯ hj] at e;cases e
  .rcases E.keep b u e with h|h
   .exact .inl (by rw[yz q];exact h)
   .exact .inr h
 .by_cases q:b=a
  .subst q;rw[yP] at e;cases e
  .rw[yz q] at e;exact E.dom b e
theorem En.write (E:En K F j H σ ρ S) (hs:S[n]? =some c) (z:c.fz=false) (hj:j[n]? =some a) (_:c'.fz=false) (hc:∀X:Ext j H j (upd H a o),zcw K j (upd H a o) a c'):En K F j (upd H a o) σ ρ (S.set n c')/\Ext j H j (upd H a o):=E.writeF hs z hj hc
theorem En.slots (E:En K F j H σ ρ S) (hl:σ'.length=ρ'.length) (h:∀(i:Nat) x,ρ'[i]? =some (some x)->∃v,σ'[i]? =some (some v)/\Xis K j H x v):En K F j H σ' ρ' S:=
 ⟨hl,h,E.jl,E.inj,E.cel,E.ext,E.old,E.l0,E.keep,E.fresh,E.dom⟩
theorem En.set (E:En K F j H σ ρ S) (h:Xis K j H x v):En K F j H (σ.set i (some v)) (ρ.set i (some x)) S:=E.slots (by simp[E.len]) λk y e=>by
 rw[tG] at e ⊢;split at e
 .rename_i q;subst q;split at e
  .rename_i hl;cases e;rw[if_pos rfl,if_pos (by rw[E.len];exact hl)];exact⟨v,rfl,h⟩
  .cases e
 .rename_i q;rw[if_neg q];exact E.slot k y e
theorem En.enter (E:En K F j H σ ρ S) (hl:σ'.length=ρ'.length) (h:∀(i:Nat) x,ρ'[i]? =some (some x)->∃v,σ'[i]? =some (some v)/\Xis K j H x v):En K ⟨H,j,S⟩ j H σ' ρ' S:=
 ⟨hl,h,E.jl,E.inj,E.cel,Ext.refl,λn c e=>⟨c,e,λz=>z,λ_=>rfl⟩,E.jl,λb u e=> .inl e,λn a hn e=>by have:=(rg.1 e).1;dsimp only at hn;omega,λb e=>e⟩
theorem En.leave (E:En K F j H σ ρ S) (X:En K ⟨H,j,S⟩ j' H' σ' ρ' S'):En K F j' H' σ ρ S'/\Ext j H j' H':=by
 have e:Ext j H j' H':=X.ext;refine⟨⟨E.len,λi x h=> ?_,X.jl,X.inj,X.cel,E.ext.trans e,λn c h=> ?_,E.l0,λb u h=> ?_,λn a hn h=> ?_,λb h=>E.dom b (X.dom b h)⟩,e⟩
 .obtain⟨v,e1,e2⟩:=E.slot i x h;exact⟨v,e1,e2.mono e⟩
 .obtain⟨c1,e1,e2,e3⟩:=E.old n c h;obtain⟨c2,f1,f2,f3⟩:=X.old n c1 e1;refine⟨c2,f1,λz=>e2 (f2 z),λz=> ?_⟩;obtain rfl:=e3 z;exact f3 z
 .rcases E.keep b u h with h1|h1
  .rcases X.keep b u h1 with h2|⟨n,c,h2,h3,h4⟩
   .exact .inl h2
   .by_cases hn:n<F.j0.length
    .have e1:F.j0[n]? =some F.j0[n]:=r9 hn;have e2:=E.ext.pre n _ e1;have kN:j[n]? =some b:=h2;rw[kN] at e2;cases e2;have gf:n<F.S0.length:=by rw[<-E.l0];exact hn
     obtain⟨c1,f1,f2,_⟩:=E.old n _ (r9 gf);have kK:S[n]? =some c:=h3;rw[kK] at f1;cases f1;exact .inr ⟨n,_,e1,r9 gf,f2 h4⟩
    .have:=E.fresh n b ⋯ h2;rw[this] at h;cases h
  .exact .inr h1
 .by_cases hm:n<j.length
  .have e1:j[n]? =some j[n]:=r9 hm;have e2:=e.pre n _ e1;rw[h] at e2;cases e2;exact E.fresh n _ hn e1
  .exact E.dom a (X.fresh n a (by dsimp only;omega) h)
theorem En.grow {k:Nat} (E:En K F j H σ ρ S):En K F j H (σ++sN k none) (ρ++sN k none) S:=E.slots (by simp[E.len]) λi x e=>by
 by_cases hi:i<ρ.length
 .rw[rB hi] at e;rw[rB (by rw[E.len];exact hi)];exact E.slot i x e
 .rw[rL ⋯,z5] at e;split at e
  .cases e
  .cases e
end
inductive Rs (α:Type) where
 |ok (a:α) (S:Sto)
 |ex (c:Str) (S:Sto)
abbrev TwE:=Rho->Sto->Option (Rs Xv)
abbrev TwT:=Rho->Sto->Option (Rs Bool)
abbrev TwL:=Rho->Sto->Option (Rs (List Xv))
abbrev TwO:=Rho->Sto->Option (Rs (Option Int))
abbrev TwG:=Xv->Rho->Sto->Option (Rs Rho)
abbrev zgd:=List Xv->Rho->Sto->Option (Rs Rho)
abbrev TwI:=Rho->Sto->Option (Rs (Sto->Option (List Xv)))
inductive Fl where
 |nx (ρ:Rho) (S:Sto)
 |bk (ρ:Rho) (S:Sto)
 |ct (ρ:Rho) (S:Sto)
 |rt (x:Xv) (S:Sto)
 |ex (c:Str) (S:Sto)
abbrev TwS:=Rho->Sto->Option Fl
noncomputable def rb {α β:Type} (m:Option (Rs α)) (f:α->Sto->Option (Rs β)):Option (Rs β):=match m with
 |some (.ok a S)=>f a S
 |some (.ex c S)=>some (.ex c S)
 |none=>none
noncomputable def sb {α:Type} (m:Option (Rs α)) (f:α->Sto->Option Fl):Option Fl:=match m with
 |some (.ok a S)=>f a S
 |some (.ex c S)=>some (.ex c S)
 |none=>none
theorem zv {α β:Type} {m:Option (Rs α)} {f:α->Sto->Option (Rs β)} {r:Rs β} (h:rb m f=some r):(∃a S,m=some (.ok a S)/\f a S=some r)\/∃c S,m=some (.ex c S)/\r= .ex c S:=by
 unfold rb at h;split at h
 .exact .inl ⟨_,_,rfl,h⟩
 .cases h;exact .inr ⟨_,_,rfl,rfl⟩
 .cases h
theorem wD {α:Type} {m:Option (Rs α)} {f:α->Sto->Option Fl} {r:Fl} (h:sb m f=some r):(∃a S,m=some (.ok a S)/\f a S=some r)\/∃c S,m=some (.ex c S)/\r= .ex c S:=by
 unfold sb at h;split at h
 .exact .inl ⟨_,_,rfl,h⟩
 .cases h;exact .inr ⟨_,_,rfl,rfl⟩
 .cases h
def PX (K:r6) (F:Fm) (j:List Addr) (H:Hp) (E:XK) (c:Str) (S':Sto):Prop:=
 ∀j' H' σ' ρ' C,Ext j H j' H'->En K F j' H' σ' ρ' S'->rD K mainGlobals c=some (some (.ref C))->E (.ref C) none H'
theorem PX.mono {K:r6} {F:Fm} {j j1:List Addr} {H H1:Hp} {E:XK} {c:Str} {S':Sto} (h:PX K F j H E c S') (e:Ext j H j1 H1):PX K F j1 H1 E c S':=λj' H' σ' ρ' C x y z=>h j' H' σ' ρ' C (e.trans x) y z
def Po {α:Type} (K:r6) (F:Fm) (j:List Addr) (H:Hp) (σ:St) (ρ:Rho) (E:XK) (P:α->List Addr->Hp->Prop):Rs α->Prop
 | .ok a S'=>∀j' H',Ext j H j' H'->En K F j' H' σ ρ S'->P a j' H'
 | .ex c S'=>PX K F j H E c S'
theorem Po.step {α:Type} {K:r6} {F:Fm} {j j1:List Addr} {H H1:Hp} {σ:St} {ρ:Rho} {E:XK} {P:α->List Addr->Hp->Prop}:∀{r:Rs α},Po K F j H σ ρ E P r->Ext j H j1 H1->Po K F j1 H1 σ ρ E P r
 | .ok a S',h,e=>λj' H' x y=>h j' H' (e.trans x) y
 | .ex c S',h,e=>PX.mono h e
noncomputable abbrev PoV (K:r6) (Q:VK):Xv->List Addr->Hp->Prop:=λx j' H'=>∀v,Xis K j' H' x v->Q v H'
def RE (K:r6) (E:XK) (t:TE) (m:TwE):Prop:=∀{F:Fm} {j:List Addr} {σ:St} {H:Hp} {ρ:Rho} {S:Sto} {r:Rs Xv} {Q:VK},En K F j H σ ρ S->m ρ S=some r->Po K F j H σ ρ E (PoV K Q) r->t σ H Q
def RT (K:r6) (E:XK) (t:TT) (m:TwT):Prop:=∀{F:Fm} {j:List Addr} {σ:St} {H:Hp} {ρ:Rho} {S:Sto} {r:Rs Bool} {Q:Bool->Hp->Prop},En K F j H σ ρ S->m ρ S=some r->Po K F j H σ ρ E (λb _ H'=>Q b H') r->t σ H Q
def RL (K:r6) (E:XK) (t:TA) (m:TwL):Prop:=∀{F:Fm} {j:List Addr} {σ:St} {H:Hp} {ρ:Rho} {S:Sto} {r:Rs (List Xv)} {Q:List V->Hp->Prop},En K F j H σ ρ S->m ρ S=some r->Po K F j H σ ρ E (λxs j' H'=>∀vs,yo K j' H' xs vs->Q vs H') r->t σ H Q
def RO (K:r6) (E:XK) (t:TO) (m:TwO):Prop:=∀{F:Fm} {j:List Addr} {σ:St} {H:Hp} {ρ:Rho} {S:Sto} {r:Rs (Option Int)} {Q:Option Int->Hp->Prop},En K F j H σ ρ S->m ρ S=some r->Po K F j H σ ρ E (λo _ H'=>Q o H') r->t σ H Q
def PoG (K:r6) (F:Fm) (j:List Addr) (H:Hp) (E:XK) (R:St->Hp->Prop):Rs Rho->Prop
 | .ok ρ' S'=>∀σ' j' H',Ext j H j' H'->En K F j' H' σ' ρ' S'->R σ' H'
 | .ex c S'=>PX K F j H E c S'
theorem PoG.step {K:r6} {F:Fm} {j j1:List Addr} {H H1:Hp} {E:XK} {R:St->Hp->Prop}:∀{r:Rs Rho},PoG K F j H E R r->Ext j H j1 H1->PoG K F j1 H1 E R r
 | .ok a S',h,e=>λσ' j' H' x y=>h σ' j' H' (e.trans x) y
 | .ex c S',h,e=>PX.mono h e
def RG (K:r6) (E:XK) (t:TG) (g:TwG):Prop:=∀{F:Fm} {j:List Addr} {σ:St} {H:Hp} {ρ:Rho} {S:Sto} {r:Rs Rho} {x:Xv} {v:V} {R:St->Hp->Prop},En K F j H σ ρ S->Xis K j H x v->g x ρ S=some r->PoG K F j H E R r->t v σ H R
def RGs (K:r6) (E:XK) (t:TGs) (g:zgd):Prop:=∀{F:Fm} {j:List Addr} {σ:St} {H:Hp} {ρ:Rho} {S:Sto} {r:Rs Rho} {xs:List Xv} {vs:List V} {R:St->Hp->Prop},En K F j H σ ρ S->yo K j H xs vs->g xs ρ S=some r->PoG K F j H E R r->t vs σ H R
def zlh (K:r6) (F:Fm) (j:List Addr) (H:Hp) (E:XK) (D':zak):Fl->Prop
 | .nx ρ S=>∀σ j' H',Ext j H j' H'->En K F j' H' σ ρ S->D'.nx σ H'
 | .bk ρ S=>∀σ j' H',Ext j H j' H'->En K F j' H' σ ρ S->D'.bk σ H'
 | .ct ρ S=>∀σ j' H',Ext j H j' H'->En K F j' H' σ ρ S->D'.ct σ H'
 | .rt x S=>∀v σ ρ j' H',Ext j H j' H'->En K F j' H' σ ρ S->Xis K j' H' x v->D'.rt v H'
 | .ex c S=>PX K F j H E c S
theorem zlh.step {K:r6} {F:Fm} {j j1:List Addr} {H H1:Hp} {E:XK} {D':zak}:∀{fl:Fl},zlh K F j H E D' fl->Ext j H j1 H1->zlh K F j1 H1 E D' fl
 | .nx _ _,h,e=>λσ j' H' x y=>h σ j' H' (e.trans x) y
 | .bk _ _,h,e=>λσ j' H' x y=>h σ j' H' (e.trans x) y
 | .ct _ _,h,e=>λσ j' H' x y=>h σ j' H' (e.trans x) y
 | .rt _ _,h,e=>λv σ ρ j' H' x y z=>h v σ ρ j' H' (e.trans x) y z
 | .ex _ _,h,e=>PX.mono h e
def RS (K:r6) (E:XK) (t:TS) (m:TwS):Prop:=∀{F:Fm} {j:List Addr} {D':zak} {σ:St} {H:Hp} {ρ:Rho} {S:Sto} {fl:Fl},En K F j H σ ρ S->m ρ S=some fl->zlh K F j H E D' fl->t D' σ H
def zni (K:r6) (j:List Addr) (H:Hp) (J:It) (get:Sto->Option (List Xv)):Prop:=∀{F:Fm} {j':List Addr} {H':Hp} {σ:St} {ρ:Rho} {S:Sto} {xs:List Xv} (i:Nat),Ext j H j' H'->En K F j' H' σ ρ S->get S=some xs->
 (∀x,xs[i]? =some x->J.go i H'/\∀v H'',J.yld i H' v H''->UI H' H''/\Xis K j' H'' x v)/\(i=xs.length->J.stop i H')
def RI (K:r6) (E:XK) (t:TI) (m:TwI):Prop:=∀{F:Fm} {j:List Addr} {σ:St} {H:Hp} {ρ:Rho} {S:Sto} {r:Rs (Sto->Option (List Xv))} {R:It->Hp->Prop},En K F j H σ ρ S->m ρ S=some r->Po K F j H σ ρ E (λget j' H'=>∀J,zni K j' H' J get->R J H') r->t σ H R
abbrev Op2:=Xv->Xv->Sto->Option (Xv×Sto)
abbrev Opn:=List Xv->Sto->Option (Xv×Sto)
def XN (K:r6) (r:R2) (f:Op2):Prop:=∀{F:Fm} {j:List Addr} {σ:St} {H:Hp} {ρ:Rho} {S S':Sto} {x y z:Xv} {u v:V} {Q:VK},En K F j H σ ρ S->Xis K j H x u->Xis K j H y v->f x y S=some (z,S')->(∀w j' H',Ext j H j' H'->En K F j' H' σ ρ S'->Xis K j' H' z w->Q w H')->r u v H Q
def zoZ (K:r6) (r:V->Hp->VK->Prop) (f:Xv->Sto->Option (Xv×Sto)):Prop:=∀{F:Fm} {j:List Addr} {σ:St} {H:Hp} {ρ:Rho} {S S':Sto} {x z:Xv} {u:V} {Q:VK},En K F j H σ ρ S->Xis K j H x u->f x S=some (z,S')->(∀w j' H',Ext j H j' H'->En K F j' H' σ ρ S'->Xis K j' H' z w->Q w H')->r u H Q
def UK (K:r6) (r:List V->Hp->VK->Prop) (f:Opn):Prop:=∀{F:Fm} {j:List Addr} {σ:St} {H:Hp} {ρ:Rho} {S S':Sto} {xs:List Xv} {z:Xv} {vs:List V} {Q:VK},En K F j H σ ρ S->yo K j H xs vs->f xs S=some (z,S')->(∀w j' H',Ext j H j' H'->En K F j' H' σ ρ S'->Xis K j' H' z w->Q w H')->r vs H Q
noncomputable def za (i:Nat):TwE:=λρ S=>match ρ[i]? with
 |some (some x)=>some (.ok x S)
 |_=>none
noncomputable def eC (x:Xv):TwE:=λ_ S=>some (.ok x S)
noncomputable def okP (o:Option (Xv×Sto)):Option (Rs Xv):=o.map λp=> .ok p.1 p.2
theorem wu {o:Option (Xv×Sto)} {r:Rs Xv} (h:okP o=some r):∃z S,o=some (z,S)/\r= .ok z S:=by
 cases o with
 |none=>cases h
 |some p=>cases h;exact⟨_,_,rfl,rfl⟩
noncomputable def eOp (f:Op2) (a b:TwE):TwE:=λρ S=>rb (a ρ S) λx S1=>rb (b ρ S1) λy S2=>okP (f x y S2)
noncomputable def eUn (f:Xv->Sto->Option (Xv×Sto)) (a:TwE):TwE:=λρ S=>rb (a ρ S) λx S1=>okP (f x S1)
noncomputable def bE (m:TwE):TwT:=λρ S=>rb (m ρ S) λx S1=>match x with
 | .bl b=>some (.ok b S1)
 |_=>none
noncomputable def eB (m:TwT):TwE:=λρ S=>rb (m ρ S) λb S1=>some (.ok (.bl b) S1)
noncomputable def XO (a b:TwT):TwT:=λρ S=>rb (a ρ S) λx S1=>if x then b ρ S1 else some (.ok false S1)
noncomputable def bOr (a b:TwT):TwT:=λρ S=>rb (a ρ S) λx S1=>if x then some (.ok true S1) else b ρ S1
noncomputable def XQ (a:TwT):TwT:=λρ S=>rb (a ρ S) λx S1=>some (.ok (!x) S1)
noncomputable def zge (a b:TwE):TwE:=λρ S=>rb (bE a ρ S) λx S1=>if x then b ρ S1 else some (.ok (.bl false) S1)
noncomputable def eOr (a b:TwE):TwE:=λρ S=>rb (bE a ρ S) λx S1=>if x then some (.ok (.bl true) S1) else b ρ S1
noncomputable def eIf (c:TwT) (a b:TwE):TwE:=λρ S=>rb (c ρ S) λx S1=>if x then a ρ S1 else b ρ S1
noncomputable def evL:List TwE->TwL
 |[]=>λ_ S=>some (.ok [] S)
 |m::r=>λρ S=>rb (m ρ S) λx S1=>rb (evL r ρ S1) λxs S2=>some (.ok (x::xs) S2)
noncomputable def yn (ms:List TwE):TwE:=λρ S=>rb (evL ms ρ S) λxs S1=>some (.ok (.tup xs) S1)
noncomputable def wv (ms:List TwE):TwE:=λρ S=>rb (evL ms ρ S) λxs S1=>some (.ok (.ref S1.length) (S1++[.lst xs]))
noncomputable def eFn (f:Opn) (ms:List TwE):TwE:=λρ S=>rb (evL ms ρ S) λxs S1=>okP (f xs S1)
noncomputable def znj (f:Xv->Xv->Option Xv):Op2:=λx y S=>(f x y).map λz=>(z,S)
noncomputable def zo0 (f:Xv->Option Xv):Xv->Sto->Option (Xv×Sto):=λx S=>(f x).map λz=>(z,S)
theorem zjn {o:Option Xv} {S S':Sto} {z:Xv} (h:(o.map λz=>(z,S))=some (z,S')):o=some z/\S'=S:=by
 cases o with
 |none=>cases h
 |some p=>cases h;exact⟨rfl,rfl⟩
section
variable {K:r6} {E:XK} {F:Fm} {j:List Addr} {H:Hp} {σ:St} {ρ:Rho} {S:Sto}
theorem Po.val {Q:VK} {x:Xv} {v:V} (k:Po K F j H σ ρ E (PoV K Q) (.ok x S)) (En0:En K F j H σ ρ S) (h:Xis K j H x v):Q v H:=k j H Ext.refl En0 v h
theorem zn (i:Nat):RE K E (zmN i) (za i):=by
 intro F j σ H ρ S r Q En0 e k;unfold za at e;split at e
 .rename_i x ex;cases e;obtain⟨v,e1,e2⟩:=En0.slot i _ ex;exact⟨v,e1,k.val En0 e2⟩
 .cases e
theorem zdP {v:V} {x:Xv} (h:∀j H,Xis K j H x v):RE K E (tC v) (eC x):=λEn0 e k=>by
 cases e;exact k.val En0 (h _ _)
theorem yV (i:Int):RE K E (tC (.int i)) (eC (.int i)):=zdP λ_ _=> .int i
theorem yZ (x:Str):RE K E (tC (.str x)) (eC (.str x)):=zdP λ_ _=> .str x
theorem zo1 (b:Bool):RE K E (tC (.bl b)) (eC (.bl b)):=zdP λ_ _=> .bl b
theorem zjo:RE K E (tC .non) (eC .non):=zdP λ_ _=> .non
theorem xE {r:R2} {f:Op2} {ta tb:TE} {a b:TwE} (ho:XN K r f) (ha:RE K E ta a) (hb:RE K E tb b):RE K E (tOp r ta tb) (eOp f a b):=by
 intro F j σ H ρ S r Q En0 e k;rcases zv e with⟨x,S1,e1,e⟩|⟨c,S1,e1,rfl⟩
 .refine ha En0 e1 λj1 H1 X1 E1 u hu=> ?_;rcases zv e with⟨y,S2,e2,e⟩|⟨c,S2,e2,rfl⟩
  .obtain⟨z,S3,e3,rfl⟩:=wu e;exact hb E1 e2 λj2 H2 X2 E2 v hv=>ho E2 (hu.mono X2) hv e3 λw j3 H3 X3 E3 hw=>k _ _ (X1.trans (X2.trans X3)) E3 _ hw
  .exact hb E1 e2 (PX.mono k X1)
 .exact ha En0 e1 k
theorem zo2 {r:V->Hp->VK->Prop} {f:Xv->Sto->Option (Xv×Sto)} {ta:TE} {a:TwE} (ho:zoZ K r f) (ha:RE K E ta a):RE K E (tUn r ta) (eUn f a):=by
 intro F j σ H ρ S r Q En0 e k;rcases zv e with⟨x,S1,e1,e⟩|⟨c,S1,e1,rfl⟩
 .obtain⟨z,S3,e3,rfl⟩:=wu e;exact ha En0 e1 λj1 H1 X1 E1 u hu=>ho E1 hu e3 λw j3 H3 X3 E3 hw=>k _ _ (X1.trans X3) E3 _ hw
 .exact ha En0 e1 k
theorem zbD {t:TE} {m:TwE} (h:RE K E t m):RT K E (tB t) (bE m):=by
 intro F j σ H ρ S r Q En0 e k;rcases zv e with⟨x,S1,e1,e⟩|⟨c,S1,e1,rfl⟩
 .split at e
  .cases e;exact h En0 e1 λj1 H1 X1 E1 u hu=>⟨_,hu.bl_inv,k _ _ X1 E1⟩
  .cases e
 .exact h En0 e1 k
theorem wE {t:TE} {m:TwE} (h:RE K E t m):RT K E (ziY t) (bE m):=zbD h
theorem znk {t u:TT} {a b:TwT} (ha:RT K E t a) (hb:RT K E u b):RT K E (zos t u) (XO a b):=by
 intro F j σ H ρ S r Q En0 e k;rcases zv e with⟨x,S1,e1,e⟩|⟨c,S1,e1,rfl⟩
 .refine ha En0 e1 λj1 H1 X1 E1=> ?_;cases x with
  |true=>exact hb E1 e (k.step X1)
  |false=>cases e;exact k _ _ X1 E1
 .exact ha En0 e1 k
theorem zmr {t u:TT} {a b:TwT} (ha:RT K E t a) (hb:RT K E u b):RT K E (tOr t u) (bOr a b):=by
 intro F j σ H ρ S r Q En0 e k;rcases zv e with⟨x,S1,e1,e⟩|⟨c,S1,e1,rfl⟩
 .refine ha En0 e1 λj1 H1 X1 E1=> ?_;cases x with
  |true=>cases e;exact k _ _ X1 E1
  |false=>exact hb E1 e (k.step X1)
 .exact ha En0 e1 k
theorem zjp {t:TT} {a:TwT} (ha:RT K E t a):RT K E (zot t) (XQ a):=by
 intro F j σ H ρ S r Q En0 e k;rcases zv e with⟨x,S1,e1,e⟩|⟨c,S1,e1,rfl⟩
 .cases e;exact ha En0 e1 λj1 H1 X1 E1=>k _ _ X1 E1
 .exact ha En0 e1 k
theorem znl {ta tb:TE} {a b:TwE} (ha:RE K E ta a) (hb:RE K E tb b):RE K E (zmb ta tb) (zge a b):=by
 intro F j σ H ρ S r Q En0 e k;rcases zv e with⟨x,S1,e1,e⟩|⟨c,S1,e1,rfl⟩
 .rcases zv e1 with⟨y,S2,e2,e1⟩|⟨c,S2,e2,z⟩
  .split at e1
   .cases e1;refine ha En0 e2 λj1 H1 X1 E1 u hu=>⟨_,hu.bl_inv,?_⟩;cases x with
    |true=>exact hb E1 e (k.step X1)
    |false=>cases e;exact k _ _ X1 E1 _ (.bl false)
   .cases e1
  .cases z
 .rcases zv e1 with⟨y,S2,e2,e1⟩|⟨c,S2,e2,z⟩
  .split at e1<;>cases e1
  .cases z;exact ha En0 e2 k
theorem zo3 {ta tb:TE} {a b:TwE} (ha:RE K E ta a) (hb:RE K E tb b):RE K E (zou ta tb) (eOr a b):=by
 intro F j σ H ρ S r Q En0 e k;rcases zv e with⟨x,S1,e1,e⟩|⟨c,S1,e1,rfl⟩
 .rcases zv e1 with⟨y,S2,e2,e1⟩|⟨c,S2,e2,z⟩
  .split at e1
   .cases e1;refine ha En0 e2 λj1 H1 X1 E1 u hu=>⟨_,hu.bl_inv,?_⟩;cases x with
    |true=>cases e;exact k _ _ X1 E1 _ (.bl true)
    |false=>exact hb E1 e (k.step X1)
   .cases e1
  .cases z
 .rcases zv e1 with⟨y,S2,e2,e1⟩|⟨c,S2,e2,z⟩
  .split at e1<;>cases e1
  .cases z;exact ha En0 e2 k
theorem znm {ta:TE} {a:TwE} (ha:RE K E ta a):RE K E (zmc ta) (eB (XQ (bE a))):=by
 intro F j σ H ρ S r Q En0 e k;rcases zv e with⟨x,S1,e1,e⟩|⟨c,S1,e1,rfl⟩
 .rcases zv e1 with⟨y,S2,e2,e1⟩|⟨c,S2,e2,z⟩
  .rcases zv e2 with⟨z,S3,e3,e2⟩|⟨c,S3,e3,z⟩
   .split at e2
    .cases e2;cases e1;cases e;exact ha En0 e3 λj1 H1 X1 E1 u hu=>⟨_,hu.bl_inv,k _ _ X1 E1 _ (.bl _)⟩
    .cases e2
   .cases z
  .cases z
 .rcases zv e1 with⟨y,S2,e2,e1⟩|⟨c,S2,e2,z⟩
  .cases e1
  .cases z;rcases zv e2 with⟨z,S3,e3,e2⟩|⟨c,S3,e3,z⟩
   .split at e2<;>cases e2
   .cases z;exact ha En0 e3 k
theorem zo4 {t:TT} {c:TwT} {ta tb:TE} {a b:TwE} (hc:RT K E t c) (ha:RE K E ta a) (hb:RE K E tb b):RE K E (tIf t ta tb) (eIf c a b):=by
 intro F j σ H ρ S r Q En0 e k;rcases zv e with⟨x,S1,e1,e⟩|⟨c,S1,e1,rfl⟩
 .refine hc En0 e1 λj1 H1 X1 E1=> ?_;cases x with
  |true=>exact ha E1 e (k.step X1)
  |false=>exact hb E1 e (k.step X1)
 .exact hc En0 e1 k
noncomputable def Xv.isNon:Xv->Bool
 | .non=>true
 |_=>false
noncomputable def znn:Xv->Sto->Option (Xv×Sto):=zo0 λx=>some (.bl x.isNon)
noncomputable def zjq:Xv->Sto->Option (Xv×Sto):=zo0 λx=>some (.bl (!x.isNon))
theorem zg7 {x:Xv} {v:V} (h:Xis K j H x v):decide (v= .non)=x.isNon:=by cases h<;>simp[Xv.isNon]
theorem zno {ta:TE} {a:TwE} (ha:RE K E ta a):RE K E (zor ta) (eUn znn a):=by
 intro F j σ H ρ S r Q En0 e k;rcases zv e with⟨x,S1,e1,e⟩|⟨c,S1,e1,rfl⟩
 .cases e;exact ha En0 e1 λj1 H1 X1 E1 u hu=>k _ _ X1 E1 _ (by rw[zg7 hu];exact .bl _)
 .exact ha En0 e1 k
theorem zli {ta:TE} {a:TwE} (ha:RE K E ta a):RE K E (zma ta) (eUn zjq a):=by
 intro F j σ H ρ S r Q En0 e k;rcases zv e with⟨x,S1,e1,e⟩|⟨c,S1,e1,rfl⟩
 .cases e;exact ha En0 e1 λj1 H1 X1 E1 u hu=>k _ _ X1 E1 _ (by rw[zg7 hu];exact .bl _)
 .exact ha En0 e1 k
theorem zy:RL K E zh2 (evL []):=λEn0 e k=>by
 cases e;exact k _ _ Ext.refl En0 [] .nil
theorem zi {ta:TE} {tr:TA} {m:TwE} {ms:List TwE} (ha:RE K E ta m) (hr:RL K E tr (evL ms)):RL K E (zc5 ta tr) (evL (m::ms)):=by
 intro F j σ H ρ S r Q En0 e k;rcases zv e with⟨x,S1,e1,e⟩|⟨c,S1,e1,rfl⟩
 .refine ha En0 e1 λj1 H1 X1 E1 u hu=> ?_;rcases zv e with⟨xs,S2,e2,e⟩|⟨c,S2,e2,rfl⟩
  .cases e;exact hr E1 e2 λj2 H2 X2 E2 vs hv=>k _ _ (X1.trans X2) E2 (u::vs) (.cons (hu.mono X2) hv)
  .exact hr E1 e2 (PX.mono k X1)
 .exact ha En0 e1 k
theorem Ui:∀{ms:List TwE} {ρ:Rho} {S S':Sto} {xs:List Xv},evL ms ρ S=some (.ok xs S')->xs.length=ms.length
 |[],_,_,_,_,h=>by cases h;rfl
 |m::ms,ρ,S,S',xs,h=>by
  rcases zv h with⟨x,S1,e1,h⟩|⟨c,S1,e1,z⟩
  .rcases zv h with⟨ys,S2,e2,h⟩|⟨c,S2,e2,z⟩
   .cases h;simp[Ui e2]
   .cases z
  .cases z
theorem WH {t:TA} {ms:List TwE} (h:RL K E t (evL ms)) (hl:ms.length<=1000:=by simp):RE K E (zoI t) (yn ms):=by
 intro F j σ H ρ S r Q En0 e k;rcases zv e with⟨xs,S1,e1,e⟩|⟨c,S1,e1,rfl⟩
 .cases e;refine h En0 e1 λj1 H1 X1 E1 vs hv=>⟨?_,λp hp=> ?_⟩
  .rw[hv.len,Ui e1];exact si hl ∅
  .obtain⟨E2,X2⟩:=E1.new (o:= .tup vs) hp;exact k _ _ (X1.trans X2) E2 _ (.tup yP (hv.mono X2))
 .exact h En0 e1 k
theorem En.lst {xs:List Xv} {vs:List V} {p:Addr} (En0:En K F j H σ ρ S) (hv:yo K j H xs vs) (hp:H p=none):En K F (j++[p]) (upd H p (.lst vs)) σ ρ (S++[.lst xs])/\Ext j H (j++[p]) (upd H p (.lst vs))/\Xis K (j++[p]) (upd H p (.lst vs)) (.ref S.length) (.ref p):=by
 have X:Ext j H (j++[p]) (upd H p (.lst vs)):=⟨λn a e=>by rw[rB (rg.1 e).1];exact e,Yx.same (vI hp)⟩;obtain⟨E1,_⟩:=En0.cell (o:= .lst vs) (c:= .lst xs) hp ⟨vs,yP,hv.mono X⟩;exact⟨E1,X,.ref (by rw[<-En0.jl];simp)⟩
theorem UL {t:TA} {ms:List TwE} (h:RL K E t (evL ms)) (hl:ms.length<=1000:=by simp):RE K E (zoJ t) (wv ms):=by
 intro F j σ H ρ S r Q En0 e k;rcases zv e with⟨xs,S1,e1,e⟩|⟨c,S1,e1,rfl⟩
 .cases e;refine h En0 e1 λj1 H1 X1 E1 vs hv=>⟨?_,λp hp=> ?_⟩
  .rw[hv.len,Ui e1];exact si hl ∅
  .obtain⟨E2,X2,h2⟩:=E1.lst hv hp;exact k _ _ (X1.trans X2) E2 _ h2
 .exact h En0 e1 k
theorem Tj {t:TA} {ms:List TwE} {r:List V->Hp->VK->Prop} {f:Opn} (hr:UK K r f) (h:RL K E t (evL ms)):RE K E (tCB r t) (eFn f ms):=by
 intro F j σ H ρ S r Q En0 e k;rcases zv e with⟨xs,S1,e1,e⟩|⟨c,S1,e1,rfl⟩
 .obtain⟨z,S3,e3,rfl⟩:=wu e;exact h En0 e1 λj1 H1 X1 E1 vs hv=>hr E1 hv e3 λw j3 H3 X3 E3 hw=>k _ _ (X1.trans X3) E3 _ hw
 .exact h En0 e1 k
end
noncomputable def zY (S:Sto):Xv->Option (List Xv)
 | .ref n=>match S[n]? with
  |some (.lst xs)=>some xs
  |some (.frz xs)=>some xs
  |_=>none
 |_=>none
noncomputable def Xu (S:Sto) (x:Xv):Option (List Xv):=match x.tupOf with
 |some xs=>some xs
 |none=>zY S x
noncomputable def UM (S:Sto):Xv->Option (Nat×List Xv)
 | .ref n=>match S[n]? with
  |some (.lst xs)=>some (n,xs)
  |_=>none
 |_=>none
section
variable {K:r6} {E:XK} {F:Fm} {j:List Addr} {H:Hp} {σ:St} {ρ:Rho} {S:Sto} {x:Xv} {v:V}
theorem En.lstAt {xs:List Xv} (E0:En K F j H σ ρ S) (hx:Xis K j H x v) (h:L2.zY S x=some xs):∃a vs,v= .ref a/\SqX K H a vs/\yo K j H xs vs:=by
 cases x<;>simp only[L2.zY,reduceCtorEq] at h
 obtain⟨a,rfl,hj⟩:=hx.ref_inv;split at h
 .cases h;obtain⟨vs,e1,e2⟩:=E0.cel _ _ _ (by assumption) hj;exact⟨a,vs,rfl,SqX.of e1,e2⟩
 .cases h;obtain⟨vs,e1,e2⟩:=E0.cel _ _ _ (by assumption) hj;refine⟨a,vs,rfl,?_,e2⟩;rcases e1 with⟨o,e1⟩|e1
  .exact .inl (.inr ⟨o,e1⟩)
  .exact e1 H
 .cases h
theorem En.seqAt {xs:List Xv} (E0:En K F j H σ ρ S) (hx:Xis K j H x v) (h:L2.Xu S x=some xs):∃a vs,v= .ref a/\(SqX K H a vs\/SqT K H a vs)/\yo K j H xs vs:=by
 unfold L2.Xu at h;split at h
 .cases h;obtain⟨a,vs,e1,e2,e3⟩:=hx.tupO (by assumption);exact⟨a,vs,e1,.inr e2,e3⟩
 .obtain⟨a,vs,e1,e2,e3⟩:=E0.lstAt hx h;exact⟨a,vs,e1,.inl e2,e3⟩
theorem zdg {n:Nat} {xs:List Xv} (h:UM S x=some (n,xs)):x= .ref n/\S[n]? =some (.lst xs):=by
 cases x<;>simp only[UM,reduceCtorEq] at h
 split at h
 .cases h;exact⟨rfl,by assumption⟩
 .cases h
theorem En.wl {n:Nat} {xs:List Xv} (E0:En K F j H σ ρ S) (hx:Xis K j H x v) (h:UM S x=some (n,xs)):∃a vs,v= .ref a/\j[n]? =some a/\H a=some (.lst vs)/\yo K j H xs vs:=by
 obtain⟨rfl,hs⟩:=zdg h;obtain⟨a,rfl,hj⟩:=hx.ref_inv;obtain⟨vs,e1,e2⟩:=E0.cel _ _ _ hs hj;exact⟨a,vs,rfl,hj,e1,e2⟩
theorem En.wr {n:Nat} {xs ys:List Xv} {ws:List V} {a:Addr} (E0:En K F j H σ ρ S) (h:UM S x=some (n,xs)) (hj:j[n]? =some a) (hw:yo K j H ys ws):En K F j (upd H a (.lst ws)) σ ρ (S.set n (.lst ys))/\Ext j H j (upd H a (.lst ws)):=
 E0.write (zdg h).2 rfl hj rfl λX=>⟨ws,yP,hw.mono X⟩
theorem tyL {a:Addr} {vs:List V} (h:SqL K H a vs):tyV K "list" (.ref a) H:= .inl ⟨rfl,vs,h⟩
noncomputable def zM:Op2:=λx y S=>match x.tupOf,y with
 |some xs,.int i=>(atI xs i).map λz=>(z,S)
 |_,_=>none
noncomputable def Ye:Op2:=λx y S=>match zY S x,y with
 |some xs,.int i=>(atI xs i).map λz=>(z,S)
 |_,_=>none
noncomputable def zbE:Op2:=znj λx y=>match x,y with
 | .str z,.int i=>if z.length<=sizeLine then (atI z.cps.toList i).map λc=> .str ⟨#[c]⟩ else none
 |_,_=>none
theorem zbF:XN K (zm8 K) zM:=by
 intro F j σ H ρ S S' x y z u v Q E0 hx hy h k;unfold zM at h;split at h
 .rename_i xs i ex;cases e:atI xs i with
  |none=>rw[e] at h;cases h
  |some z'=>
   rw[e] at h;cases h;obtain⟨a,vs,rfl,h1,h2⟩:=hx.tupO ex;obtain⟨w,e1,e2⟩:=h2.at_ e;exact⟨a,vs,_,w,rfl,hy.int_inv,h1,e1,k _ _ _ Ext.refl E0 e2⟩
 .cases h
theorem WI:XN K (zm7 K) Ye:=by
 intro F j σ H ρ S S' x y z u v Q E0 hx hy h k;unfold Ye at h;split at h
 .rename_i xs i ex;cases e:atI xs i with
  |none=>rw[e] at h;cases h
  |some z'=>
   rw[e] at h;cases h;obtain⟨a,vs,rfl,h1,h2⟩:=E0.lstAt hx ex;obtain⟨w,e1,e2⟩:=h2.at_ e;exact⟨a,vs,_,w,rfl,hy.int_inv,h1.sql,e1,k _ _ _ Ext.refl E0 e2⟩
 .cases h
theorem zjr:XN K zoN zbE:=by
 intro F j σ H ρ S S' x y z u v Q E0 hx hy h k;obtain⟨h',rfl⟩:=zjn h;dsimp only at h';split at h'
 .split at h'
  .rename_i zz i hz;cases e:atI zz.cps.toList i with
   |none=>rw[e] at h';cases h'
   |some c=>
    rw[e] at h';cases h';exact⟨zz,i,c,hx.str_inv,hy.int_inv,hz,e,k _ _ _ Ext.refl E0 (.str _)⟩
  .cases h'
 .cases h'
noncomputable def oNo:TwO:=λ_ S=>some (.ok none S)
noncomputable def Yf (m:TwE):TwO:=λρ S=>rb (m ρ S) λx S1=>match x with
 | .int i=>some (.ok (some i) S1)
 |_=>none
theorem zeT:RO K E zgY oNo:=λE0 e k=>by
 cases e;exact k _ _ Ext.refl E0
theorem Tk {t:TE} {m:TwE} (h:RE K E t m):RO K E (zmi t) (Yf m):=by
 intro F j σ H ρ S r Q En0 e k;rcases zv e with⟨x,S1,e1,e⟩|⟨c,S1,e1,rfl⟩
 .split at e
  .cases e;exact h En0 e1 λj1 H1 X1 E1 u hu=>⟨_,hu.int_inv,k _ _ X1 E1⟩
  .cases e
 .exact h En0 e1 k
noncomputable def WJ {α:Type} (xs:List α) (lo hi:Option Int):List α:=(xs.drop (HT.sIx xs.length 0 lo)).take (HT.sIx xs.length xs.length hi-HT.sIx xs.length 0 lo)
theorem yo.cut {xs:List Xv} {vs:List V} (h:yo K j H xs vs) (lo hi:Option Int):yo K j H (WJ xs lo hi) (zcp vs lo hi):=by
 unfold zcp WJ;rw[h.len];exact (h.drop _).take _
noncomputable def eSl (f:Xv->Option Int->Option Int->Sto->Option (Xv×Sto)) (m:TwE) (lo hi:TwO):TwE:=λρ S=>rb (m ρ S) λx S1=>rb (lo ρ S1) λy S2=>rb (hi ρ S2) λz S3=>okP (f x y z S3)
def zg8 (K:r6) (r:V->Option Int->Option Int->Hp->VK->Prop) (f:Xv->Option Int->Option Int->Sto->Option (Xv×Sto)):Prop:=∀{F:Fm} {j:List Addr} {σ:St} {H:Hp} {ρ:Rho} {S S':Sto} {x z:Xv} {lo hi:Option Int} {u:V} {Q:VK},En K F j H σ ρ S->Xis K j H x u->f x lo hi S=some (z,S')->(∀w j' H',Ext j H j' H'->En K F j' H' σ ρ S'->Xis K j' H' z w->Q w H')->r u lo hi H Q
theorem zjs {r:V->Option Int->Option Int->Hp->VK->Prop} {f:Xv->Option Int->Option Int->Sto->Option (Xv×Sto)} {te:TE} {tl th:TO} {m:TwE} {lo hi:TwO} (ho:zg8 K r f) (hm:RE K E te m) (hl:RO K E tl lo) (hh:RO K E th hi):RE K E (tSl r te tl th) (eSl f m lo hi):=by
 intro F j σ H ρ S r Q En0 e k;rcases zv e with⟨x,S1,e1,e⟩|⟨c,S1,e1,rfl⟩
 .refine hm En0 e1 λj1 H1 X1 E1 u hu=> ?_;rcases zv e with⟨y,S2,e2,e⟩|⟨c,S2,e2,rfl⟩
  .refine hl E1 e2 λj2 H2 X2 E2=> ?_;rcases zv e with⟨z,S3,e3,e⟩|⟨c,S3,e3,rfl⟩
   .obtain⟨w,S4,e4,rfl⟩:=wu e;exact hh E2 e3 λj3 H3 X3 E3=>ho E3 (hu.mono (X2.trans X3)) e4 λw j4 H4 X4 E4 hw=>k _ _ (X1.trans (X2.trans (X3.trans X4))) E4 _ hw
   .exact hh E2 e3 (PX.mono k (X1.trans X2))
  .exact hl E1 e2 (PX.mono k X1)
 .exact hm En0 e1 k
noncomputable def Wo:Xv->Option Int->Option Int->Sto->Option (Xv×Sto):=λx lo hi S=>(zY S x).map λxs=>(.ref S.length,S++[.lst (WJ xs lo hi)])
theorem zo5:zg8 K (zi4 K) Wo:=by
 intro F j σ H ρ S S' x z lo hi u Q E0 hx h k;unfold Wo at h;cases e:zY S x with
 |none=>rw[e] at h;cases h
 |some xs=>
  rw[e] at h;cases h;obtain⟨a,vs,rfl,h1,h2⟩:=E0.lstAt hx e;refine⟨a,vs,rfl,h1.sql,λp hp=> ?_⟩;obtain⟨E1,X1,h3⟩:=E0.lst (h2.cut lo hi) hp;exact k _ _ _ X1 E1 h3
noncomputable def zeU:Xv->Option Int->Option Int->Sto->Option (Xv×Sto):=λx lo hi S=>match x with
 | .str z=>if z.length<=sizeLine then some (.str (Txt.slice z lo hi),S) else none
 |_=>none
theorem zo6:zg8 K zlb zeU:=by
 intro F j σ H ρ S S' x z lo hi u Q E0 hx h k;unfold zeU at h;split at h
 .split at h
  .cases h;exact⟨_,hx.str_inv,by assumption,k _ _ _ Ext.refl E0 (.str _)⟩
  .cases h
 .cases h
noncomputable def zgf:Xv->Option Int->Option Int->Sto->Option (Xv×Sto):=λx lo hi S=>match x with
 | .tup xs=>some (.tup (WJ xs lo hi),S)
 |_=>none
theorem zig {α:Type} {xs:List α} {lo hi:Option Int} (h:HT.sIx xs.length 0 lo=0/\HT.sIx xs.length xs.length hi=xs.length):WJ xs lo hi=xs:=by
 unfold WJ;rw[h.1,h.2];simp
theorem zo7:zg8 K (zld K) zgf:=by
 intro F j σ H ρ S S' x z lo hi u Q E0 hx h k;unfold zgf at h;split at h
 .rename_i xs;cases h;obtain⟨a,vs,rfl,h1,h2⟩:=hx.tup_inv;refine⟨a,vs,rfl,SqT.of h1,λhw=>k _ _ _ Ext.refl E0 ?_,λ_ p hp=> ?_⟩
  .rw[h2.len] at hw;rw[zig hw];exact hx
  .obtain⟨E1,X1⟩:=E0.new (o:= .tup (zcp vs lo hi)) hp;exact k _ _ _ X1 E1 (.tup yP ((h2.cut lo hi).mono X1))
 .cases h
theorem zbG {te:TE} {tl th:TO} {m:TwE} {lo hi:TwO} (hm:RE K E te m) (hl:RO K E tl lo) (hh:RO K E th hi):RE K E (tSl (zi4 K) te tl th) (eSl Wo m lo hi):= @zjs K E (zi4 K) Wo te tl th m lo hi (@zo5 K) hm hl hh
theorem znp {te:TE} {tl th:TO} {m:TwE} {lo hi:TwO} (hm:RE K E te m) (hl:RO K E tl lo) (hh:RO K E th hi):RE K E (tSl zlb te tl th) (eSl zeU m lo hi):= @zjs K E zlb zeU te tl th m lo hi (@zo6 K) hm hl hh
theorem znq {te:TE} {tl th:TO} {m:TwE} {lo hi:TwO} (hm:RE K E te m) (hl:RO K E tl lo) (hh:RO K E th hi):RE K E (tSl (zld K) te tl th) (eSl zgf m lo hi):= @zjs K E (zld K) zgf te tl th m lo hi (@zo7 K) hm hl hh
abbrev OpM:=Xv->List Xv->Sto->Option (Xv×Sto)
def zeV (K:r6) (r:V->List V->Hp->VK->Prop) (f:OpM):Prop:=∀{F:Fm} {j:List Addr} {σ:St} {H:Hp} {ρ:Rho} {S S':Sto} {x z:Xv} {ys:List Xv} {u:V} {vs:List V} {Q:VK},En K F j H σ ρ S->Xis K j H x u->yo K j H ys vs->f x ys S=some (z,S')->(∀w j' H',Ext j H j' H'->En K F j' H' σ ρ S'->Xis K j' H' z w->Q w H')->r u vs H Q
noncomputable def eMt (f:OpM) (o:TwE) (ms:List TwE):TwE:=λρ S=>rb (o ρ S) λx S1=>(zY S1 x).bind λ_=>rb (evL ms ρ S1) λys S2=>okP (f x ys S2)
theorem Uz {r:V->List V->Hp->VK->Prop} {f:OpM} {to:TE} {t:TA} {o:TwE} {ms:List TwE} (hr:zeV K r f) (ho:RE K E to o) (ht:RL K E t (evL ms)):RE K E (tBM K "list" r to t) (eMt f o ms):=by
 intro F j σ H ρ S r Q En0 e k;rcases zv e with⟨x,S1,e1,e⟩|⟨c,S1,e1,rfl⟩
 .refine ho En0 e1 λj1 H1 X1 E1 u hu=> ?_;cases el:L2.zY S1 x with
  |none=>rw[el] at e;cases e
  |some l=>
   rw[el] at e;obtain⟨a,vs,rfl,h1,_⟩:=E1.lstAt hu el;refine⟨tyL h1.sql,?_⟩;rcases zv e with⟨ys,S2,e2,e⟩|⟨c,S2,e2,rfl⟩
   .obtain⟨z,S3,e3,rfl⟩:=wu e;exact ht E1 e2 λj2 H2 X2 E2 ws hw=>hr E2 (hu.mono X2) hw e3 λw j3 H3 X3 E3 hz=>k _ _ (X1.trans (X2.trans X3)) E3 _ hz
   .exact ht E1 e2 (PX.mono k X1)
 .exact ho En0 e1 k
theorem zjt {r:V->List V->Hp->VK->Prop} {f:OpM} {to:TE} {o:TwE} (hr:zeV K r f) (ho:RE K E to o):RE K E (zoO K "list" r to) (eMt f o []):=by
 intro F j σ H ρ S r Q En0 e k;exact Uz hr ho zy En0 e k
noncomputable def yg:OpM:=λx ys S=>match UM S x,ys with
 |some (n,xs),[y]=>if xs.length<sizeLine then some (.non,S.set n (.lst (xs++[y]))) else none
 |_,_=>none
theorem vD:zeV K zg0 yg:=by
 intro F j σ H ρ S S' x z ys u vs Q E0 hx hy h k;unfold yg at h;split at h
 .rename_i n xs y e;split at h
  .rename_i hl;cases h;obtain⟨a,ws,rfl,hj,h1,h2⟩:=E0.wl hx e;obtain⟨w,rfl,hw⟩:=hy.d1;obtain⟨E1,X1⟩:=E0.wr e hj (h2.append (.one hw));exact⟨a,ws,w,rfl,rfl,h1,by rw[h2.len];exact hl,k _ _ _ X1 E1 .non⟩
  .cases h
 .cases h
noncomputable def zih:OpM:=λx ys S=>match UM S x,ys with
 |some (n,xs),[]=>(xs[xs.length-1]?).map λy=>(y,S.set n (.lst xs.dropLast))
 |_,_=>none
theorem zju:zeV K zoP zih:=by
 intro F j σ H ρ S S' x z ys u vs Q E0 hx hy h k;unfold zih at h;split at h
 .rename_i n xs e;cases e1:xs[xs.length-1]? with
  |none=>rw[e1] at h;cases h
  |some y=>
   rw[e1] at h;cases h;obtain⟨a,ws,rfl,hj,h1,h2⟩:=E0.wl hx e;obtain rfl:=hy.nil_inv;obtain⟨w,f1,f2⟩:=h2.get e1;obtain⟨E1,X1⟩:=E0.wr e hj h2.dropLast;exact⟨a,ws,w,rfl,rfl,h1,by rw[h2.len];exact f1,k _ _ _ X1 E1 (f2.mono X1)⟩
 .cases h
noncomputable def Xw:OpM:=λx ys S=>match UM S x,ys with
 |some (n,xs),[y]=>(Xu S y).bind λzs=>if xs.length+zs.length<=sizeLine then some (.non,S.set n (.lst (xs++zs))) else none
 |_,_=>none
theorem zau:zeV K (zeR K) Xw:=by
 intro F j σ H ρ S S' x z ys u vs Q E0 hx hy h k;unfold Xw at h;split at h
 .rename_i n xs y e;cases e1:Xu S y with
  |none=>rw[e1] at h;cases h
  |some zs=>
   rw[e1] at h;dsimp only[v7] at h;split at h
   .rename_i hl;cases h;obtain⟨a,ws,rfl,hj,h1,h2⟩:=E0.wl hx e;obtain⟨w,rfl,hw⟩:=hy.d1;obtain⟨b,ts,rfl,g1,g2⟩:=E0.seqAt hw e1;obtain⟨E1,X1⟩:=E0.wr e hj (h2.append g2);exact⟨a,b,ws,ts,rfl,rfl,h1,g1,by rw[h2.len,g2.len];exact hl,k _ _ _ X1 E1 .non⟩
   .cases h
 .cases h
noncomputable def zk (a b:TwS):TwS:=λρ S=>match a ρ S with
 |some (.nx ρ1 S1)=>b ρ1 S1
 |r=>r
noncomputable def zx:TwS:=λρ S=>some (.nx ρ S)
noncomputable def Zu:TwS:=λ_ _=>none
noncomputable def zF (m:TwE) (g:TwG):TwS:=λρ S=>sb (m ρ S) λx S1=>sb (g x ρ S1) λρ1 S2=>some (.nx ρ1 S2)
noncomputable def yJ (m:TwE):TwS:=λρ S=>sb (m ρ S) λ_ S1=>some (.nx ρ S1)
noncomputable def zG (m:TwE):TwS:=λρ S=>sb (m ρ S) λx S1=>some (.rt x S1)
noncomputable def sIf (c:TwT) (a b:TwS):TwS:=λρ S=>sb (c ρ S) λx S1=>if x then a ρ S1 else b ρ S1
noncomputable def za2 (r:Option Fl) (go:Rho->Sto->Option Fl):Option Fl:=match r with
 |some (.nx ρ S)=>go ρ S
 |some (.ct ρ S)=>go ρ S
 |some (.bk ρ S)=>some (.nx ρ S)
 |r=>r
noncomputable def Vo (get:Sto->Option (List Xv)) (g:TwG) (b:TwS):Nat->Nat->Rho->Sto->Option Fl
 |0,_,_,_=>none
 |f+1,i,ρ,S=>(get S).bind λxs=>match xs[i]? with
  |none=>if i=xs.length then some (.nx ρ S) else none
  |some x=>sb (g x ρ S) λρ1 S1=>za2 (b ρ1 S1) λρ2 S2=>Vo get g b f (i+1) ρ2 S2
noncomputable def Wp (m:TwI) (g:TwG) (b:TwS):TwS:=λρ S=>sb (m ρ S) λget S1=>(get S1).bind λxs=>Vo get g b (xs.length+1) 0 ρ S1
noncomputable def Vr (c:TwT) (b:TwS):Nat->Rho->Sto->Option Fl
 |0,_,_=>none
 |n+1,ρ,S=>sb (c ρ S) λx S1=>if x then za2 (b ρ S1) λρ2 S2=>Vr c b n ρ2 S2 else some (.nx ρ S1)
noncomputable def sWh (n:Nat) (c:TwT) (b:TwS):TwS:=λρ S=>Vr c b n ρ S
noncomputable def gN (i:Nat):TwG:=λx ρ S=>some (.ok (ρ.set i (some x)) S)
noncomputable def Yg:zgd:=λxs ρ S=>match xs with
 |[]=>some (.ok ρ S)
 |_=>none
noncomputable def yA (g:TwG) (gs:zgd):zgd:=λxs ρ S=>match xs with
 |x::r=>rb (g x ρ S) λρ1 S1=>gs r ρ1 S1
 |_=>none
noncomputable def gT (n:Nat) (gs:zgd):TwG:=λx ρ S=>x.tupOf.bind λl=>if l.length=n then gs l ρ S else none
noncomputable def zbH (o mi:TwE):TwG:=λd ρ S=>rb (o ρ S) λx S1=>rb (mi ρ S1) λy S2=>match UM S2 x,y with
 |some (n,xs),.int i=>(ixN xs.length i).map λk=> .ok ρ (S2.set n (.lst (xs.set k d)))
 |_,_=>none
theorem yX {i:Nat}:RG K E (zc2 i) (gN i):=λE0 hx e k=>by
 cases e;exact k _ _ _ Ext.refl (E0.set hx)
theorem zg9:RGs K E zmU Yg:=by
 intro F j σ H ρ S r xs vs R E0 hv e k;unfold Yg at e;split at e
 .cases e;obtain rfl:=hv.nil_inv;exact⟨rfl,k _ _ _ Ext.refl E0⟩
 .cases e
theorem zbI {t:TG} {u:TGs} {g:TwG} {gs:zgd} (h1:RG K E t g) (h2:RGs K E u gs):RGs K E (ziQ t u) (yA g gs):=by
 intro F j σ H ρ S r xs vs R E0 hv e k;unfold yA at e;split at e
 .obtain⟨w,ws,rfl,hw,jh⟩:=hv.cons_inv;rcases zv e with⟨ρ1,S1,e1,e⟩|⟨c,S1,e1,rfl⟩
  .exact⟨w,ws,rfl,h1 E0 hw e1 λσ1 j1 H1 X1 E1=>h2 E1 (jh.mono X1) e (k.step X1)⟩
  .exact⟨w,ws,rfl,h1 E0 hw e1 k⟩
 .cases e
theorem zjv {n:Nat} {t:TGs} {gs:zgd} (h:RGs K E t gs):RG K E (zkQ K n t) (gT n gs):=by
 intro F j σ H ρ S r x v R E0 hx e k;unfold gT at e;cases ex:x.tupOf with
 |none=>rw[ex] at e;cases e
 |some l=>
  rw[ex] at e;dsimp only[v7] at e;split at e
  .rename_i hn;obtain⟨a,vs,rfl,h1,h2⟩:=hx.tupO ex;exact⟨a,vs,rfl,h1,by rw[h2.len];exact hn,h E0 h2 e k⟩
  .cases e
theorem zjw {to ti:TE} {o mi:TwE} (ho:RE K E to o) (hi:RE K E ti mi):RG K E (zoA to ti zmj) (zbH o mi):=by
 intro F j σ H ρ S r d vd R E0 hd e k;rcases zv e with⟨x,S1,e1,e⟩|⟨c,S1,e1,rfl⟩
 .refine ho E0 e1 λj1 H1 X1 E1 u hu=> ?_;rcases zv e with⟨y,S2,e2,e⟩|⟨c,S2,e2,rfl⟩
  .refine hi E1 e2 λj2 H2 X2 E2 w hw=> ?_;split at e
   .rename_i n xs i ex;cases e3:ixN xs.length i with
    |none=>rw[e3] at e;cases e
    |some m=>
     rw[e3] at e;cases e;obtain⟨a,vs,rfl,hj,h1,h2⟩:=E2.wl (hu.mono X2) ex;obtain⟨E3,X3⟩:=E2.wr ex hj (h2.set (hd.mono (X1.trans X2)) m);exact⟨a,vs,i,m,rfl,hw.int_inv,h1,by rw[h2.len];exact e3,k _ _ _ (X1.trans (X2.trans X3)) E3⟩
   .cases e
  .exact hi E1 e2 (PX.mono k X1)
 .exact ho E0 e1 k
theorem xF:RS K E zmd zx:=λE0 e k=>by
 cases e;exact k _ _ _ Ext.refl E0
theorem YX {t:TS}:RS K E t Zu:=λ_ e _=>by cases e
theorem zW {t u:TS} {a b:TwS} (ha:RS K E t a) (hb:RS K E u b):RS K E (zow t u) (zk a b):=by
 intro F j D' σ H ρ S fl E0 e k;unfold zk at e;split at e
 .rename_i ρ1 S1 e1;exact ha (D':={D' with nx:=u D'}) E0 e1 λσ1 j1 H1 X1 E1=>hb E1 e (k.step X1)
 .rename_i hn;refine ha (D':={D' with nx:=u D'}) E0 e ?_;cases fl with
  |nx ρ1 S1=>exact absurd e (hn ρ1 S1)
  |bk ρ1 S1=>exact k
  |ct ρ1 S1=>exact k
  |rt x S1=>exact k
  |ex c S1=>exact k
theorem wP {te:TE} {g:TG} {m:TwE} {g':TwG} (h:RE K E te m) (hg:RG K E g g'):RS K E (zmW te g) (zF m g'):=by
 intro F j D' σ H ρ S fl E0 e k;rcases wD e with⟨x,S1,e1,e⟩|⟨c,S1,e1,rfl⟩
 .refine h E0 e1 λj1 H1 X1 E1 u hu=> ?_;rcases wD e with⟨ρ1,S2,e2,e⟩|⟨c,S2,e2,rfl⟩
  .cases e;exact hg E1 hu e2 λσ2 j2 H2 X2 E2=>k _ _ _ (X1.trans X2) E2
  .exact hg E1 hu e2 (PX.mono k X1)
 .exact h E0 e1 k
theorem wF {te:TE} {m:TwE} (h:RE K E te m):RS K E (zme te) (yJ m):=by
 intro F j D' σ H ρ S fl E0 e k;rcases wD e with⟨x,S1,e1,e⟩|⟨c,S1,e1,rfl⟩
 .cases e;exact h E0 e1 λj1 H1 X1 E1 u hu=>k _ _ _ X1 E1
 .exact h E0 e1 k
theorem xu {te:TE} {m:TwE} (h:RE K E te m):RS K E (zox te) (zG m):=by
 intro F j D' σ H ρ S fl E0 e k;rcases wD e with⟨x,S1,e1,e⟩|⟨c,S1,e1,rfl⟩
 .cases e;exact h E0 e1 λj1 H1 X1 E1 u hu=>k _ _ _ _ _ X1 E1 hu
 .exact h E0 e1 k
theorem Yh {c:TT} {t u:TS} {m:TwT} {a b:TwS} (hc:RT K E c m) (ha:RS K E t a) (hb:RS K E u b):RS K E (zoy c t u) (sIf m a b):=by
 intro F j D' σ H ρ S fl E0 e k;rcases wD e with⟨x,S1,e1,e⟩|⟨c,S1,e1,rfl⟩
 .refine hc E0 e1 λj1 H1 X1 E1=> ?_;cases x with
  |true=>exact ha E1 e (k.step X1)
  |false=>exact hb E1 e (k.step X1)
 .exact hc E0 e1 k
theorem zdh {r:Option Fl} {go:Rho->Sto->Option Fl} {fl:Fl} (h:za2 r go=some fl):∃f,r=some f/\((∃ρ S,(f= .nx ρ S\/f= .ct ρ S)/\go ρ S=some fl)\/(∃ρ S,f= .bk ρ S/\fl= .nx ρ S)\/(f=fl/\((∃x S,fl= .rt x S)\/∃c S,fl= .ex c S))):=by
 unfold za2 at h;split at h
 .exact⟨_,rfl,.inl ⟨_,_,.inl rfl,h⟩⟩
 .exact⟨_,rfl,.inl ⟨_,_,.inr rfl,h⟩⟩
 .cases h;exact⟨_,rfl,.inr (.inl ⟨_,_,rfl,rfl⟩)⟩
 .rename_i n1 n2 n3;refine⟨fl,h,.inr (.inr ⟨rfl,?_⟩)⟩;cases fl with
  |nx ρ S=>exact absurd h (n1 ρ S)
  |ct ρ S=>exact absurd h (n2 ρ S)
  |bk ρ S=>exact absurd h (n3 ρ S)
  |rt x S=>exact .inl ⟨x,S,rfl⟩
  |ex c S=>exact .inr ⟨c,S,rfl⟩
theorem zjx {wi:TI} {g:TG} {tb:TS} {m:TwI} {g':TwG} {b:TwS} (hi:RI K E wi m) (hg:RG K E g g') (hb:RS K E tb b):RS K E (zoB wi g tb) (Wp m g' b):=by
 intro F j D' σ H ρ S fl E0 e k;rcases wD e with⟨get,S1,e1,e⟩|⟨c,S1,e1,rfl⟩
 .refine hi E0 e1 λj1 H1 X1 E1 J ok=> ?_;cases eg:get S1 with
  |none=>rw[eg] at e;cases e
  |some xs=>
   rw[eg] at e;refine⟨λi n σ H=>∃j2 ρ2 S2,Ext j1 H1 j2 H/\En K F j2 H σ ρ2 S2/\Vo get g' b n i ρ2 S2=some fl,⟨xs.length+1,j1,ρ,S1,Ext.refl,E1,e⟩,?_⟩;rintro i n σ2 H2 ⟨j2,ρ2,S2,X2,E2,e2⟩;cases n with
   |zero=>cases e2
   |succ n=>
    unfold Vo at e2;cases jG:get S2 with
    |none=>rw[jG] at e2;cases e2
    |some ys=>
     rw[jG] at e2;dsimp only[v7] at e2;obtain⟨go,stop⟩:=ok i X2 E2 jG;split at e2
     .split at e2
      .rename_i hl;cases e2;exact .inl ⟨stop hl,k _ _ _ (X1.trans X2) E2⟩
      .cases e2
     .rename_i x ex;obtain⟨g1,g2⟩:=go x ex;refine .inr ⟨g1,λσ' H'=>∃j3 ρ3 S3,Ext j1 H1 j3 H'/\En K F j3 H' σ' ρ3 S3/\Vo get g' b n (i+1) ρ3 S3=some fl,λ_ _ z=>⟨n,sP _,z⟩,λv H3 hy=> ?_⟩;obtain⟨Sm,hv⟩:=g2 v H3 hy;have E3:=E2.heap Sm;have X3:Ext j2 H2 j2 H3:=Ext.same Sm;rcases wD e2 with⟨ρ4,S4,e4,e2⟩|⟨c,S4,e4,rfl⟩
      .refine hg E3 hv e4 λσ4 j4 H4 X4 E4=> ?_;obtain⟨f5,e5,h5⟩:=zdh e2;refine hb E4 e5 ?_;have X14:=X2.trans (X3.trans X4);rcases h5 with⟨ρ6,S6,h6,e6⟩|⟨ρ6,S6,rfl,rfl⟩|⟨rfl,h6⟩
       .rcases h6 with rfl|rfl
        .exact λσ5 j5 H5 X5 E5=>⟨j5,ρ6,S6,X14.trans X5,E5,e6⟩
        .exact λσ5 j5 H5 X5 E5=>⟨j5,ρ6,S6,X14.trans X5,E5,e6⟩
       .exact λσ5 j5 H5 X5 E5=>k _ _ _ (X1.trans (X14.trans X5)) E5
       .rcases h6 with⟨x6,S6,rfl⟩|⟨c6,S6,rfl⟩
        .exact λv σ5 ρ5 j5 H5 X5 E5 hv=>k v σ5 ρ5 _ _ (X1.trans (X14.trans X5)) E5 hv
        .exact PX.mono k (X1.trans X14)
      .exact hg E3 hv e4 (PX.mono k (X1.trans (X2.trans X3)))
 .exact hi E0 e1 k
theorem Tl {c:TT} {tb:TS} {m:TwT} {b:TwS} {n:Nat} (hc:RT K E c m) (hb:RS K E tb b):RS K E (ziR c tb) (sWh n m b):=by
 intro F j D' σ H ρ S fl E0 e k;refine⟨λn σ2 H2=>∃j2 ρ2 S2,Ext j H j2 H2/\En K F j2 H2 σ2 ρ2 S2/\Vr m b n ρ2 S2=some fl,⟨n,j,ρ,S,Ext.refl,E0,e⟩,?_⟩;rintro n σ2 H2 ⟨j2,ρ2,S2,X2,E2,e2⟩;cases n with
 |zero=>cases e2
 |succ n=>
  unfold Vr at e2;rcases wD e2 with⟨x,S3,e3,e2⟩|⟨c,S3,e3,rfl⟩
  .refine hc E2 e3 λj3 H3 X3 E3=> ?_;have X13:=X2.trans X3;cases x with
   |false=>cases e2;exact k _ _ _ X13 E3
   |true=>
    obtain⟨f5,e5,h5⟩:=zdh e2;refine⟨λσ' H'=>∃j3 ρ3 S3,Ext j H j3 H'/\En K F j3 H' σ' ρ3 S3/\Vr m b n ρ3 S3=some fl,λσ' H' z=>⟨n,sP _,z⟩,hb E3 e5 ?_⟩;rcases h5 with⟨ρ6,S6,h6,e6⟩|⟨ρ6,S6,rfl,rfl⟩|⟨rfl,h6⟩
    .rcases h6 with rfl|rfl
     .exact λσ5 j5 H5 X5 E5=>⟨j5,ρ6,S6,X13.trans X5,E5,e6⟩
     .exact λσ5 j5 H5 X5 E5=>⟨j5,ρ6,S6,X13.trans X5,E5,e6⟩
    .exact λσ5 j5 H5 X5 E5=>k _ _ _ (X13.trans X5) E5
    .rcases h6 with⟨x6,S6,rfl⟩|⟨c6,S6,rfl⟩
     .exact λv σ5 ρ5 j5 H5 X5 E5 hv=>k v σ5 ρ5 _ _ (X13.trans X5) E5 hv
     .exact PX.mono k X13
  .exact hc E2 e3 (PX.mono k X2)
noncomputable def iL (m:TwE):TwI:=λρ S=>rb (m ρ S) λx S1=>(zY S1 x).map λ_=> .ok (λS=>zY S x) S1
noncomputable def iT (m:TwE):TwI:=λρ S=>rb (m ρ S) λx S1=>x.tupOf.map λl=> .ok (λ_=>some l) S1
theorem zha {t:TE} {m:TwE} (h:RE K E t m):RI K E (ziS K t) (iL m):=by
 intro F j σ H ρ S r R En0 e k;rcases zv e with⟨x,S1,e1,e⟩|⟨c,S1,e1,rfl⟩
 .cases el:zY S1 x with
  |none=>rw[el] at e;cases e
  |some l=>
   rw[el] at e;cases e;refine h En0 e1 λj1 H1 X1 E1 u hu=> ?_;obtain⟨a,vs,rfl,h1,_⟩:=E1.lstAt hu el;refine⟨a,rfl,⟨vs,h1.sql⟩,k _ _ X1 E1 _ ?_⟩;intro F2 j2 H2 σ2 ρ2 S2 xs i X2 E2 e2;obtain⟨a',ws,ea,g1,g2⟩:=E2.lstAt (hu.mono X2) e2;cases ea;refine⟨λy ey=> ?_,λhle=>⟨ws,g1.sql,by rw[g2.len];omega⟩⟩;obtain⟨w,f1,f2⟩:=g2.get ey;refine⟨⟨ws,w,g1.sql,f1⟩,?_⟩;rintro v' H' ⟨rfl,hx⟩;have:=hx ws g1.sql;rw[f1] at this;cases this;exact⟨UI.refl _,f2⟩
 .exact h En0 e1 k
theorem zgg {t:TE} {m:TwE} (h:RE K E t m):RI K E (zmY K t) (iT m):=by
 intro F j σ H ρ S r R En0 e k;rcases zv e with⟨x,S1,e1,e⟩|⟨c,S1,e1,rfl⟩
 .cases el:x.tupOf with
  |none=>rw[el] at e;cases e
  |some l=>
   rw[el] at e;cases e;refine h En0 e1 λj1 H1 X1 E1 u hu=> ?_;obtain⟨a,vs,rfl,h1,_⟩:=hu.tupO el;refine⟨a,rfl,⟨vs,h1⟩,k _ _ X1 E1 _ ?_⟩;intro F2 j2 H2 σ2 ρ2 S2 xs i X2 E2 e2;cases e2;obtain⟨a',ws,ea,g1,g2⟩:=(hu.mono X2).tupO el;cases ea;refine⟨λy ey=> ?_,λhle=>⟨ws,g1,by rw[g2.len];omega⟩⟩;obtain⟨w,f1,f2⟩:=g2.get ey;refine⟨⟨ws,w,g1,f1⟩,?_⟩;rintro v' H' ⟨rfl,hx⟩;have:=hx ws g1;rw[f1] at this;cases this;exact⟨UI.refl _,f2⟩
 .exact h En0 e1 k
noncomputable def YY (lo:Int) (n:Nat):List Xv:=(rY n).map λ(k:Nat)=>Xv.int (lo+(k:Int))
noncomputable def iR1 (m:TwE):TwI:=λρ S=>rb (m ρ S) λx S1=>match x with
 | .int j=>if -(2^62)<=j/\j<2^62 then some (.ok (λ_=>some (YY 0 j.toNat)) S1) else none
 |_=>none
theorem zjy {lo:Int} {n:Nat}:zni K j H (Itr lo n) (λ_=>some (YY lo n)):=by
 intro F2 j2 H2 σ2 ρ2 S2 xs i X2 E2 e2;cases e2;refine⟨λd hd=> ?_,λhle=> ?_⟩
 .unfold YY at hd;rw[rq] at hd;have hi:i<n:=by
   apply y4;intro hn;rw[sy (by simp;omega)] at hd;cases hd
  rw[tZ hi] at hd;cases hd;refine⟨hi,?_⟩;rintro x H' ⟨rfl,rfl⟩;exact⟨UI.refl _,.int _⟩
 .unfold YY at hle;simp at hle;show n<=i;omega
theorem zii {t:TE} {m:TwE} (h:RE K E t m):RI K E (zmf (zc5 t zh2)) (iR1 m):=by
 intro F j σ H ρ S r R En0 e k;rcases zv e with⟨x,S1,e1,e⟩|⟨c,S1,e1,rfl⟩
 .split at e
  .split at e
   .rename_i hb;cases e;exact h En0 e1 λj1 H1 X1 E1 u hu=>⟨_,by rw[hu.int_inv],hb.1,hb.2,k _ _ X1 E1 _ zjy⟩
   .cases e
  .cases e
 .exact h En0 e1 k
end
noncomputable def rn {α β:Type} (m:Option (Rs α)) (f:α->Sto->Option β):Option β:=match m with
 |some (.ok a S)=>f a S
 |_=>none
theorem zdQ {α β:Type} {m:Option (Rs α)} {f:α->Sto->Option β} {r:β} (h:rn m f=some r):∃a S,m=some (.ok a S)/\f a S=some r:=by
 unfold rn at h;split at h
 .exact⟨_,_,rfl,h⟩
 .cases h
noncomputable def zdR (cap:List (Option Nat)) (ρ:Rho):Rho:=cap.map λo=>o.bind λi=>(ρ[i]?).join
noncomputable def XR (get:Sto->Option (List Xv)) (g:TwG) (c:TwT) (e:TwE) (ρc:Rho):Nat->Nat->List Xv->Sto->Option (Rs Xv)
 |0,_,_,_=>none
 |f+1,i,es,S=>(get S).bind λxs=>match xs[i]? with
  |none=>if i=xs.length then some (.ok (.ref S.length) (S++[.lst es])) else none
  |some x=>rn (g x ρc S) λρ1 S1=>rn (c ρ1 S1) λb S2=>if b then rn (e ρ1 S2) λy S3=>if es.length<sizeLine then XR get g c e ρc f (i+1) (es++[y]) S3 else none
    else XR get g c e ρc f (i+1) es S2
noncomputable def xQ (cap:List (Option Nat)) (m:TwI) (g:TwG) (c:TwT) (e:TwE):TwE:=λρ S=>rb (m ρ S) λget S1=>(get S1).bind λxs=>XR get g c e (zdR cap ρ) (xs.length+1) 0 [] S1
noncomputable def xR:TwT:=λ_ S=>some (.ok true S)
section
variable {K:r6} {E:XK} {F:Fm} {j j':List Addr} {H H':Hp} {σ σ':St} {ρ ρ':Rho} {S S':Sto} {x:Xv} {v:V} {a:Addr} {o:HO}
theorem zbd:RT K E (λ_ H Q=>Q true H) xR:=λE1 e k=>by
 cases e;exact k _ _ Ext.refl E1
def UA (j:List Addr) (S:Sto) (a:Addr):Prop:=∀(n:Nat) c,j[n]? =some a->S[n]? =some c->c.fz=true
theorem En.notIn (E1:En K F j H σ ρ S) (h:H a=none):UA j S a:=λn c e1 e2=>by
 cases z:c.fz with
 |true=>rfl
 |false=>
  obtain⟨o,e,_⟩:=(E1.cel n c a e2 e1).mu z;rw[h] at e;cases e
theorem En.outside (E1:En K F j H σ ρ S) (h:UA j S a) {o0:HO} (h0:H a=some o0) (m0:o0.mu=true) (hf:F.H0 a=none):En K F j (upd H a o) σ ρ S/\Ext j H j (upd H a o):=by
 have X:Ext j H j (upd H a o):=⟨λ_ _ e=>e,λb u e m=>by
  have:b≠a:=λq=>by subst q;rw[h0] at e;cases e;rw[m] at m0;cases m0
  rw[yz this];exact e⟩
 refine⟨⟨E1.len,λi x e=> ?_,E1.jl,E1.inj,λn c b e1 e2=> ?_,E1.ext.trans X,E1.old,E1.l0,λb u e=> ?_,E1.fresh,λb e=> ?_⟩,X⟩
 .obtain⟨v,e1,e2⟩:=E1.slot i x e;exact⟨v,e1,e2.mono X⟩
 .refine (E1.cel n c b e1 e2).mono X λz=>yz λq=> ?_;subst q;rw[h n c e2 e1] at z;cases z
 .have hb:b≠a:=λq=>by subst q;rw[hf] at e;cases e
  rcases E1.keep b u e with h|h
  .exact .inl (by rw[yz hb];exact h)
  .exact .inr h
 .have hb:b≠a:=λq=>by subst q;rw[yP] at e;cases e
  rw[yz hb] at e;exact E1.dom b e
theorem En.adopt {c:Ce} (E1:En K F j H σ ρ S) (h:UA j S a) (hf:F.H0 a=none) (hc:zcw K (j++[a]) H a c):En K F (j++[a]) H σ ρ (S++[c])/\Ext j H (j++[a]) H:=by
 have X:Ext j H (j++[a]) H:=⟨λn b e=>by rw[rB (rg.1 e).1];exact e,Yx.refl _⟩;have lt:∀{n:Nat} {d:Ce},S[n]? =some d->n<S.length:=λe=>(rg.1 e).1;have at_:∀{n:Nat} {b:Addr} {d:Ce},(j++[a])[n]? =some b->(S++[c])[n]? =some d->(j[n]? =some b/\S[n]? =some d)\/(n=S.length/\b=a/\d=c):=λ{n b d} e1 e2=>by
  by_cases hn:n<S.length
  .rw[rB hn] at e2;rw[rB (by rw[E1.jl];exact hn)] at e1;exact .inl ⟨e1,e2⟩
  .rw[rL ⋯] at e2;rw[rL (by rw[E1.jl];omega),E1.jl] at e1;cases hm:n-S.length with
   |zero=>rw[hm] at e1 e2;simp at e1 e2;exact .inr ⟨⋯,e1.symm,e2.symm⟩
   |succ m=>rw[hm] at e1;simp at e1
 refine⟨⟨E1.len,λi x e=> ?_,by simp[E1.jl],λn m b c1 c2 e1 e2 e3 e4 z1 z2=> ?_,λn d b e1 e2=> ?_,E1.ext.trans X,λn d e=> ?_,E1.l0,E1.keep,λn b hn e=> ?_,E1.dom⟩,X⟩
 .obtain⟨v,e1,e2⟩:=E1.slot i x e;exact⟨v,e1,e2.mono X⟩
 .rcases at_ e1 e3 with⟨f1,f2⟩|⟨f1,f2,f3⟩
  .rcases at_ e2 e4 with⟨g1,g2⟩|⟨g1,g2,g3⟩
   .exact E1.inj n m b c1 c2 f1 g1 f2 g2 z1 z2
   .subst g2;rw[h n c1 f1 f2] at z1;cases z1
  .rcases at_ e2 e4 with⟨g1,g2⟩|⟨g1,g2,g3⟩
   .subst f2;rw[h m c2 g1 g2] at z2;cases z2
   .rw[f1,g1]
 .rcases at_ e2 e1 with⟨f1,f2⟩|⟨f1,rfl,rfl⟩
  .exact (E1.cel n d b f2 f1).mono X λ_=>rfl
  .exact hc
 .obtain⟨d',e1,e2⟩:=E1.old n d e;exact⟨d',by rw[rB (lt e1)];exact e1,e2⟩
 .by_cases hm:n<j.length
  .rw[rB hm] at e;exact E1.fresh n b hn e
  .rw[rL ⋯] at e;cases hk:n-j.length with
   |zero=>rw[hk] at e;simp at e;subst e;exact hf
   |succ m=>rw[hk] at e;simp at e
theorem zij {cap:List (Option Nat)} (E1:En K F j H σ ρ S):(Yc cap σ).length=(zdR cap ρ).length/\∀(i:Nat) x,(zdR cap ρ)[i]? =some (some x)->∃v,(Yc cap σ)[i]? =some (some v)/\Xis K j H x v:=by
 refine⟨by simp[Yc,zdR],λi x h=> ?_⟩;unfold zdR at h;unfold Yc;rw[rq] at h ⊢;cases e:cap[i]? with
 |none=>rw[e] at h;cases h
 |some o=>
  rw[e] at h;cases o with
  |none=>simp at h
  |some k=>
   simp only[A1,rE,sI] at h ⊢;cases q:ρ[k]? with
   |none=>rw[q] at h;simp at h
   |some z=>
    rw[q] at h;simp at h;subst h;obtain⟨v,e1,e2⟩:=E1.slot k x q;exact⟨v,by rw[e1];rfl,e2⟩
theorem zbe {cap:List (Option Nat)} {wi:TI} {g:TG} {tt:TT} {te:TE} {m:TwI} {g':TwG} {c:TwT} {e:TwE} (hi:RI K E wi m) (hg:RG K E0 g g') (hc:RT K E0 tt c) (he:RE K E0 te e):RE K E (zjc cap wi g tt te) (xQ cap m g' c e):=by
 intro F j σ H ρ S r Q En0 h k;rcases zv h with⟨get,S1,e1,h⟩|⟨c1,S1,e1,rfl⟩
 .refine hi En0 e1 λj1 H1 X1 E1 J ok acc fP=> ?_;cases eg:get S1 with
  |none=>rw[eg] at h;cases h
  |some xs=>
   rw[eg] at h;have hf:F.H0 acc=none:=E1.dom acc fP;obtain⟨Ea,Xa⟩:=E1.new (o:= .lst []) fP
   refine⟨λi n ys H2=>∃j2 S2 es,Ext j1 H1 j2 H2/\En K F j2 H2 σ ρ S2/\H2 acc=some (.lst ys)/\yo K j2 H2 es ys/\UA j2 S2 acc/\XR get g' c e (zdR cap ρ) n i es S2=some r,
    ⟨xs.length+1,j1,S1,[],Xa,Ea,yP,.nil,E1.notIn fP,h⟩,?_⟩
   rintro i n ys H2 ⟨j2,S2,es,X2,E2,h2,ly,nin,e2⟩;cases n with
   |zero=>cases e2
   |succ n=>
    unfold XR at e2;cases jG:get S2 with
    |none=>rw[jG] at e2;cases e2
    |some zs=>
     rw[jG] at e2;dsimp only[v7] at e2;obtain⟨go,stop⟩:=ok i X2 E2 jG;split at e2
     .split at e2
      .rename_i hl;cases e2;obtain⟨E3,X3⟩:=E2.adopt (c:= .lst es) nin hf ⟨ys,h2,ly.mono ⟨λn b e=>by rw[rB (rg.1 e).1];exact e,Yx.refl _⟩⟩;exact .inl ⟨stop hl,k _ _ (X1.trans (X2.trans X3)) E3 _ (.ref (by rw[<-E2.jl];simp))⟩
      .cases e2
     .rename_i x ex;obtain⟨g1,g2⟩:=go x ex;refine .inr ⟨g1,λv H3 hy=> ?_⟩;obtain⟨Sm,hv⟩:=g2 v H3 hy;have E3:=E2.heap Sm;have X3:Ext j2 H2 j2 H3:=Ext.same Sm;have h3:H3 acc=some (.lst ys):=Sm _ _ h2;obtain⟨cl,cs⟩:=zij (cap:=cap) E3;have I0:=E3.enter cl cs;obtain⟨ρ4,S4,e4,e2⟩:=zdQ e2;obtain⟨b,S5,e5,e2⟩:=zdQ e2;have behind:∀{j6:List Addr} {H6:Hp} {σ6:St} {ρ6:Rho} {S6:Sto},En K ⟨H3,j2,S2⟩ j6 H6 σ6 ρ6 S6->En K F j6 H6 σ ρ S6/\Ext j2 H2 j6 H6/\H6 acc=some (.lst ys)/\UA j6 S6 acc:=λ{j6 H6 σ6 ρ6 S6} X=>by
       obtain⟨E6,X6⟩:=E3.leave X;refine⟨E6,X3.trans X6,?_,λn d q1 q2=> ?_⟩
       .rcases X.keep acc _ h3 with q|⟨n,d,q1,q2,q3⟩
        .exact q
        .rw[nin n d q1 q2] at q3;cases q3
       .by_cases hn:n<j2.length
        .have p1:j2[n]? =some j2[n]:=r9 hn;have p2:=X6.pre n _ p1;rw[q1] at p2;cases p2;have gf:n<S2.length:=by rw[<-E2.jl];exact hn
         obtain⟨d',f1,_,f3⟩:=X.old n _ (r9 gf);rw[q2] at f1;cases f1;have hz:=nin n _ p1 (r9 gf);rw[f3 hz];exact hz
        .have q:=X.fresh n acc (by dsimp only;omega) q1;have q:H3 acc=none:=q;rw[h3] at q;cases q
      refine hg I0 hv e4 λσ4 j4 H4 X4 I4=>hc I4 e5 λj5 H5 X5 I5=> ?_;cases b with
      |true=>
       rw[if_pos rfl];rw[if_pos rfl] at e2;obtain⟨y,S6,e6,e2⟩:=zdQ e2;split at e2
       .rename_i g7;refine he I5 e6 λj6 H6 X6 I6 w hw=> ?_;obtain⟨E6,X26,h6,iB⟩:=behind I6;obtain⟨E7,X7⟩:=E6.outside (o:= .lst (ys++[w])) iB h6 rfl hf;refine⟨h6,by rw[ly.len];exact g7,n,sP _,j6,S6,es++[y],X2.trans (X26.trans X7),E7,yP,((ly.mono X26).append (.one hw)).mono X7,iB,e2⟩
       .cases e2
      |false=>
       rw[if_neg (by simp)];rw[if_neg (by simp)] at e2;obtain⟨E6,X26,h6,iB⟩:=behind I5;exact⟨n,sP _,j5,S5,es,X2.trans X26,E6,h6,ly.mono X26,iB,e2⟩
 .exact hi En0 e1 k
theorem zgh {i:Nat} {cap:List (Option Nat)} {wi:TI} {g:TG} {tt:TT} {te:TE} {m:TwE} (h:RE K E (zjc cap wi g tt te) m):RS K E (zeM i cap wi g tt te) (zF m (gN i)):=by
 intro F j D' σ H ρ S fl E1 e k;rcases wD e with⟨x,S1,e1,e⟩|⟨c,S1,e1,rfl⟩
 .cases e;exact h (Q:=λv H2=>D'.nx (σ.set i (some v)) H2) E1 e1 λj1 H1 X1 E1 u hu=>k _ _ _ X1 (E1.set hu)
 .exact h (Q:=λv H2=>D'.nx (σ.set i (some v)) H2) E1 e1 k
abbrev TwF:=List Xv->Sto->Option (Rs Xv)
noncomputable def zK (n k:Nat) (b:TwS):TwF:=λxs S=>if xs.length=n then match b (xs.map some++sN k none) S with
  |some (.rt x S')=>some (.ok x S')
  |some (.nx _ S')=>some (.ok .non S')
  |some (.ex c S')=>some (.ex c S')
  |_=>none
 else none
def zo8 (K:r6) (F:Fm) (Q:VK) (E:XK):Rs Xv->Prop
 | .ok x S'=>∀v j' H' σ ρ,En K F j' H' σ ρ S'->Xis K j' H' x v->Q v H'
 | .ex c S'=>∀j' H' σ ρ C,En K F j' H' σ ρ S'->rD K mainGlobals c=some (some (.ref C))->E (.ref C) none H'
def sTw (K:r6) (n:Nat) (tw:TwF):Sp:=λvs H Q E=>vs.length=n/\∃(j:List Addr) (S:Sto) (xs:List Xv) (r:Rs Xv),En K ⟨H,j,S⟩ j H (vs.map some) (xs.map some) S/\tw xs S=some r/\zo8 K ⟨H,j,S⟩ Q E r
theorem zV {n k:Nat} {N:List Str} {t:TS} {b:TwS} {vs:List V} {Q:VK} (hN:N.length=n+k) (h:RS K E t b) (hs:sTw K n (zK n k b) vs H Q E):t {nx:=λ_ H'=>Q .non H',rt:=Q} (Vz N vs) H:=by
 obtain⟨hn,j,S,xs,r,E1,e,ret⟩:=hs;have es:Vz N vs=vs.map some++sN k none:=by
  unfold Vz;rw[hN,hn,Nat.add_sub_cancel_left]
 rw[es];unfold zK at e;split at e
 .split at e
  .rename_i x S' e1;cases e;exact h E1.grow e1 λv σ ρ j' H' X E' hv=>ret _ _ _ _ _ E' hv
  .rename_i ρ' S' e1;cases e;exact h E1.grow e1 λσ j' H' X E'=>ret _ _ _ _ _ E' .non
  .rename_i c S' e1;cases e;exact h E1.grow e1 λj' H' σ' ρ' C X E' hC=>ret _ _ _ _ _ E' hC
  .cases e
 .cases e
theorem xG {P:Program} {w:World} {mg:Str->Option Value} {base:Heap} {CX:CXT} {k n:Nat} {f:Addr} {fd:FuncData} {ps:List Str} (hl:ps.length=n:=by rfl):zZ P w K mg base CX k f fd ps (sTw K n λ_ _=>none):=
 ⟨λvs H Q E h=>h.1.trans hl.symm,λA outer s H args us vs Q E hr he hb hv hs=>by
  obtain⟨_,_,_,_,_,_,z,_⟩:=hs
  cases z⟩
noncomputable def ze (tw:TwF) (ms:List TwE):TwE:=λρ S=>rb (evL ms ρ S) λxs S1=>tw xs S1
theorem zgi {xs:List Xv} {vs:List V} (hv:yo K j H xs vs):(vs.map some).length=(xs.map some).length/\∀(i:Nat) x,(xs.map some)[i]? =some (some x)->∃v,(vs.map some)[i]? =some (some v)/\Xis K j H x v:=by
 refine⟨by simp[hv.len],λi x h=> ?_⟩;rw[rq] at h ⊢;cases e:xs[i]? with
 |none=>rw[e] at h;cases h
 |some y=>
  rw[e] at h;simp at h;subst h;obtain⟨v,e1,e2⟩:=hv.get e;exact⟨v,by rw[e1];rfl,e2⟩
theorem zav {n:Nat} {tw:TwF} {xs:List Xv} {vs:List V} {r:Rs Xv} {Q:VK} {E':XK} (E1:En K F j H σ ρ S) (hv:yo K j H xs vs) (hn:vs.length=n) (et:tw xs S=some r) (k:Po K F j H σ ρ E' (PoV K Q) r):sTw K n tw vs H Q E':=by
 obtain⟨l,s⟩:=zgi hv;refine⟨hn,j,S,xs,r,E1.enter l s,et,?_⟩;cases r with
 |ok x S'=>
  intro v j' H' σ' ρ' X hx;obtain⟨E2,X2⟩:=E1.leave X;exact k j' H' X2 E2 v hx
 |ex c S'=>
  intro j' H' σ' ρ' C X hC;obtain⟨E2,X2⟩:=E1.leave X;exact k j' H' σ ρ C X2 E2 hC
theorem yt {n:Nat} {tw:TwF} {ms:List TwE} {t:TA} (h:RL K E t (evL ms)) (hn:ms.length=n:=by rfl):RE K E (zmg (sTw K n tw) [] E t) (ze tw ms):=by
 intro F j σ H ρ S r Q En0 e k;rcases zv e with⟨xs,S1,e1,e⟩|⟨c,S1,e1,rfl⟩
 .refine h En0 e1 λj1 H1 X1 E1 vs hv=> ?_;rw[sT];exact zav E1 hv (by rw[hv.len,Ui e1,hn]) e (k.step X1)
 .exact h En0 e1 k
end
def zbJ (K:r6):Sp:=λvs H Q _=>∃(a:Addr) (ns:List Int),vs=[V.ref a]/\zk7 H/\SqX K H a (ns.map V.int)/\ns.length<=63/\∀H',Q (.bl true) H'
theorem znr {P:Program} {w:World} {K:r6} {mg:Str->Option Value} {base:Heap} {CX:CXT} {k:Nat} {f:Addr} {fd:FuncData} {ps:List Str} {tw:TwF} (Fn:zZ P w K mg base CX k f fd ps (sTw K 1 tw))
  (h:∀ns:List Int,ns.length<=63->∃S,tw [.ref 0] [.frz (ns.map Xv.int)]=some (.ok (.bl true) S)):zZ P w K mg base CX k f fd ps (zbJ K):=by
 refine Fn.imp ?_;rintro vs H Q E ⟨a,ns,rfl,hO,hS,hl,q⟩;obtain⟨S',e⟩:=h ns hl;refine⟨rfl,[a],[.frz (ns.map Xv.int)],[.ref 0],_,?_,e,λv j' H' σ ρ E' hv=> ?_⟩
 .refine⟨rfl,λi x e=> ?_,rfl,λn m b c d _ _ e3 _ z _=> ?_,λn c b e1 e2=> ?_,Ext.refl,λn c e=>⟨c,e,λz=>z,λ_=>rfl⟩,rfl,λb u e=> .inl e,λn b hn e=> ?_,λb e=>e⟩
  .cases i with
   |zero=>simp at e;subst e;exact⟨_,rfl,.ref rfl⟩
   |succ i=>simp at e
  .cases n with
   |zero=>simp at e3;subst e3;cases z
   |succ n=>simp at e3
  .cases n with
   |zero=>
    simp at e1 e2;subst e1 e2;refine⟨ns.map V.int,?_,yo.ints ns⟩;rcases hS with (hS|⟨o,hS⟩)|hS
    .rcases hO a with z|⟨o,xs,z⟩
     .rw[z] at hS;cases hS
     .rw[z] at hS;cases hS
    .exact .inl ⟨o,hS⟩
    .exact .inr λH=> .inr hS
   |succ n=>simp at e1
  .dsimp only at hn;have:=(rg.1 e).1;omega
 .rw[hv.bl_inv];exact q H'
end L2
namespace L2
open PySem PySem.Spec PyProof.Rows
open PySem.Builtin.Int (intBits)
noncomputable def xI (g:Int->Int->Xv):Op2:=λx y S=>match x,y with
 | .int a,.int b=>some (g a b,S)
 |_,_=>none
noncomputable def xIC (c:Int->Int->Bool) (g:Int->Int->Xv):Op2:=λx y S=>match x,y with
 | .int a,.int b=>if c a b then some (g a b,S) else none
 |_,_=>none
noncomputable def xj:Op2:=xI λi j=> .int (i+j)
noncomputable def zeW:Op2:=xI λi j=> .int (i-j)
noncomputable def zlj:Op2:=xIC (λi j=>decide ((-(2^64)<i/\i<2^64)\/(-(2^64)<j/\j<2^64))) λi j=> .int (i*j)
noncomputable def Wq:Op2:=xIC (λi j=>decide (intBits i+intBits j<=134217728)) λi j=> .int (i*j)
noncomputable def zaw:Op2:=xIC (λ_ j=>decide (0<j)) λi j=> .int (i % j)
noncomputable def zgj:Op2:=xIC (λi j=>decide (0<=j/\j<=1000000/\i.natAbs<2^64)) λi j=> .int (i^j.toNat)
noncomputable def dLt:Op2:=xI λi j=> .bl (decide (i<j))
noncomputable def dLe:Op2:=xI λi j=> .bl (decide (i<=j))
noncomputable def dGt:Op2:=xI λi j=> .bl (decide (j<i))
noncomputable def wQ:Op2:=xI λi j=> .bl (decide (i=j))
noncomputable def zdS:Op2:=xI λi j=> .bl (!decide (i=j))
noncomputable def zbK:Xv->Sto->Option (Xv×Sto):=λx S=>match x with
 | .int i=>some (.int (-i),S)
 |_=>none
section
variable {K:r6} {E:XK} {F:Fm} {j j':List Addr} {H H':Hp} {σ σ':St} {ρ ρ':Rho} {S S':Sto} {x:Xv} {v:V} {ta tb:TE} {a b:TwE}
theorem zjz {g:Int->Int->V} {g':Int->Int->Xv} (hg:∀i k j H,Xis K j H (g' i k) (g i k)):XN K (rI0 g) (xI g'):=by
 intro F j σ H ρ S S' x y z u v Q E1 hx hy h k;unfold xI at h;split at h
 .cases h;exact⟨_,_,hx.int_inv,hy.int_inv,k _ _ _ Ext.refl E1 (hg _ _ _ _)⟩
 .cases h
theorem zlk {C:Int->Int->Prop} {c:Int->Int->Bool} {g:Int->Int->V} {g':Int->Int->Xv} (hc:∀i j,c i j=true->C i j) (hg:∀i k j H,Xis K j H (g' i k) (g i k)):XN K (rI C g) (xIC c g'):=by
 intro F j σ H ρ S S' x y z u v Q E1 hx hy h k;unfold xIC at h;split at h
 .split at h
  .cases h;exact⟨_,_,hx.int_inv,hy.int_inv,hc _ _ (by assumption),k _ _ _ Ext.refl E1 (hg _ _ _ _)⟩
  .cases h
 .cases h
theorem zbL {p:Int->Int->Bool} (ha:RE K E ta a) (hb:RE K E tb b):RE K E (zex p ta tb) (eOp (xI λi j=> .bl (p i j)) a b):=
 xE (r:=rI0 λi j=> .bl (p i j)) (zjz λi k _ _=> .bl _) ha hb
theorem UN:XN K (rI0 λi j=> .int (i+j)) xj:=zjz λ_ _ _ _=> .int _
theorem zjA:XN K (rI0 λi j=> .int (i-j)) zeW:=zjz λ_ _ _ _=> .int _
theorem zjB:XN K (rI ziV λi j=> .int (i*j)) zlj:=zlk (λi j h=>by simpa [ziV] using h) λ_ _ _ _=> .int _
theorem zhb:XN K (rI zmm λi j=> .int (i*j)) Wq:=zlk (λi j h=>⟨intBits i,intBits j,rj _,rj _,by simpa using h⟩) λ_ _ _ _=> .int _
theorem zjC:XN K (rI (λ_ j=>0<j) λi j=> .int (i % j)) zaw:=zlk (λi j h=>by simpa using h) λ_ _ _ _=> .int _
theorem zjD:XN K (rI zm1 λi j=> .int (i^j.toNat)) zgj:=zlk (λi j h=>by simpa [zm1] using h) λ_ _ _ _=> .int _
theorem zo9 (ha:RE K E ta a) (hb:RE K E tb b):RE K E (tLt ta tb) (eOp dLt a b):=zbL ha hb
theorem zpa (ha:RE K E ta a) (hb:RE K E tb b):RE K E (tLe ta tb) (eOp dLe a b):=zbL ha hb
theorem zms (ha:RE K E ta a) (hb:RE K E tb b):RE K E (tGt ta tb) (eOp dGt a b):=zbL ha hb
theorem zdT (ha:RE K E ta a) (hb:RE K E tb b):RE K E (zop ta tb) (eOp wQ a b):=zbL ha hb
theorem zgk (ha:RE K E ta a) (hb:RE K E tb b):RE K E (zoq ta tb) (eOp zdS a b):=zbL ha hb
theorem zjE:zoZ K (rU λi=> .int (-i)) zbK:=by
 intro F j σ H ρ S S' x z u Q E1 hx h k;unfold zbK at h;split at h
 .cases h;exact⟨_,hx.int_inv,k _ _ _ Ext.refl E1 (.int _)⟩
 .cases h
noncomputable def xf:Op2:=λx y S=>match x,y with
 | .str a,.str b=>if a.length+b.length<=sizeLine then some (.str (a++b),S) else none
 |_,_=>none
theorem zhc:XN K (λx y H Q=>∃i j,x= .str i/\y= .str j/\i.length+j.length<=sizeLine/\Q (.str (i++j)) H) xf:=by
 intro F j σ H ρ S S' x y z u v Q E1 hx hy h k;unfold xf at h;split at h
 .split at h
  .cases h;exact⟨_,_,hx.str_inv,hy.str_inv,by assumption,k _ _ _ Ext.refl E1 (.str _)⟩
  .cases h
 .cases h
noncomputable def zdi:Op2:=λx y S=>match x,y with
 | .tup a,.tup b=>if a.length+b.length<=sizeLine then some (.tup (a++b),S) else none
 |_,_=>none
theorem zhd:XN K (zmo K) zdi:=by
 intro F j σ H ρ S S' x y z u v Q E1 hx hy h k;unfold zdi at h;split at h
 .split at h
  .rename_i hz;cases h;obtain⟨p,xs,rfl,h1,h2⟩:=hx.tup_inv;obtain⟨q,ys,rfl,g1,g2⟩:=hy.tup_inv;refine⟨p,q,xs,ys,rfl,rfl,SqT.of h1,SqT.of g1,by rw[h2.len,g2.len];exact hz,λe=> ?_,λ_ e=> ?_,λ_ _ l hl=> ?_⟩
   .subst e;obtain rfl:=sX.1 h2.len.symm;exact k _ _ _ Ext.refl E1 hy
   .subst e;obtain rfl:=sX.1 g2.len.symm;refine k _ _ _ Ext.refl E1 ?_;rw[sT];exact hx
   .obtain⟨E2,X2⟩:=E1.new (o:= .tup (xs++ys)) hl;exact k _ _ _ X2 E2 (.tup yP ((h2.append g2).mono X2))
  .cases h
 .cases h
noncomputable def wS:Op2:=λx y S=>match zY S x,zY S y with
 |some a,some b=>if a.length+b.length<=sizeLine then some (.ref S.length,S++[.lst (a++b)]) else none
 |_,_=>none
theorem zhe:XN K (zmq K) wS:=by
 intro F j σ H ρ S S' x y z u v Q E1 hx hy h k;unfold wS at h;split at h
 .rename_i l1 l2 e1 e2;split at h
  .rename_i hz;cases h;obtain⟨p,xs,rfl,h1,h2⟩:=E1.lstAt hx e1;obtain⟨q,ys,rfl,g1,g2⟩:=E1.lstAt hy e2;refine⟨p,q,xs,ys,rfl,rfl,h1,g1,by rw[h2.len,g2.len];exact hz,λl hl=> ?_⟩;obtain⟨E2,X2,h3⟩:=E1.lst (h2.append g2) hl;exact k _ _ _ X2 E2 h3
  .cases h
 .cases h
noncomputable def zhf (g:Int->Int->Xv):Opn:=λxs S=>match xs with
 |[.int i,.int j]=>some (g i j,S)
 |_=>none
theorem zhg {g:Int->Int->V} {g':Int->Int->Xv} (hg:∀i k j H,Xis K j H (g' i k) (g i k)):UK K (λxs H Q=>∃i j,xs=[V.int i,V.int j]/\Q (g i j) H) (zhf g'):=by
 intro F j σ H ρ S S' xs z vs Q E1 hv h k;unfold zhf at h;split at h
 .cases h;obtain⟨x,y,rfl,hx,hy⟩:=hv.d2;exact⟨_,_,by rw[hx.int_inv,hy.int_inv],k _ _ _ Ext.refl E1 (hg _ _ _ _)⟩
 .cases h
noncomputable def zns:Opn:=zhf λi j=> .int (if j<i then j else i)
noncomputable def zgl:Opn:=zhf λi j=> .int (if j>i then j else i)
theorem zjF:UK K (λxs H Q=>∃i j,xs=[V.int i,V.int j]/\Q (.int (if j<i then j else i)) H) zns:=zhg λ_ _ _ _=> .int _
theorem zjG:UK K (λxs H Q=>∃i j,xs=[V.int i,V.int j]/\Q (.int (if j>i then j else i)) H) zgl:=zhg λ_ _ _ _=> .int _
noncomputable def ww:Opn:=λxs S=>match xs with
 |[x]=>(Xu S x).map λl=>(.int l.length,S)
 |_=>none
theorem zax:UK K (λxs H Q=>∃p ys,xs=[V.ref p]/\(SqL K H p ys\/SqT K H p ys)/\Q (.int ys.length) H) ww:=by
 intro F j σ H ρ S S' xs z vs Q E1 hv h k;unfold ww at h;split at h
 .rename_i x;cases e:Xu S x with
  |none=>rw[e] at h;cases h
  |some l=>
   rw[e] at h;cases h;obtain⟨w,rfl,hx⟩:=hv.d1;obtain⟨a,ws,rfl,h1,h2⟩:=E1.seqAt hx e;refine⟨a,ws,rfl,?_,k _ _ _ Ext.refl E1 (by rw[h2.len];exact .int _)⟩;rcases h1 with h1|h1
   .exact .inl h1.sql
   .exact .inr h1
 .cases h
noncomputable def zaV:Opn:=λxs S=>match xs with
 |[.str z]=>if z.length<=sizeLine then some (.int z.length,S) else none
 |_=>none
theorem zhh:UK K (λxs H Q=>∃z,xs=[V.str z]/\z.length<=sizeLine/\Q (.int z.length) H) zaV:=by
 intro F j σ H ρ S S' xs z vs Q E1 hv h k;unfold zaV at h;split at h
 .split at h
  .cases h;obtain⟨x,rfl,hx⟩:=hv.d1;exact⟨_,by rw[hx.str_inv],by assumption,k _ _ _ Ext.refl E1 (.int _)⟩
  .cases h
 .cases h
noncomputable def zhi:Opn:=λxs S=>match xs with
 |[x]=>(Xu S x).map λl=>(.ref S.length,S++[.lst l])
 |_=>none
theorem zhj:UK K (λxs H Q=>∃p ys,xs=[V.ref p]/\(SqL K H p ys\/SqT K H p ys)/\∀l,H l=none->Q (.ref l) (upd H l (.lst ys))) zhi:=by
 intro F j σ H ρ S S' xs z vs Q E1 hv h k;unfold zhi at h;split at h
 .rename_i x;cases e:Xu S x with
  |none=>rw[e] at h;cases h
  |some l=>
   rw[e] at h;cases h;obtain⟨w,rfl,hx⟩:=hv.d1;obtain⟨a,ws,rfl,h1,h2⟩:=E1.seqAt hx e;refine⟨a,ws,rfl,?_,λp hp=> ?_⟩
   .rcases h1 with h1|h1
    .exact .inl h1.sql
    .exact .inr h1
   .obtain⟨E2,X2,h3⟩:=E1.lst h2 hp;exact k _ _ _ X2 E2 h3
 .cases h
noncomputable def wb:Opn:=λxs S=>match xs with
 |[.tup l]=>some (.tup l,S)
 |[x]=>(zY S x).map λl=>(.tup l,S)
 |_=>none
theorem VE:UK K (λxs H Q=>∃p ys,xs=[V.ref p]/\((SqL K H p ys/\∀l,H l=none->Q (.ref l) (upd H l (.tup ys)))\/(SqT K H p ys/\Q (.ref p) H))) wb:=by
 intro F j σ H ρ S S' xs z vs Q E1 hv h k;unfold wb at h;split at h
 .cases h;obtain⟨w,rfl,hx⟩:=hv.d1;obtain⟨a,ws,rfl,h1,h2⟩:=hx.tup_inv;exact⟨a,ws,rfl,.inr ⟨SqT.of h1,k _ _ _ Ext.refl E1 hx⟩⟩
 .rename_i x _;cases e:zY S x with
  |none=>rw[e] at h;cases h
  |some l=>
   rw[e] at h;cases h;obtain⟨w,rfl,hx⟩:=hv.d1;obtain⟨a,ws,rfl,h1,h2⟩:=E1.lstAt hx e;refine⟨a,ws,rfl,.inl ⟨h1.sql,λp hp=> ?_⟩⟩;obtain⟨E2,X2⟩:=E1.new (o:= .tup ws) hp;exact k _ _ _ X2 E2 (.tup yP (h2.mono X2))
 .cases h
noncomputable def Wr:List Xv->Option (List Int)
 |[]=>some []
 | .int i::r=>(Wr r).map (i:: ·)
 |_::_=>none
theorem Tm:∀{xs:List Xv} {ns:List Int} {vs:List V},Wr xs=some ns->yo K j H xs vs->vs=ns.map V.int
 |[],ns,vs,e,h=>by cases e;exact h.nil_inv
 |x::r,ns,vs,e,h=>by
  obtain⟨v,ws,rfl,h1,h2⟩:=h.cons_inv;cases x<;>simp only[Wr,reduceCtorEq] at e
  cases e2:Wr r with
  |none=>rw[e2] at e;cases e
  |some ms=>
   rw[e2] at e;cases e;rw[h1.int_inv,Tm e2 h2];rfl
noncomputable def Tn:List Xv->Option (List Bool)
 |[]=>some []
 | .bl i::r=>(Tn r).map (i:: ·)
 |_::_=>none
theorem zeX:∀{xs:List Xv} {ns:List Bool} {vs:List V},Tn xs=some ns->yo K j H xs vs->vs=ns.map V.bl
 |[],ns,vs,e,h=>by cases e;exact h.nil_inv
 |x::r,ns,vs,e,h=>by
  obtain⟨v,ws,rfl,h1,h2⟩:=h.cons_inv;cases x<;>simp only[Tn,reduceCtorEq] at e
  cases e2:Tn r with
  |none=>rw[e2] at e;cases e
  |some ms=>
   rw[e2] at e;cases e;rw[h1.bl_inv,zeX e2 h2];rfl
noncomputable def zgm:Opn:=λxs S=>match xs with
 |[x]=>((zY S x).bind Wr).map λns=>(.int ns.sum,S)
 |_=>none
theorem zjH:UK K (zoT K) zgm:=by
 intro F j σ H ρ S S' xs z vs Q E1 hv h k;unfold zgm at h;split at h
 .rename_i x;cases e:zY S x with
  |none=>rw[e] at h;cases h
  |some l=>
   rw[e] at h;cases e2:Wr l with
   |none=>simp[e2] at h
   |some ns=>
    simp[e2] at h;obtain⟨rfl,rfl⟩:=h;obtain⟨w,rfl,hx⟩:=hv.d1;obtain⟨p,ws,rfl,h1,h2⟩:=E1.lstAt hx e;refine⟨p,ns,rfl,?_,k _ _ _ Ext.refl E1 (.int _)⟩;rw[<-Tm e2 h2];exact h1.sql
 .cases h
noncomputable def zeY:Opn:=λxs S=>match xs with
 |[x]=>(x.tupOf.bind Wr).map λns=>(.int ns.sum,S)
 |_=>none
theorem zhk:UK K (zmp K) zeY:=by
 intro F j σ H ρ S S' xs z vs Q E1 hv h k;unfold zeY at h;split at h
 .rename_i x;cases e:x.tupOf with
  |none=>rw[e] at h;cases h
  |some l=>
   rw[e] at h;cases e2:Wr l with
   |none=>simp[e2] at h
   |some ns=>
    simp[e2] at h;obtain⟨rfl,rfl⟩:=h;obtain⟨w,rfl,hx⟩:=hv.d1;obtain⟨p,ws,rfl,h1,h2⟩:=hx.tupO e;refine⟨p,ns,rfl,?_,k _ _ _ Ext.refl E1 (.int _)⟩;rw[<-Tm e2 h2];exact h1
 .cases h
noncomputable def zbM:Opn:=λxs S=>match xs with
 |[x]=>((zY S x).bind Tn).map λns=>(.bl (ns.all id),S)
 |_=>none
theorem zjI:UK K (zoX K) zbM:=by
 intro F j σ H ρ S S' xs z vs Q E1 hv h k;unfold zbM at h;split at h
 .rename_i x;cases e:zY S x with
  |none=>rw[e] at h;cases h
  |some l=>
   rw[e] at h;cases e2:Tn l with
   |none=>simp[e2] at h
   |some ns=>
    simp only[rE,e2,A1,sI,x4] at h;obtain⟨rfl,rfl⟩:=h;obtain⟨w,rfl,hx⟩:=hv.d1;obtain⟨p,ws,rfl,h1,h2⟩:=E1.lstAt hx e;refine⟨p,ns,rfl,?_,k _ _ _ Ext.refl E1 (.bl _)⟩;rw[<-zeX e2 h2];exact h1.sql
 .cases h
noncomputable def yk (neg:Bool):Op2:=λx y S=>match x,y with
 | .int a,.int b=>some (.bl (neg !=decide (a=b)),S)
 | .str a,.str b=>some (.bl (neg !=decide (a=b)),S)
 | .bl a,.bl b=>some (.bl (neg !=decide (a=b)),S)
 | .non,.non=>some (.bl (neg !=true),S)
 | .int _,.str _=>some (.bl (neg !=false),S)
 | .str _,.int _=>some (.bl (neg !=false),S)
 |_,_=>none
theorem zay:XN K rEq (yk false):=by
 intro F j σ H ρ S S' x y z u v Q E1 hx hy h k;cases hx<;>cases hy<;>simp only[yk,reduceCtorEq,sI,x4,B4] at h<;>obtain⟨rfl,rfl⟩:=h<;>refine⟨rfl,k _ _ _ Ext.refl E1 ?_⟩<;>simp<;>exact .bl _
theorem zgn:XN K rNe (yk true):=by
 intro F j σ H ρ S S' x y z u v Q E1 hx hy h k;cases hx<;>cases hy<;>simp only[yk,reduceCtorEq,sI,x4,Am] at h<;>obtain⟨rfl,rfl⟩:=h<;>refine⟨rfl,k _ _ _ Ext.refl E1 ?_⟩<;>simp<;>exact .bl _
noncomputable def UB:Xv->Bool
 | .non=>true
 | .bl _=>true
 | .int _=>true
 | .str _=>true
 |_=>false
noncomputable def zcx:Xv->Xv->Bool
 | .non,.non=>true
 | .bl a,.bl b=>a==b
 | .bl a,.int b=>(if a then 1 else 0)==b
 | .int a,.bl b=>a==(if b then 1 else 0)
 | .int a,.int b=>a==b
 | .str a,.str b=>a==b
 |_,_=>false
noncomputable def dIn (neg:Bool):Op2:=λx y S=>(Xu S y).bind λl=>if UB x&&l.all UB then some (.bl (neg !=l.any λz=>zcx z x),S) else none
theorem zeZ {v:V} {x:Xv} (h:Xis K j H x v):Uw v=UB x:=by cases h<;>rfl
theorem znt {v w:V} {x y:Xv} (h:Xis K j H x v) (g:Xis K j H y w) (fx:UB x=true) (fy:UB y=true):eqV v w=zcx x y:=by cases h<;>cases g<;>first|rfl|cases fx|cases fy
theorem zhl:∀{xs:List Xv} {vs:List V},yo K j H xs vs->vs.all Uw=xs.all UB
 |_,_,.nil=>rfl
 |_,_,.cons h l=>by rw[tH,tH,zeZ h,zhl l]
theorem zhm {v:V} {x:Xv} (hx:Xis K j H x v) (fx:UB x=true):∀{xs:List Xv} {vs:List V},yo K j H xs vs->xs.all UB=true->inV v vs=xs.any λz=>zcx z x
 |_,_,.nil,_=>rfl
 |_,_,.cons h l,f=>by
  rw[tH,rT] at f;have:=zhm hx fx l f.2;unfold inV at this ⊢;rw[w6,w6,znt h hx f.1 fx,this]
theorem zdj {neg:Bool}:XN K (rIn K neg) (dIn neg):=by
 intro F j σ H ρ S S' x y z u v Q E1 hx hy h k;unfold dIn at h;cases e:Xu S y with
 |none=>rw[e] at h;cases h
 |some l=>
  rw[e] at h;dsimp only[v7] at h;split at h
  .rename_i hf;have hf:=Bool.and_eq_true_iff.1 hf;cases h;obtain⟨p,ws,rfl,h1,h2⟩:=E1.seqAt hy e;refine⟨p,ws,rfl,?_,by rw[zeZ hx];exact hf.1,by rw[zhl h2];exact hf.2,k _ _ _ Ext.refl E1 ?_⟩
   .rcases h1 with h1|h1
    .exact .inl h1.sql
    .exact .inr h1
   .rw[zhm hx hf.1 h2 hf.2];cases neg<;>simp<;>exact .bl _
  .cases h
noncomputable def Yi (f:Xv->Option D):List Xv->Option (List D)
 |[]=>some []
 |x::r=>(f x).bind λd=>(Yi f r).map (d:: ·)
noncomputable def xY (S:Sto):Nat->Xv->Option D
 |0,x=>match x with
  | .non=>some .non
  | .bl b=>some (.bl b)
  | .int i=>some (.int i)
  | .str s=>some (.str s)
  |_=>none
 |n+1,x=>match x with
  | .non=>some .non
  | .bl b=>some (.bl b)
  | .int i=>some (.int i)
  | .str s=>some (.str s)
  | .tup l=>(Yi (xY S n) l).map .tup
  | .ct l=>(Yi (xY S n) l).map .tup
  | .ref m=>(zY S (.ref m)).bind λl=>(Yi (xY S n) l).map .lst
theorem To {f:Xv->Option D} {n:Nat} (hf:∀x v d,Xis K j H x v->f x=some d->Is K H v d/\D.depth d<=n):∀{xs:List Xv} {vs:List V} {ds:List D},yo K j H xs vs->Yi f xs=some ds->IsL K H vs ds/\D.depths ds<=n
 |_,_,_,.nil,e=>by cases e;exact⟨.nil,by simp[D.depths]⟩
 |x::r,_,ds,.cons h l,e=>by
  unfold Yi at e;cases e1:f x with
  |none=>rw[e1] at e;cases e
  |some d=>
   rw[e1] at e;cases e2:Yi f r with
   |none=>simp[e2] at e
   |some es=>
    simp[e2] at e;subst e;obtain⟨a1,a2⟩:=hf _ _ _ h e1;obtain⟨b1,b2⟩:=To hf l e2;exact⟨.cons a1 b1,by unfold D.depths;omega⟩
theorem zbf (E1:En K F j H σ ρ S):∀(n:Nat) (x:Xv) (v:V) (d:D),Xis K j H x v->xY S n x=some d->Is K H v d/\D.depth d<=n
 |0,x,v,d,h,e=>by
  cases h<;>simp only[xY,sI,reduceCtorEq] at e<;>subst e<;>refine⟨by constructor,by simp[D.depth]⟩
 |n+1,x,v,d,h,e=>by
  have ih:=zbf E1 n;cases h with
  |non=>simp only[xY,sI] at e;subst e;exact⟨.non,by simp[D.depth]⟩
  |bl b=>simp only[xY,sI] at e;subst e;exact⟨.bl b,by simp[D.depth]⟩
  |int b=>simp only[xY,sI] at e;subst e;exact⟨.int b,by simp[D.depth]⟩
  |str b=>simp only[xY,sI] at e;subst e;exact⟨.str b,by simp[D.depth]⟩
  | @tup a vs l h1 h2=>
   simp only[xY] at e;cases e2:Yi (xY S n) l with
   |none=>rw[e2] at e;cases e
   |some ds=>
    rw[e2] at e;cases e;obtain⟨a1,a2⟩:=To ih h2 e2;exact⟨.tup (SqT.of h1) a1,by unfold D.depth;omega⟩
  | @ct a vs l h1 h2=>
   simp only[xY] at e;cases e2:Yi (xY S n) l with
   |none=>rw[e2] at e;cases e
   |some ds=>
    rw[e2] at e;cases e;obtain⟨a1,a2⟩:=To ih h2 e2;exact⟨.tup (h1 H) a1,by unfold D.depth;omega⟩
  | @ref m a h1=>
   simp only[xY] at e;cases e1:zY S (.ref m) with
   |none=>rw[e1] at e;cases e
   |some l=>
    rw[e1] at e;cases e2:Yi (xY S n) l with
    |none=>simp[e2] at e
    |some ds=>
     simp[e2] at e;subst e;obtain⟨a',vs,ea,g1,g2⟩:=E1.lstAt (.ref h1) e1;cases ea;obtain⟨a1,a2⟩:=To ih g2 e2;exact⟨.lst g1.sql a1,by unfold D.depth;omega⟩
noncomputable def D.many:D->Bool
 | .tup _=>true
 | .lst _=>true
 |_=>false
noncomputable def zjJ (c:String) (S:Sto):Xv->Option Bool
 | .non=>some false
 | .int _=>some (c=="int")
 | .bl _=>some (c=="bool"||c=="int")
 | .str _=>some (c=="str")
 | .tup _=>some (c=="tuple")
 | .ct _=>some (c=="tuple")
 | .ref n=>(zY S (.ref n)).map λ_=>c=="list"
structure ze0 (c:String):Prop where
 non:∀K,sE K (.type "NoneType") (.type c)=some false
 bl:∀K,sE K (.type "bool") (.type c)=some (c=="bool"||c=="int")
 int:∀K,sE K (.type "int") (.type c)=some (c=="int")
 str:∀K,sE K (.type "str") (.type c)=some (c=="str")
 tup:∀K,sE K (.type "tuple") (.type c)=some (c=="tuple")
 lst:∀K,sE K (.type "list") (.type c)=some (c=="list")
theorem zaz (a b:String) (K:r6) (h1:(Value.type a==Value.type b)=false) (h:(fastBuiltinMro a).map (·.contains (.type b))=some false) (hm:tP b=true):sE K (.type a) (.type b)=some false:=zng h1 h hm rfl
theorem zhn:ze0 "int":=⟨λK=>zaz _ _ K ∅ (by decide+kernel) (by decide+kernel),λK=>zdL,λK=>zbC,λK=>zaz _ _ K ∅ (by decide+kernel) (by decide+kernel),λK=>zaz _ _ K ∅ (by decide+kernel) (by decide+kernel),λK=>zaz _ _ K ∅ (by decide+kernel) (by decide+kernel)⟩
theorem ze1:ze0 "bool":=⟨λK=>zaz _ _ K ∅ (by decide+kernel) (by decide+kernel),λK=>zbC,λK=>zdM,λK=>zaz _ _ K ∅ (by decide+kernel) (by decide+kernel),λK=>zaz _ _ K ∅ (by decide+kernel) (by decide+kernel),λK=>zaz _ _ K ∅ (by decide+kernel) (by decide+kernel)⟩
theorem zho:ze0 "str":=⟨λK=>zaz _ _ K ∅ (by decide+kernel) (by decide+kernel),λK=>zaz _ _ K ∅ (by decide+kernel) (by decide+kernel),λK=>zaz _ _ K ∅ (by decide+kernel) (by decide+kernel),λK=>zbC,λK=>zaz _ _ K ∅ (by decide+kernel) (by decide+kernel),λK=>zaz _ _ K ∅ (by decide+kernel) (by decide+kernel)⟩
noncomputable def ze2 (c:String):Xv->Sto->Option (Xv×Sto):=λx S=>(zjJ c S x).map λb=>(.bl b,S)
theorem zll {c:String} (ok:ze0 c) (E1:En K F j H σ ρ S) {b:Bool} {Q:VK} (h:Xis K j H x v) (e:zjJ c S x=some b) (k:Q (.bl b) H):zla K [v,.ty c] H Q:=by
 cases h with
 |non=>cases e;exact⟨_,_,_,_,_,rfl,rfl,.of .non,ok.non K,k⟩
 |bl b=>cases e;exact⟨_,_,_,_,_,rfl,rfl,.of (.bl b),ok.bl K,k⟩
 |int i=>cases e;exact⟨_,_,_,_,_,rfl,rfl,.of (.int i),ok.int K,k⟩
 |str z=>cases e;exact⟨_,_,_,_,_,rfl,rfl,.of (.str z),ok.str K,k⟩
 |tup h l=>cases e;exact⟨_,_,_,_,_,rfl,rfl,.sqt (SqT.of h),ok.tup K,k⟩
 |ct h l=>cases e;exact⟨_,_,_,_,_,rfl,rfl,.sqt (h H),ok.tup K,k⟩
 | @ref n a h=>
  simp only[zjJ] at e;cases e1:zY S (.ref n) with
  |none=>rw[e1] at e;cases e
  |some l=>
   rw[e1] at e;cases e;obtain⟨a',vs,ea,g1,g2⟩:=E1.lstAt (.ref h) e1;cases ea;exact⟨_,_,_,_,_,rfl,rfl,.sql g1.sql,ok.lst K,k⟩
theorem znu {c:String} {t:TE} {m:TwE} (ok:ze0 c) (h:RE K E t m):RE K E (tCB (zla K) (zc5 t (zc5 (tC (.ty c)) zh2))) (eUn (ze2 c) m):=by
 intro F j σ H ρ S r Q En0 e k;rcases zv e with⟨x,S1,e1,e⟩|⟨c,S1,e1,rfl⟩
 .obtain⟨z,S3,e3,rfl⟩:=wu e;unfold ze2 at e3;cases e4:zjJ c S1 x with
  |none=>rw[e4] at e3;cases e3
  |some b=>
   rw[e4] at e3;cases e3;exact h En0 e1 λj1 H1 X1 E1 u hu=>zll ok E1 hu e4 (k _ _ X1 E1 _ (.bl _))
 .exact h En0 e1 k
noncomputable def zdk (xs:List Xv):List Xv:=xs.zipIdx.map λp=> .tup [.int (p.2:Int),p.1]
theorem ze3 {xs:List Xv} {i:Nat} {y:Xv} (h:(zdk xs)[i]? =some y):∃x,xs[i]? =some x/\y= .tup [.int (i:Int),x]:=by
 unfold zdk at h;rw[rq,List.getElem?_zipIdx] at h;cases e:xs[i]? with
 |none=>rw[e] at h;cases h
 |some x=>
  rw[e] at h;simp at h;exact⟨x,rfl,h.symm⟩
theorem zdl (xs:List Xv):(zdk xs).length=xs.length:=by simp[zdk]
theorem zpT {p:Addr} {H':Hp} {i:Int} {y:Xv} {w:V} (Sm:UI H H') (hp:H' p=some (.tup [.int i,w])) (h:Xis K j H y w):Xis K j H' (.tup [.int i,y]) (.ref p):=
 .tup hp (.cons (.int i) (.one (h.mono (Ext.same Sm))))
noncomputable def zlm (m:TwE):TwI:=λρ S=>rb (m ρ S) λx S1=>x.tupOf.map λl=> .ok (λ_=>some (zdk l)) S1
theorem zjK {t:TE} {m:TwE} (h:RE K E t m):RI K E (zji K (zc5 t zh2)) (zlm m):=by
 intro F j σ H ρ S r R En0 e k;rcases zv e with⟨x,S1,e1,e⟩|⟨c,S1,e1,rfl⟩
 .cases el:x.tupOf with
  |none=>rw[el] at e;cases e
  |some l=>
   rw[el] at e;cases e;refine h En0 e1 λj1 H1 X1 E1 u hu=> ?_;obtain⟨a,vs,rfl,h1,_⟩:=hu.tupO el;refine⟨a,rfl,⟨vs,h1⟩,k _ _ X1 E1 _ ?_⟩;intro F2 j2 H2 σ2 ρ2 S2 xs i X2 E2 e2;cases e2;obtain⟨a',ws,ea,g1,g2⟩:=(hu.mono X2).tupO el;cases ea;refine⟨λy ey=> ?_,λhle=>⟨ws,g1,by rw[g2.len];rw[zdl] at hle;omega⟩⟩;obtain⟨y',ey',rfl⟩:=ze3 ey;obtain⟨w,f1,f2⟩:=g2.get ey';refine⟨⟨ws,w,g1,f1⟩,?_⟩;rintro v' H' ⟨p,w',rfl,hp,rfl,hx⟩;have:=hx ws g1;rw[f1] at this;cases this;exact⟨vI hp,zpT (vI hp) yP f2⟩
 .exact h En0 e1 k
end
end L2
namespace L2
open PySem PySem.Spec PyProof.Rows
noncomputable def zgo:Xv->Option Key
 | .int i=>some (.inl i)
 | .str z=>some (.inr z)
 |_=>none
noncomputable def zdU (S:Sto):Xv->Option (Nat×List (Key×Xv))
 | .ref n=>match S[n]? with
  |some (.dk aj)=>some (n,aj)
  |_=>none
 |_=>none
noncomputable def zik (S:Sto):Xv->Option (Nat×List (Key×Xv))
 | .ref n=>match S[n]? with
  |some (.dk aj)=>some (n,aj)
  |some (.fdk aj)=>some (n,aj)
  |_=>none
 |_=>none
noncomputable def Ws {κ:Type} [DecidableEq κ] (aj:List (κ×Xv)) (k:κ):Option Xv:=(aj.find? λkv=>decide (kv.1=k)).map (·.2)
section
variable {K:r6} {E:XK} {F:Fm} {j:List Addr} {H:Hp} {σ:St} {ρ:Rho} {S:Sto} {x:Xv} {v:V} {κ:Type}
theorem zdV {k:Key} (h:Xis K j H x v) (e:zgo x=some k):v=kV k:=by
 cases h<;>simp only[zgo,sI,reduceCtorEq] at e<;>subst e<;>rfl
theorem zdm {n:Nat} {aj:List (Key×Xv)} (h:zdU S x=some (n,aj)):x= .ref n/\S[n]? =some (.dk aj):=by
 cases x<;>simp only[zdU,reduceCtorEq] at h
 split at h
 .cases h;exact⟨rfl,by assumption⟩
 .cases h
theorem En.dk {n:Nat} {aj:List (Key×Xv)} (E1:En K F j H σ ρ S) (hx:Xis K j H x v) (h:zdU S x=some (n,aj)):∃a ks,v= .ref a/\j[n]? =some a/\H a=some (.dK ks)/\KX K j H aj ks:=by
 obtain⟨rfl,hs⟩:=zdm h;obtain⟨a,rfl,hj⟩:=hx.ref_inv;obtain⟨ks,e1,e2⟩:=E1.cel _ _ _ hs hj;exact⟨a,ks,rfl,hj,e1,e2⟩
theorem zln {p:Nat×List (Key×Xv)} (h:zdU S x=some p):zik S x=some p:=by
 obtain⟨n,aj⟩:=p;obtain⟨rfl,e⟩:=zdm h;unfold zik;dsimp only;rw[e]
theorem En.dr {n:Nat} {aj:List (Key×Xv)} (E1:En K F j H σ ρ S) (hx:Xis K j H x v) (h:zik S x=some (n,aj)):∃a ks,v= .ref a/\j[n]? =some a/\Rd H a (.dK ks)/\KX K j H aj ks:=by
 cases x<;>simp only[zik,reduceCtorEq] at h
 obtain⟨a,rfl,hj⟩:=hx.ref_inv;split at h
 .rename_i hs;cases h;obtain⟨ks,e1,e2⟩:=E1.cel _ _ _ hs hj;exact⟨a,ks,rfl,hj,.inl e1,e2⟩
 .rename_i hs;cases h;obtain⟨o,ks,e1,e2⟩:=E1.cel _ _ _ hs hj;exact⟨a,ks,rfl,hj,.inr ⟨o,e1⟩,e2⟩
 .cases h
theorem Th.r {a:Addr} {aj:List (Key×V)} {k:Key} (e:Rd H a (.dK aj)):Th H a (kV k) (VB aj k):= .inl ⟨aj,k,e,rfl,rfl⟩
theorem KX.val [DecidableEq κ] {k:κ}:∀{aj:List (κ×Xv)} {ks:List (κ×V)},KX K j H aj ks->(∀y,Ws aj k=some y->∃w,VB ks k=some w/\Xis K j H y w)/\(Ws aj k=none->VB ks k=none)
 |_,_,.nil=>⟨λ_ e=>by simp[Ws] at e,λ_=>rfl⟩
 |(k1,y1)::r,(_,w1)::rs,.cons h l=>by
  obtain⟨i1,i2⟩:=KX.val (k:=k) l;by_cases e:k1=k
  .subst e;refine⟨λy ey=> ?_,λey=> ?_⟩
   .simp[Ws] at ey;subst ey;exact⟨w1,by simp[VB],h⟩
   .simp[Ws] at ey
  .have e1:Ws ((k1,y1)::r) k=Ws r k:=by simp[Ws,sU,e]
   have e2:VB ((k1,w1)::rs) k=VB rs k:=by simp[VB,sU,e]
   rw[e1,e2];exact⟨i1,i2⟩
noncomputable def ze4 (d k:TwE):TwE:=λρ S=>rb (d ρ S) λx S1=>rb (k ρ S1) λy S2=>match zik S2 x,zgo y with
 |some (_,aj),some key=>(Ws aj key).map λz=> .ok z S2
 |_,_=>none
theorem zlo {td ty:TE} {d k:TwE} (hd:RE K E td d) (hk:RE K E ty k):RE K E (zml td ty) (ze4 d k):=by
 intro F j σ H ρ S r Q En0 e kk;rcases zv e with⟨x,S1,e1,e⟩|⟨c,S1,e1,rfl⟩
 .refine hd En0 e1 λj1 H1 X1 E1 u hu=> ?_;rcases zv e with⟨y,S2,e2,e⟩|⟨c,S2,e2,rfl⟩
  .refine hk E1 e2 λj2 H2 X2 E2 w hw=> ?_;split at e
   .rename_i n aj key ed ek;cases ev:Ws aj key with
    |none=>rw[ev] at e;cases e
    |some z=>
     rw[ev] at e;cases e;obtain⟨a,ks,rfl,hj,f1,f2⟩:=E2.dr (hu.mono X2) ed;obtain⟨z',g1,g2⟩:=f2.val.1 _ ev;refine⟨a,z',rfl,?_,kk _ _ (X1.trans X2) E2 _ g2⟩;rw[zdV hw ek,<-g1];exact Th.r f1
   .cases e
  .exact hk E1 e2 (PX.mono kk X1)
 .exact hd En0 e1 kk
noncomputable def zil (neg:Bool) (k d:TwE):TwE:=λρ S=>rb (k ρ S) λy S1=>rb (d ρ S1) λx S2=>match zdU S2 x,zgo y with
 |some (_,aj),some key=>some (.ok (.bl (neg !=(Ws aj key).isSome)) S2)
 |_,_=>none
theorem zhp {a:Addr} {ks:List (Key×V)} {aj:List (Key×Xv)} {key:Key} (f1:H a=some (.dK ks)) (f2:KX K j H aj ks):∃o,Th H a (kV key) o/\o.isSome=(Ws aj key).isSome/\∀z zd,Xis K j H z zd->Xis K j H ((Ws aj key).getD z) (o.getD zd):=by
 refine⟨_,Th.k f1,?_,λz zd hz=> ?_⟩
 .cases ev:Ws aj key with
  |none=>rw[f2.val.2 ev];rfl
  |some y=>obtain⟨w,g1,_⟩:=f2.val.1 _ ev;rw[g1];rfl
 .cases ev:Ws aj key with
  |none=>rw[f2.val.2 ev];exact hz
  |some y=>obtain⟨w,g1,g2⟩:=f2.val.1 _ ev;rw[g1];exact g2
theorem znv {td ty:TE} {d k:TwE} (hk:RE K E ty k) (hd:RE K E td d):RE K E (zoR ty td) (zil false k d):=by
 intro F j σ H ρ S r Q En0 e kk;rcases zv e with⟨y,S1,e1,e⟩|⟨c,S1,e1,rfl⟩
 .refine hk En0 e1 λj1 H1 X1 E1 u hu=> ?_;rcases zv e with⟨x,S2,e2,e⟩|⟨c,S2,e2,rfl⟩
  .refine hd E1 e2 λj2 H2 X2 E2 w hw=> ?_;split at e
   .rename_i n aj key ed ek;cases e;obtain⟨a,ks,rfl,hj,f1,f2⟩:=E2.dk hw ed;obtain⟨o,g1,g2,_⟩:=zhp (key:=key) f1 f2;refine⟨a,o,rfl,by rw[zdV (hu.mono X2) ek];exact g1,kk _ _ (X1.trans X2) E2 _ ?_⟩;rw[g2,B4];exact .bl _
   .cases e
  .exact hd E1 e2 (PX.mono kk X1)
 .exact hk En0 e1 kk
theorem zim {td ty:TE} {d k:TwE} (hk:RE K E ty k) (hd:RE K E td d):RE K E (zg4 ty td) (zil true k d):=by
 intro F j σ H ρ S r Q En0 e kk;rcases zv e with⟨y,S1,e1,e⟩|⟨c,S1,e1,rfl⟩
 .refine hk En0 e1 λj1 H1 X1 E1 u hu=> ?_;rcases zv e with⟨x,S2,e2,e⟩|⟨c,S2,e2,rfl⟩
  .refine hd E1 e2 λj2 H2 X2 E2 w hw=> ?_;split at e
   .rename_i n aj key ed ek;cases e;obtain⟨a,ks,rfl,hj,f1,f2⟩:=E2.dk hw ed;obtain⟨o,g1,g2,_⟩:=zhp (key:=key) f1 f2;refine⟨a,o,rfl,by rw[zdV (hu.mono X2) ek];exact g1,kk _ _ (X1.trans X2) E2 _ ?_⟩;rw[g2,Am];exact .bl _
   .cases e
  .exact hd E1 e2 (PX.mono kk X1)
 .exact hk En0 e1 kk
end
open PySem.Builtin.Int (intBits)
def W {α:Type} (r:Option (Rs α)) (P:α->Sto->Prop):Prop:=∃a S,r=some (.ok a S)/\P a S
def WO (r:Option (Xv×Sto)) (P:Xv->Sto->Prop):Prop:=∃a S,r=some (a,S)/\P a S
def WS (r:Option Fl) (N:Rho->Sto->Prop) (R:Xv->Sto->Prop):Prop:=(∃ρ S,r=some (.nx ρ S)/\N ρ S)\/∃x S,r=some (.rt x S)/\R x S
section
variable {ρ:Rho} {S S':Sto} {d x y:Xv} {a b m o:TwE} {c:TwT} {s t:TwS} {i k:Nat} {P:Xv->Sto->Prop} {PB:Bool->Sto->Prop} {PL:List Xv->Sto->Prop} {PO:Option Int->Sto->Prop} {N:Rho->Sto->Prop} {R:Xv->Sto->Prop}
theorem W.of {α:Type} {r:Option (Rs α)} {a:α} {P:α->Sto->Prop} (e:r=some (.ok a S)) (h:P a S):W r P:=⟨a,S,e,h⟩
theorem WO.of {r:Option (Xv×Sto)} (e:r=some (x,S)) (h:P x S):WO r P:=⟨x,S,e,h⟩
theorem W.imp {α:Type} {r:Option (Rs α)} {P Q:α->Sto->Prop} (h:W r P) (k:∀a S,P a S->Q a S):W r Q:=by
 obtain⟨a,S,e,h⟩:=h;exact⟨a,S,e,k _ _ h⟩
theorem WS.nx {r:Option Fl} (e:r=some (.nx ρ S)) (h:N ρ S):WS r N R:= .inl ⟨ρ,S,e,h⟩
theorem WS.rt {r:Option Fl} (e:r=some (.rt x S)) (h:R x S):WS r N R:= .inr ⟨x,S,e,h⟩
theorem W.bind {α β:Type} {r:Option (Rs α)} {f:α->Sto->Option (Rs β)} {P:β->Sto->Prop} (h:W r λa S=>W (f a S) P):W (rb r f) P:=by
 obtain⟨a,S,rfl,h⟩:=h;exact h
theorem WS.bind {α:Type} {r:Option (Rs α)} {f:α->Sto->Option Fl} (h:W r λa S=>WS (f a S) N R):WS (sb r f) N R:=by
 obtain⟨a,S,rfl,h⟩:=h;exact h
theorem W.okP {r:Option (Xv×Sto)} (h:WO r P):W (okP r) P:=by
 obtain⟨a,S,rfl,h⟩:=h;exact⟨a,S,rfl,h⟩
theorem znw (h:ρ[i]? =some (some d)) (k:P d S):W (za i ρ S) P:= .of (by unfold za;rw[h]) k
theorem zpU (k:P d S):W (eC d ρ S) P:= .of rfl k
theorem zpb {f:Op2} (h:W (a ρ S) λx S1=>W (b ρ S1) λy S2=>WO (f x y S2) P):W (eOp f a b ρ S) P:=W.bind (h.imp λ_ _ h=>W.bind (h.imp λ_ _ h=>W.okP h))
theorem zpc {f:Xv->Sto->Option (Xv×Sto)} (h:W (a ρ S) λx S1=>WO (f x S1) P):W (eUn f a ρ S) P:=W.bind (h.imp λ_ _ h=>W.okP h)
theorem Zn (h:W (a ρ S) λx S1=>∃v,x= .bl v/\PB v S1):W (bE a ρ S) PB:=W.bind (h.imp λx S1 h=>by obtain⟨v,rfl,k⟩:=h;exact .of rfl k)
theorem zpd (h:W (c ρ S) λv S1=>P (.bl v) S1):W (eB c ρ S) P:=W.bind (h.imp λ_ _ k=> .of rfl k)
theorem Zv (h:W (c ρ S) λv S1=>PB (!v) S1):W (XQ c ρ S) PB:=W.bind (h.imp λ_ _ k=> .of rfl k)
theorem xl {c2:TwT} (h:W (c ρ S) λv S1=>(v=true->W (c2 ρ S1) PB)/\(v=false->PB false S1)):W (XO c c2 ρ S) PB:=W.bind (h.imp λv S1 k=>by
 cases v with
 |true=>rw[if_pos rfl];exact k.1 rfl
 |false=>exact .of rfl (k.2 rfl))
theorem xX {c2:TwT} (h:W (c ρ S) λv S1=>(v=true->PB true S1)/\(v=false->W (c2 ρ S1) PB)):W (bOr c c2 ρ S) PB:=W.bind (h.imp λv S1 k=>by
 cases v with
 |true=>exact .of rfl (k.1 rfl)
 |false=>rw[if_neg (by simp)];exact k.2 rfl)
theorem Tp (h:W (a ρ S) λx S1=>∃v,x= .bl v/\(v=true->W (b ρ S1) P)/\(v=false->P (.bl false) S1)):W (zge a b ρ S) P:=W.bind ((Zn h).imp λv S1 k=>by
 cases v with
 |true=>rw[if_pos rfl];exact k.1 rfl
 |false=>exact .of rfl (k.2 rfl))
theorem znx (h:W (a ρ S) λx S1=>∃v,x= .bl v/\(v=true->P (.bl true) S1)/\(v=false->W (b ρ S1) P)):W (eOr a b ρ S) P:=W.bind ((Zn h).imp λv S1 k=>by
 cases v with
 |true=>exact .of rfl (k.1 rfl)
 |false=>rw[if_neg (by simp)];exact k.2 rfl)
theorem zny (h:W (c ρ S) λv S1=>(v=true->W (a ρ S1) P)/\(v=false->W (b ρ S1) P)):W (eIf c a b ρ S) P:=W.bind (h.imp λv S1 k=>by
 cases v with
 |true=>rw[if_pos rfl];exact k.1 rfl
 |false=>rw[if_neg (by simp)];exact k.2 rfl)
theorem znz (k:PL [] S):W (evL [] ρ S) PL:= .of rfl k
theorem zlp {ms:List TwE} (h:W (m ρ S) λd S1=>W (evL ms ρ S1) λds S2=>PL (d::ds) S2):W (evL (m::ms) ρ S) PL:=W.bind (h.imp λ_ _ h=>W.bind (h.imp λ_ _ k=> .of rfl k))
theorem znA {ms:List TwE} (h:W (evL ms ρ S) λds S1=>P (.tup ds) S1):W (yn ms ρ S) P:=W.bind (h.imp λ_ _ k=> .of rfl k)
theorem znB {ms:List TwE} (h:W (evL ms ρ S) λds S1=>P (.ref S1.length) (S1++[.lst ds])):W (wv ms ρ S) P:=W.bind (h.imp λ_ _ k=> .of rfl k)
theorem zpe {f:Opn} {ms:List TwE} (h:W (evL ms ρ S) λds S1=>WO (f ds S1) P):W (eFn f ms ρ S) P:=W.bind (h.imp λ_ _ h=>W.okP h)
theorem zlq {tw:TwF} {ms:List TwE} (h:W (evL ms ρ S) λds S1=>W (tw ds S1) P):W (ze tw ms ρ S) P:=W.bind h
theorem znC (k:PO none S):W (oNo ρ S) PO:= .of rfl k
theorem zjL (h:W (m ρ S) λx S1=>∃k,x= .int k/\PO (some k) S1):W (Yf m ρ S) PO:=W.bind (h.imp λx S1 h=>by obtain⟨v,rfl,k⟩:=h;exact .of rfl k)
theorem zpf {f:Xv->Option Int->Option Int->Sto->Option (Xv×Sto)} {lo hi:TwO} (h:W (m ρ S) λx S1=>W (lo ρ S1) λu S2=>W (hi ρ S2) λv S3=>WO (f x u v S3) P):W (eSl f m lo hi ρ S) P:=
 W.bind (h.imp λ_ _ h=>W.bind (h.imp λ_ _ h=>W.bind (h.imp λ_ _ h=>W.okP h)))
theorem Yj {f:OpM} {ms:List TwE} (h:W (o ρ S) λx S1=>(∃l,zY S1 x=some l)/\W (evL ms ρ S1) λys S2=>WO (f x ys S2) P):W (eMt f o ms ρ S) P:=W.bind (h.imp λx S1 h=>by
 obtain⟨⟨l,e⟩,h⟩:=h;rw[e,rE]
 exact W.bind (h.imp λ_ _ h=>W.okP h))
theorem zjM (h:W (a ρ S) λx S1=>W (b ρ S1) λy S2=>∃n aj k z,zik S2 x=some (n,aj)/\zgo y=some k/\Ws aj k=some z/\P z S2):W (ze4 a b ρ S) P:=
 W.bind (h.imp λ_ _ h=>W.bind (h.imp λ_ _ h=>by obtain⟨n,aj,k,z,e1,e2,e3,q⟩:=h;rw[e1,e2];dsimp only;rw[e3];exact .of rfl q))
theorem zlr (h:W (a ρ S) λx S1=>W (b ρ S1) λy S2=>∃n aj k z,zdU S2 x=some (n,aj)/\zgo y=some k/\Ws aj k=some z/\P z S2):W (ze4 a b ρ S) P:=zjM (h.imp λ_ _ h=>h.imp λ_ _ ⟨n,aj,k,z,e,r⟩=>⟨n,aj,k,z,zln e,r⟩)
theorem zdW {neg:Bool} (h:W (a ρ S) λy S1=>W (b ρ S1) λx S2=>∃n aj k,zdU S2 x=some (n,aj)/\zgo y=some k/\P (.bl (neg !=(Ws aj k).isSome)) S2):W (zil neg a b ρ S) P:=
 W.bind (h.imp λ_ _ h=>W.bind (h.imp λ_ _ h=>by obtain⟨n,aj,k,e1,e2,q⟩:=h;rw[e1,e2];exact .of rfl q))
theorem zh (h:WS (s ρ S) (λρ1 S1=>WS (t ρ1 S1) N R) R):WS (zk s t ρ S) N R:=by
 unfold zk;rcases h with⟨ρ1,S1,e,h⟩|⟨x,S1,e,h⟩
 .rw[e];exact h
 .rw[e];exact .rt rfl h
theorem zq (h:N ρ S):WS (zx ρ S) N R:= .nx rfl h
theorem UO {g:TwG} (h:W (m ρ S) λd S1=>W (g d ρ S1) N):WS (zF m g ρ S) N R:=WS.bind (h.imp λ_ _ h=>WS.bind (h.imp λ_ _ k=> .nx rfl k))
theorem zbN (h:W (m ρ S) λd S1=>N (ρ.set i (some d)) S1):WS (zF m (gN i) ρ S) N R:=WS.bind (h.imp λ_ _ k=> .nx rfl k)
theorem zbO (h:W (m ρ S) λd S1=>W (a ρ S1) λx S2=>W (b ρ S2) λy S3=>∃n l q j,UM S3 x=some (n,l)/\y= .int q/\ixN l.length q=some j/\N ρ (S3.set n (.lst (l.set j d)))):WS (zF m (zbH a b) ρ S) N R:=
 WS.bind (h.imp λd S1 h=>WS.bind (W.bind (h.imp λx S2 h=>W.bind (h.imp λy S3 h=>by
  obtain⟨n,l,q,j,e1,rfl,e2,k⟩:=h;rw[e1];dsimp only;rw[e2]
  exact .of rfl (.nx rfl k)))))
theorem zls (h:W (m ρ S) λ_ S1=>N ρ S1):WS (yJ m ρ S) N R:=WS.bind (h.imp λ_ _ k=> .nx rfl k)
theorem YZ (h:W (m ρ S) λd S1=>R d S1):WS (zG m ρ S) N R:=WS.bind (h.imp λ_ _ k=> .rt rfl k)
theorem zo (h:W (c ρ S) λv S1=>(v=true->WS (s ρ S1) N R)/\(v=false->WS (t ρ S1) N R)):WS (sIf c s t ρ S) N R:=WS.bind (h.imp λv S1 k=>by
 cases v with
 |true=>rw[if_pos rfl];exact k.1 rfl
 |false=>rw[if_neg (by simp)];exact k.2 rfl)
theorem xm {r:Option Fl} (I:Rho->Sto->Prop) (h:WS r I R) (k:∀ρ S,I ρ S->N ρ S):WS r N R:=by
 rcases h with⟨ρ,S,e,h⟩|h
 .exact .inl ⟨ρ,S,e,k ρ S h⟩
 .exact .inr h
theorem zaW {n:Nat} (h:WS (Vr c s n ρ S) N R):WS (sWh n c s ρ S) N R:=h
theorem Xx {n:Nat} (h:W (c ρ S) λv S1=>(v=true->WS (s ρ S1) (λρ2 S2=>WS (Vr c s n ρ2 S2) N R) R)/\(v=false->N ρ S1)):WS (Vr c s (n+1) ρ S) N R:=by
 unfold Vr;refine WS.bind (h.imp λv S1 k=> ?_);cases v with
 |true=>
  rw[if_pos rfl];rcases k.1 rfl with⟨ρ2,S2,e2,h⟩|⟨x,S2,e2,h⟩
  .rw[e2];exact h
  .rw[e2];exact .rt rfl h
 |false=>exact .nx rfl (k.2 rfl)
theorem vw {n:TwI} {g:TwG} (h:W (n ρ S) λget S1=>∃xs,get S1=some xs/\WS (Vo get g s (xs.length+1) 0 ρ S1) N R):WS (Wp n g s ρ S) N R:=WS.bind (h.imp λget S1 h=>by
 obtain⟨xs,e,h⟩:=h;rw[e,rE]
 exact h)
theorem wG {get:Sto->Option (List Xv)} {g:TwG} {xs:List Xv} (J:Nat->Rho->Sto->Prop) (hg:∀i ρ S,i<=xs.length->J i ρ S->get S=some xs)
  (h:∀(i:Nat) (x:Xv) ρ S,xs[i]? =some x->J i ρ S->W (g x ρ S) λρ1 S1=>WS (s ρ1 S1) (λρ2 S2=>J (i+1) ρ2 S2) R) (h0:J 0 ρ S) (k:∀ρ S,J xs.length ρ S->N ρ S):WS (Vo get g s (xs.length+1) 0 ρ S) N R:=by
 have aux:∀(n i:Nat) (ρ:Rho) (S:Sto),i+n=xs.length->J i ρ S->WS (Vo get g s (n+1) i ρ S) N R:=by
  intro n
  induction n with
  |zero=>
   intro i ρ S e hj;unfold Vo;rw[hg i ρ S ⋯ hj,rE,sy ⋯];dsimp only;rw[if_pos ⋯];exact .nx rfl (k ρ S (by rw[show xs.length=i by omega];exact hj))
  |succ n ih=>
   intro i ρ S e hj;unfold Vo;have hi:i<xs.length:=by omega
   rw[hg i ρ S ⋯ hj,rE,r9 hi];refine WS.bind ((h i _ ρ S (r9 hi) hj).imp λρ1 S1 h1=> ?_);rcases h1 with⟨ρ2,S2,e2,h2⟩|⟨x,S2,e2,h2⟩
   .rw[e2];exact ih (i+1) ρ2 S2 ⋯ h2
   .rw[e2];exact .rt rfl h2
 exact aux xs.length 0 ρ S ⋯ h0
theorem zjN (h:W (m ρ S) λx S1=>∃l,zY S1 x=some l/\Q' (λS=>zY S x) S1):W (iL m ρ S) Q':=W.bind (h.imp λx S1 h=>by
 obtain⟨l,e,k⟩:=h;rw[e]
 exact .of rfl k)
theorem zdn {Q':(Sto->Option (List Xv))->Sto->Prop} (h:W (m ρ S) λx S1=>∃l,x.tupOf=some l/\Q' (λ_=>some l) S1):W (iT m ρ S) Q':=W.bind (h.imp λx S1 h=>by
 obtain⟨l,e,k⟩:=h;rw[e]
 exact .of rfl k)
theorem zbP {Q':(Sto->Option (List Xv))->Sto->Prop} (h:W (m ρ S) λx S1=>∃k:Int,x= .int k/\(-(2^62)<=k/\k<2^62)/\Q' (λ_=>some (YY 0 k.toNat)) S1):W (iR1 m ρ S) Q':=W.bind (h.imp λx S1 h=>by
 obtain⟨k,rfl,hk,q⟩:=h;dsimp only;rw[if_pos hk]
 exact .of rfl q)
theorem Wt {lo:Int} {n i:Nat} {x:Xv} (h:(YY lo n)[i]? =some x):i<n/\x= .int (lo+i):=by
 unfold YY at h;rw[rq] at h;have hi:i<n:=by
  apply y4;intro hn;rw[sy (by simp;omega)] at h;cases h
 rw[tZ hi] at h;cases h;exact⟨hi,rfl⟩
theorem Zw {lo:Int} {n:Nat}:(YY lo n).length=n:=by simp[YY]
theorem zdX {cap:List (Option Nat)} {n:TwI} {g:TwG} (h:W (n ρ S) λget S1=>∃xs,get S1=some xs/\W (XR get g c m (zdR cap ρ) (xs.length+1) 0 [] S1) P):W (xQ cap n g c m ρ S) P:=W.bind (h.imp λget S1 h=>by
 obtain⟨xs,e,h⟩:=h;rw[e,rE]
 exact h)
theorem zbQ {get:Sto->Option (List Xv)} {g:TwG} {ρc:Rho} {xs:List Xv} (hl:xs.length<=sizeLine) (J:Nat->List Xv->Sto->Prop) (hg:∀i es S,i<=xs.length->J i es S->get S=some xs)
  (h:∀(i:Nat) (x:Xv) es S,xs[i]? =some x->es.length=i->J i es S->W (g x ρc S) λρ1 S1=>W (c ρ1 S1) λb S2=>b=true/\W (m ρ1 S2) λy S3=>J (i+1) (es++[y]) S3) (h0:J 0 [] S)
  (k:∀es S,es.length=xs.length->J xs.length es S->P (.ref S.length) (S++[.lst es])):W (XR get g c m ρc (xs.length+1) 0 [] S) P:=by
 have aux:∀(n i:Nat) (es:List Xv) (S:Sto),i+n=xs.length->es.length=i->J i es S->W (XR get g c m ρc (n+1) i es S) P:=by
  intro n
  induction n with
  |zero=>
   intro i es S e el hj;unfold XR;rw[hg i es S ⋯ hj,rE,sy ⋯];dsimp only;rw[if_pos ⋯];exact .of rfl (k es S ⋯ (by rw[show xs.length=i by omega];exact hj))
  |succ n ih=>
   intro i es S e el hj;unfold XR;have hi:i<xs.length:=by omega
   rw[hg i es S ⋯ hj,rE,r9 hi];obtain⟨ρ1,S1,e1,b,S2,e2,rfl,y,S3,e3,q⟩:=h i _ es S (r9 hi) el hj;dsimp only[rn];rw[e1];dsimp only[rn];rw[e2];dsimp only[rn];rw[if_pos rfl,e3];dsimp only[rn];rw[if_pos ⋯];exact ih (i+1) (es++[y]) S3 ⋯ (by simp[el]) q
 exact aux xs.length 0 [] S ⋯ rfl h0
theorem zlt (k:PB true S):W (xR ρ S) PB:= .of rfl k
theorem VF {n k:Nat} {xs:List Xv} {ρ0:Rho} (hn:xs.length=n) (h0:xs.map some++sN k none=ρ0) (h:WS (s ρ0 S) (λ_ S1=>P .non S1) P):W (zK n k s xs S) P:=by
 unfold zK;rw[if_pos hn,h0];rcases h with⟨ρ,S1,e,h⟩|⟨x,S1,e,h⟩
 .rw[e];exact .of rfl h
 .rw[e];exact .of rfl h
variable {p q:Int}
theorem znD (k:P (.int (p+q)) S):WO (xj (.int p) (.int q) S) P:= .of rfl k
theorem znE (k:P (.int (p-q)) S):WO (zeW (.int p) (.int q) S) P:= .of rfl k
theorem znF (k:P (.int (-p)) S):WO (zbK (.int p) S) P:= .of rfl k
theorem zpg (k:P (.bl (decide (p<q))) S):WO (dLt (.int p) (.int q) S) P:= .of rfl k
theorem zph (k:P (.bl (decide (p<=q))) S):WO (dLe (.int p) (.int q) S) P:= .of rfl k
theorem zpi (k:P (.bl (decide (q<p))) S):WO (dGt (.int p) (.int q) S) P:= .of rfl k
theorem znG (k:P (.bl (decide (p=q))) S):WO (wQ (.int p) (.int q) S) P:= .of rfl k
theorem znH (k:P (.bl (!decide (p=q))) S):WO (zdS (.int p) (.int q) S) P:= .of rfl k
theorem WK (h:0<q) (k:P (.int (p % q)) S):WO (zaw (.int p) (.int q) S) P:= .of (by unfold zaw xIC;exact if_pos (by simpa using h)) k
theorem WL (h:intBits p+intBits q<=134217728) (k:P (.int (p*q)) S):WO (Wq (.int p) (.int q) S) P:= .of (by unfold Wq xIC;exact if_pos (by simpa using h)) k
theorem znI (h:(-(2^64)<p/\p<2^64)\/(-(2^64)<q/\q<2^64)) (k:P (.int (p*q)) S):WO (zlj (.int p) (.int q) S) P:= .of (by unfold zlj xIC;exact if_pos (decide_eq_true h)) k
theorem znJ (h:0<=q/\q<=1000000/\p.natAbs<2^64) (k:P (.int (p^q.toNat)) S):WO (zgj (.int p) (.int q) S) P:= .of (by unfold zgj xIC;exact if_pos (decide_eq_true h)) k
theorem znK (k:P (.int (if q<p then q else p)) S):WO (zns [.int p,.int q] S) P:= .of rfl k
theorem znL (k:P (.int (if q>p then q else p)) S):WO (zgl [.int p,.int q] S) P:= .of rfl k
theorem xw {l:List Xv} (h:zY S x=some l) (k:P (.int l.length) S):WO (ww [x] S) P:= .of (by
 unfold ww Xu;dsimp only;have:x.tupOf=none:=by cases x<;>first|rfl|cases h
 rw[this];dsimp only;rw[h]
 rfl) k
theorem xx {l:List Xv} {z:Xv} (h:zY S x=some l) (e:atI l p=some z) (k:P z S):WO (Ye x (.int p) S) P:= .of (by unfold Ye;rw[h];dsimp only;rw[e];rfl) k
theorem xn {l:List Xv} {z:Xv} (h:x.tupOf=some l) (e:atI l p=some z) (k:P z S):WO (zM x (.int p) S) P:= .of (by unfold zM;rw[h];dsimp only;rw[e];rfl) k
theorem zpj {β:Type} {x:β} {l:List β}:atI (x::l) 0=some x:=by
 unfold atI ixN;rw[if_pos (show (0:Int)<=0 by decide),if_pos (by simp only[rl];omega)];rfl
theorem zpk {β:Type} {x y:β} {l:List β}:atI (x::y::l) 1=some y:=by
 unfold atI ixN;rw[if_pos (show (0:Int)<=1 by decide),if_pos (by simp only[rl];omega)];rfl
theorem znM {l:List Xv} (k:P x S):WO (zM (.tup (x::l)) (.int 0) S) P:=xn rfl zpj k
theorem znN {l:List Xv} (k:P y S):WO (zM (.tup (x::y::l)) (.int 1) S) P:=xn rfl zpk k
theorem Zx {β:Type} {l:List β} {k:Int} {z:β} (h0:0<=k) (h:l[k.toNat]? =some z):atI l k=some z:=by
 have hk:=(rg.1 h).1;unfold atI ixN;rw[if_pos h0,if_pos ⋯];exact h
theorem xk {n:Nat} {l:List Xv} (h:UM S x=some (n,l)) (hz:l.length<sizeLine) (k:P .non (S.set n (.lst (l++[y])))):WO (yg x [y] S) P:= .of (by unfold yg;rw[h];dsimp only;rw[if_pos hz]) k
theorem zaA {l:List Xv} {lo hi:Option Int} (h:zY S x=some l) (k:P (.ref S.length) (S++[.lst (WJ l lo hi)])):WO (Wo x lo hi S) P:= .of (by unfold Wo;rw[h];rfl) k
theorem VG {neg:Bool} {l:List Xv} (h:Xu S y=some l) (hf:(UB x&&l.all UB)=true) (k:P (.bl (neg !=l.any λz=>zcx z x)) S):WO (dIn neg x y S) P:= .of (by unfold dIn;rw[h,rE,if_pos hf]) k
theorem zbR {c:String} {v:Bool} (h:zjJ c S x=some v) (k:P (.bl v) S):WO (ze2 c x S) P:= .of (by unfold ze2;rw[h];rfl) k
end
theorem yN {S:Sto} {n:Nat} {l:List Xv} (h:S[n]? =some (.lst l)):UM S (.ref n)=some (n,l):=by simp[UM,h]
theorem zm {S:Sto} {n:Nat} {l:List Xv} (h:S[n]? =some (.lst l)):zY S (.ref n)=some l:=by simp[zY,h]
theorem Tq {S:Sto} {n:Nat} {l:List (Key×Xv)} (h:S[n]? =some (.dk l)):zdU S (.ref n)=some (n,l):=by simp[zdU,h]
end L2
namespace L2
open PySem PySem.Spec PyProof.Rows PySem.Calls
section
variable {X:Cx}
end
section
variable {K:r6} {E:XK}
noncomputable def UP (p q:Int->Int->Bool) (a b c:TwE):TwE:=λρ S=>rb (a ρ S) λx S1=>rb (b ρ S1) λy S2=>match x,y with
 | .int i,.int j=>if p i j then rb (c ρ S2) λz S3=>match z with
   | .int k=>some (.ok (.bl (q j k)) S3)
   |_=>none
  else some (.ok (.bl false) S2)
 |_,_=>none
theorem zjO {p q:Int->Int->Bool} {ta tb tc:TE} {a b c:TwE} (ha:RE K E ta a) (hb:RE K E tb b) (hc:RE K E tc c):RE K E (zfS (rI0 λi j=> .bl (p i j)) (rI0 λi j=> .bl (q i j)) ta tb tc) (UP p q a b c):=by
 intro F j σ H ρ S r Q En0 e k;rcases zv e with⟨x,S1,e1,e⟩|⟨c,S1,e1,rfl⟩
 .refine ha En0 e1 λj1 H1 X1 E1 u hu=> ?_;rcases zv e with⟨y,S2,e2,e⟩|⟨c,S2,e2,rfl⟩
  .have mH:∃i l,x= .int i/\y= .int l:=by
    cases x<;>cases y<;>first|exact⟨_,_,rfl,rfl⟩|(cases e;done)
   obtain⟨i,l,rfl,rfl⟩:=mH;dsimp only at e;refine hb E1 e2 λj2 H2 X2 E2 v hv=>⟨i,l,hu.int_inv,hv.int_inv,p i l,rfl,?_⟩;by_cases hp:p i l=true
   .rw[if_pos hp] at e ⊢;rcases zv e with⟨z,S3,e3,e⟩|⟨c,S3,e3,rfl⟩
    .have hk:∃m,z= .int m:=by
      cases z<;>first|exact⟨_,rfl⟩|(cases e;done)
     obtain⟨m,rfl⟩:=hk;cases e;exact hc E2 e3 λj3 H3 X3 E3 w hw=>⟨l,m,hv.int_inv,hw.int_inv,k _ _ (X1.trans (X2.trans X3)) E3 _ (.bl _)⟩
    .exact hc E2 e3 (PX.mono k (X1.trans X2))
   .rw[if_neg hp] at e ⊢;cases e;exact k _ _ (X1.trans X2) E2 _ (.bl _)
  .exact hb E1 e2 (PX.mono k X1)
 .exact ha En0 e1 k
theorem Ts {ρ:Rho} {S:Sto} {P:Xv->Sto->Prop} {p q:Int->Int->Bool} {a b c:TwE} (h:W (a ρ S) λx S1=>∃i,x= .int i/\W (b ρ S1) λy S2=>∃j,y= .int j/\(p i j=true->W (c ρ S2) λz S3=>∃k,z= .int k/\P (.bl (q j k)) S3)/\(p i j=false->P (.bl false) S2)):W (UP p q a b c ρ S) P:=W.bind (h.imp λx S1 h=>by
 obtain⟨i,rfl,h⟩:=h;refine W.bind (h.imp λy S2 h=> ?_);obtain⟨j,rfl,h1,h2⟩:=h;dsimp only;cases hp:p i j with
 |true=>
  rw[if_pos rfl];exact W.bind ((h1 hp).imp λz S3 h=>by obtain⟨k,rfl,q⟩:=h;exact .of rfl q)
 |false=>
  rw[if_neg (by simp)]
  exact .of rfl (h2 hp))
end
noncomputable def zaB (f:D->D->Option Bool):List D->List D->Option Bool
 |a::l,b::m=>(f a b).bind λx=>(zaB f l m).map (x&& ·)
 |_,_=>some true
theorem Uj {f:D->D->Option Bool}:∀{l m:List D} {b:Bool},zaB f l m=some b->∃e:Nat->Bool,(∀(j:Nat) a c,l[j]? =some a->m[j]? =some c->f a c=some (e j))/\b=(rY (min l.length m.length)).all e
 |[],m,b,h=>by
  unfold zaB at h;cases h;exact⟨λ_=>true,λj a c ha=>by simp at ha,by simp⟩
 |a::l,[],b,h=>by
  unfold zaB at h;cases h;exact⟨λ_=>true,λj a c ha hc=>by simp at hc,by simp⟩
 |a::l,c::m,b,h=>by
  unfold zaB at h;cases e1:f a c with
  |none=>rw[e1] at h;cases h
  |some x=>
   rw[e1,rE] at h;cases e2:zaB f l m with
   |none=>rw[e2] at h;cases h
   |some y=>
    rw[e2] at h;cases h;obtain⟨e,k,rfl⟩:=Uj e2
    refine⟨λj=>match j with
     |0=>x
     |j+1=>e j,λj p q hp hq=> ?_,?_⟩
    .cases j with
     |zero=>simp at hp hq;subst hp hq;exact e1
     |succ j=>exact k j p q (by simpa using hp) (by simpa using hq)
    .rw[rl,rl,Nat.succ_min_succ,List.range_succ_eq_map,tH,Bp];rfl
noncomputable def eqG:Nat->D->D->Option Bool
 |0,d,e=>match d,e with
  | .non,.non=>some true
  | .bl a,.bl b=>some (a==b)
  | .int a,.int b=>some (a==b)
  | .str a,.str b=>some (a==b)
  |_,_=>none
 |n+1,d,e=>match d,e with
  | .non,.non=>some true
  | .bl a,.bl b=>some (a==b)
  | .int a,.int b=>some (a==b)
  | .str a,.str b=>some (a==b)
  | .tup l,.tup m=>(zaB (eqG n) l m).map (· &&(l.length==m.length))
  | .lst l,.lst m=>if l.length=m.length then zaB (eqG n) l m else some false
  |_,_=>none
section
variable {X:Cx} {pins:List (Addr×Obj)} {σ:St} {H:Hp} {s:Shared}
theorem vE {n:Nat} {e:Nat->Bool} (h:∀j,j<n->e j=true):(rY n).all e=true:=sr.2 λj hj=>h j (uX.1 hj)
theorem zjP (I:Inv X pins σ H s):∀(n:Nat) {d e:D} {x:V} {b:Bool},eqG n d e=some b->Is X.K H x d->Is X.K H x e->b=true:=by
 intro n
 induction n with
 |zero=>
  intro d e x b h hx hy;unfold eqG at h;split at h
  .cases h;rfl
  .rw[hx.bl_inv] at hy;cases hy;cases h;simp
  .rw[hx.int_inv] at hy;cases hy;cases h;simp
  .rw[hx.str_inv] at hy;cases hy;cases h;simp
  .cases h
 |succ n ih=>
  intro d e x b h hx hy;unfold eqG at h;have items:∀{xs:List V} {l m:List D} {b:Bool},zaB (eqG n) l m=some b->IsL X.K H xs l->IsL X.K H xs m->b=true:=λ{xs l m b} ha hl hm=>by
   obtain⟨e,k,rfl⟩:=Uj ha;refine vE λj hj=> ?_;have h1:j<l.length:=by omega
   have h2:j<m.length:=by omega
   obtain⟨x,jg,jf⟩:=hl.get (r9 h1);obtain⟨y,kY,lY⟩:=hm.get (r9 h2);rw[jg] at kY;cases kY;exact ih (k j _ _ (r9 h1) (r9 h2)) jf lY
  split at h
  .cases h;rfl
  .rw[hx.bl_inv] at hy;cases hy;cases h;simp
  .rw[hx.int_inv] at hy;cases hy;cases h;simp
  .rw[hx.str_inv] at hy;cases hy;cases h;simp
  .rename_i l m;cases ha:zaB (eqG n) l m with
   |none=>rw[ha] at h;cases h
   |some b'=>
    rw[ha] at h;cases h;obtain⟨a,xs,rfl,h1,h2⟩:=hx.tup_inv;obtain⟨a',ys,e,g1,g2⟩:=hy.tup_inv;cases e;obtain rfl:=I.tuple_inj h1 g1;rw[items ha h2 g2];have e3:=h2.len;have e4:=g2.len;simp;omega
  .rename_i l m;obtain⟨a,xs,rfl,h1,h2⟩:=hx.lst_inv;obtain⟨a',ys,e,g1,g2⟩:=hy.lst_inv;cases e;obtain rfl:=I.list_inj h1 g1;have e3:=h2.len;have e4:=g2.len;rw[if_pos ⋯] at h;exact items h h2 g2
  .cases h
theorem Uk {A:Around} {xs ys:List V} {af bP:List Value} {l m:List D} {e:Nat->Bool} (rx:yf xs af) (ry:yf ys bP) (hx:IsL X.K H xs l) (hy:IsL X.K H ys m)
  (k:∀{x y:V} {u v:Value} {d d':D} {j:Nat},l[j]? =some d->m[j]? =some d'->Is X.K H x d->Is X.K H y d'->yr x u->yr y v->SeqAt.EqAt A.in1 s u v (e j)):
  ∀j (h1:j<af.toArray.size) (h2:j<bP.toArray.size),SeqAt.EqAt A.in1 s af.toArray[j] bP.toArray[j] (e j):=by
 intro j h1 h2;have e1:j<xs.length:=by rw[rx.length];simpa using h1
 have e2:j<ys.length:=by rw[ry.length];simpa using h2
 have el:j<l.length:=by rw[<-hx.len];exact e1
 have em:j<m.length:=by rw[<-hy.len];exact e2
 obtain⟨x,jg,jf⟩:=hx.get (i:=j) (d:=l[j]) (r9 el);obtain⟨y,kY,lY⟩:=hy.get (i:=j) (d:=m[j]) (r9 em);obtain⟨u,hu,ru⟩:=rx.get jg;obtain⟨v,hv,rv⟩:=ry.get kY;have g1:af.toArray[j]=u:=by
  have:af[j]? =some af[j]:=r9 (by simpa using h1);rw[hu] at this;simpa using (su this).symm
 have g2:bP.toArray[j]=v:=by
  have:bP[j]? =some bP[j]:=r9 (by simpa using h2);rw[hv] at this;simpa using (su this).symm
 rw[g1,g2];exact k (r9 el) (r9 em) jf lY ru rv
theorem ze5 (I:Inv X pins σ H s):∀(n:Nat) {A:Around} {d d':D} {x y:V} {u v:Value} {b:Bool},eqG n d d'=some b->A.units+n<cLine->Is X.K H x d->Is X.K H y d'->yr x u->yr y v->SeqAt.EqAt A s u v b:=by
 intro n
 induction n with
 |zero=>
  intro A d d' x y u v b h hu hx hy ru rv;unfold eqG at h;split at h
  .cases h;rw[hx.non_inv] at ru;rw[hy.non_inv] at rv;cases ru;cases rv;exact SeqAt.EqAt.same _
  .cases h;rw[hx.bl_inv] at ru;rw[hy.bl_inv] at rv;cases ru;cases rv;exact SeqAt.EqAt.bool_bool _ _
  .cases h;rw[hx.int_inv] at ru;rw[hy.int_inv] at rv;obtain⟨t,rfl⟩:=ru;obtain⟨t',rfl⟩:=rv;exact SeqAt.EqAt.int_int _ _ _ _
  .cases h;rw[hx.str_inv] at ru;rw[hy.str_inv] at rv;obtain⟨t,rfl⟩:=ru;obtain⟨t',rfl⟩:=rv;exact SeqAt.EqAt.str_str _ _ _ _
  .cases h
 |succ n ih=>
  intro A d d' x y u v b h hu hx hy ru rv;have iV:=λ(e:x=y)=>zjP I (n+1) h hx (e ▸ hy);unfold eqG at h;split at h
  .cases h;rw[hx.non_inv] at ru;rw[hy.non_inv] at rv;cases ru;cases rv;exact SeqAt.EqAt.same _
  .cases h;rw[hx.bl_inv] at ru;rw[hy.bl_inv] at rv;cases ru;cases rv;exact SeqAt.EqAt.bool_bool _ _
  .cases h;rw[hx.int_inv] at ru;rw[hy.int_inv] at rv;obtain⟨t,rfl⟩:=ru;obtain⟨t',rfl⟩:=rv;exact SeqAt.EqAt.int_int _ _ _ _
  .cases h;rw[hx.str_inv] at ru;rw[hy.str_inv] at rv;obtain⟨t,rfl⟩:=ru;obtain⟨t',rfl⟩:=rv;exact SeqAt.EqAt.str_str _ _ _ _
  .rename_i l m;cases ha:zaB (eqG n) l m with
   |none=>rw[ha] at h;cases h
   |some b'=>
    rw[ha] at h;cases h;obtain⟨e,k,rfl⟩:=Uj ha;obtain⟨a,xs,rfl,h1,h2⟩:=hx.tup_inv;obtain⟨a',ys,rfl,g1,g2⟩:=hy.tup_inv;cases ru;cases rv;by_cases j9:a=a'
    .subst j9;rw[iV rfl];exact SeqAt.EqAt.same _
    .obtain⟨af,r1,p1,_⟩:=I.tuple h1;obtain⟨bP,r2,p2,_⟩:=I.tuple g1;refine SeqAt.EqAt.of_refs j9 ?_;have:=SeqAt.RcAt.tuples (A:=A) (e:=e) p1 p2 ⋯ (Uk r1 r2 h2 g2 λhi hj hx hy ru rv=>ih (A:=A.in1) (k _ _ _ hi hj) (by show A.units+1+n<cLine;omega) hx hy ru rv);have s1:af.toArray.size=l.length:=by have e1:=r1.length;have e3:=h2.len;simp;omega
     have s2:bP.toArray.size=m.length:=by have e1:=r2.length;have e3:=g2.len;simp;omega
     rwa [s1,s2] at this
  .rename_i l m;obtain⟨a,xs,rfl,h1,h2⟩:=hx.lst_inv;obtain⟨a',ys,rfl,g1,g2⟩:=hy.lst_inv;cases ru;cases rv;by_cases j9:a=a'
   .subst j9;rw[iV rfl];exact SeqAt.EqAt.same _
   .obtain⟨af,r1,p1,_⟩:=I.list h1;obtain⟨bP,r2,p2,_⟩:=I.list g1;have s1:af.toArray.size=l.length:=by have e1:=r1.length;have e3:=h2.len;simp;omega
    have s2:bP.toArray.size=m.length:=by have e1:=r2.length;have e3:=g2.len;simp;omega
    refine SeqAt.EqAt.of_refs j9 ?_;split at h
    .rename_i ko;obtain⟨e,k,rfl⟩:=Uj h;have:=SeqAt.RcAt.lists (A:=A) (e:=e) p1.isList p2.isList ⋯ ⋯ (Uk r1 r2 h2 g2 λhi hj hx hy ru rv=>ih (A:=A.in1) (k _ _ _ hi hj) (by show A.units+1+n<cLine;omega) hx hy ru rv);rw[s1] at this;rwa [show min l.length m.length=l.length by omega]
    .rename_i ko;cases h;exact SeqAt.RcAt.lists_lengths p1.isList p2.isList (by rw[s1,s2];simpa using ko) ⋯
  .cases h
def zpl (K:r6) (neg:Bool):R2:=λx y H Q=>∃(d e:D) (b:Bool),(∃l m,(d= .tup l/\e= .tup m)\/(d= .lst l/\e= .lst m))/\Is K H x d/\Is K H y e/\eqG 40 d e=some b/\Q (.bl (neg !=b)) H
theorem znO {k:Nat} {K:r6} (hr:Zs k X.A) (hK:X.K=K:=by rfl):OpR X (compareOp .NotEq) (zpl K true):=by
 subst hK;intro pins s σ H x y v u Q I rx ry h;obtain⟨d,e,b,⟨l,m,hd⟩,hx,hy,hb,q⟩:=h;have hu:X.A.units+41<cLine:=sx ⋯ hr.units;rw[show (true !=b)= !b by cases b<;>rfl] at q;unfold eqG at hb;rcases hd with⟨rfl,rfl⟩|⟨rfl,rfl⟩
 .dsimp only at hb;cases ha:zaB (eqG 39) l m with
  |none=>rw[ha] at hb;cases hb
  |some b'=>
   rw[ha] at hb;cases hb;obtain⟨e,k,rfl⟩:=Uj ha;obtain⟨a,xs,rfl,h1,h2⟩:=hx.tup_inv;obtain⟨a',ys,rfl,g1,g2⟩:=hy.tup_inv;cases rx;cases ry;obtain⟨af,r1,p1,_⟩:=I.tuple h1;obtain⟨bP,r2,p2,_⟩:=I.tuple g1;have s1:af.toArray.size=l.length:=by have e1:=r1.length;have e3:=h2.len;simp;omega
   have s2:bP.toArray.size=m.length:=by have e1:=r2.length;have e3:=g2.len;simp;omega
   refine SeqAt.RcNeAt.tuples (e:=e) p1 p2 ⋯ (Uk r1 r2 h2 g2 λhi hj hx hy ru rv=>ze5 I 39 (A:=X.A.in1) (k _ _ _ hi hj) (by show X.A.units+1+39<cLine;omega) hx hy ru rv) _ _ _ _ ?_;rw[s1,s2];exact⟨.bl _,H,I,rfl,q⟩
 .dsimp only at hb;obtain⟨a,xs,rfl,h1,h2⟩:=hx.lst_inv;obtain⟨a',ys,rfl,g1,g2⟩:=hy.lst_inv;cases rx;cases ry;obtain⟨af,r1,p1,_⟩:=I.list h1;obtain⟨bP,r2,p2,_⟩:=I.list g1;have s1:af.toArray.size=l.length:=by have e1:=r1.length;have e3:=h2.len;simp;omega
  have s2:bP.toArray.size=m.length:=by have e1:=r2.length;have e3:=g2.len;simp;omega
  split at hb
  .rename_i ko;obtain⟨e,k,rfl⟩:=Uj hb;refine SeqAt.RcNeAt.lists (e:=e) p1.isList p2.isList ⋯ ⋯ (Uk r1 r2 h2 g2 λhi hj hx hy ru rv=>ze5 I 39 (A:=X.A.in1) (k _ _ _ hi hj) (by show X.A.units+1+39<cLine;omega) hx hy ru rv) _ _ _ _ ?_;rw[show min l.length m.length=l.length by omega] at q;rw[s1];exact⟨.bl _,H,I,rfl,q⟩
  .rename_i ko;cases hb;refine SeqAt.RcNeAt.lists_lengths p1.isList p2.isList (by rw[s1,s2];simpa using ko) ⋯ _ _ _ _ ?_;exact⟨.bl true,H,I,rfl,q⟩
end
end L2
namespace L2
open PySem PySem.Spec PyProof.Rows PySem.Calls PySem.W
section
variable {cmp:Nat->Nat->(Bool->Shared->Prop)->Shared->Prop} {r:Nat->Int} {n:Nat} {s:Shared}
end
section
variable {prog:Program} {w:World} {A:Around} {E:Value->Shared->Prop} {s:Shared}
end
open PySem.AutoSeq1 (wpAny_loadPart')
open PySem.MeetsSeq PySem.MeetsSeq2 PySem.MeetsSeq3
section
variable {prog:Program} {w:World} {A:Around} {E:Value->Shared->Prop} {s:Shared}
end
section
variable {X:Cx}
end
end L2
namespace L2
open PySem PySem.Spec PyProof.Rows PySem.Calls PySem.W
section
variable {X:Cx} {pins:List (Addr×Obj)} {σ:St} {H:Hp} {s:Shared} {a:Addr} {d:V} {u r:Value} {A:Around} {E:Value->Shared->Prop} {aj:List (Key×V)} {k:Key}
end
section
variable {X:Cx} {o e f:Expr} {apos cH:Pos} {td ty tx:TE}
end
open PySem.AutoSeq1 (wpAny_loadPart')
section
variable {prog:Program} {w:World} {A:Around} {E:Value->Shared->Prop} {s:Shared}
end
section
variable {X:Cx}
end
end L2
namespace L2
open PySem PySem.Spec PyProof.Rows PySem.Calls PySem.W
section
variable {prog:Program} {w:World} {A:Around} {E:Value->Shared->Prop} {s:Shared}
end
section
variable {X:Cx}
end
open PySem.AutoSeq1 (wpAny_loadPart')
section
variable {prog:Program} {w:World} {A:Around} {E:Value->Shared->Prop} {s:Shared}
end
section
variable {X:Cx}
end
end L2
namespace L2
open PySem PySem.Spec PyProof.Rows PySem.Calls
mutual
inductive zjQ (h:Heap):NK->Value->Prop where
 |int (i:Int) (t:Tok):zjQ h (.int i) (.int i t)
 |str (x:Str) (t:Tok):zjQ h (.str x) (.str x t)
 |tup {a:Addr} {o:Obj} {items:Array Value} {n:Nat} {l:List NK}:h.get? a=some o->o.cls= .type "tuple"->o.data= .seq items n->zhq h l items.toList->zjQ h (.tup l) (.ref a)
inductive zhq (h:Heap):List NK->List Value->Prop where
 |nil:zhq h [] []
 |cons {k:NK} {v:Value} {ks:List NK} {vs:List Value}:zjQ h k v->zhq h ks vs->zhq h (k::ks) (v::vs)
end
section
variable {h h':Heap}
end
section
variable {prog:Program} {w:World} {E:Value->Shared->Prop}
end
mutual
inductive NIs (K:r6) (H:Hp):V->NK->Prop where
 |int (i:Int):NIs K H (.int i) (.int i)
 |str (x:Str):NIs K H (.str x) (.str x)
 |tup {a:Addr} {vs:List V} {l:List NK}:SqT K H a vs->zlu K H vs l->NIs K H (.ref a) (.tup l)
inductive zlu (K:r6) (H:Hp):List V->List NK->Prop where
 |nil:zlu K H [] []
 |cons {v:V} {k:NK} {vs:List V} {ks:List NK}:NIs K H v k->zlu K H vs ks->zlu K H (v::vs) (k::ks)
end
section
variable {X:Cx} {pins:List (Addr×Obj)} {σ:St} {H:Hp} {s:Shared}
end
noncomputable abbrev PN:List (NK×Addr×V)->List (NK×Addr×Value)->Prop:=Paired λ(p:NK×Addr×V) (q:NK×Addr×Value)=>p.1=q.1/\p.2.1=q.2.1/\yr p.2.2 q.2.2
section
variable {X:Cx} {pins:List (Addr×Obj)} {σ:St} {H:Hp} {s:Shared} {a:Addr}
end
section
variable {X:Cx} {pins:List (Addr×Obj)} {σ:St} {H:Hp} {s:Shared} {a:Addr} {y v d:V} {u r:Value} {o:Option V} {A:Around} {E:Value->Shared->Prop}
end
section
variable {X:Cx} {o i e f value:Expr} {pos pos' ja apos cH:Pos} {td ty tv tx:TE} {K:r6} {r:Nat}
end
end L2
namespace L2
open PySem PySem.Spec PyProof.Rows PySem.Calls PySem.W
section
variable {prog:Program} {w:World} {A:Around} {E:Value->Shared->Prop} {s:Shared} {d it:Addr} {es:Array DictEntry} {ep i:Nat}
end
noncomputable def ltL:List Int->List Int->Bool
 |[],[]=>false
 |[],_::_=>true
 |_::_,[]=>false
 |a::x,b::y=>if a=b then ltL x y else decide (a<b)
section
variable {prog:Program} {w:World} {A:Around} {E:Value->Shared->Prop} {s:Shared}
end
section
variable {prog:Program} {w:World} {A:Around} {E:Value->Shared->Prop} {s:Shared} {T:String} {r d:Addr} {n:Nat} {P:Nat->Value->Prop} {OK:Heap->Prop} {Q:Value->Shared->Prop}
end
section
variable {X:Cx}
end
end L2
namespace L2
open PySem PySem.Spec PyProof.Rows PySem.Calls
open AutoSeq1 (wpAny_loadPart')
section
variable {prog:Program} {w:World} {A:Around} {E:Value->Shared->Prop} {s:Shared} {it t:Addr} {af:Array Value}
end
section
variable {X:Cx}
end
end L2
namespace L2
open PySem PySem.Spec PyProof.Rows
section
variable {X:Cx}
end
end L2
namespace L2
open PySem PySem.Spec PyProof.Rows PySem.Calls PySem.W
section
variable {cmp:Nat->Nat->(Bool->Shared->Prop)->Shared->Prop} {r:Nat->Int} {n:Nat} {s:Shared}
end
section
variable {prog:Program} {w:World} {A:Around} {E:Value->Shared->Prop} {κ:SortKind} {it:Array Keyed} {s:Shared}
end
section
variable {X:Cx} {pins:List (Addr×Obj)} {σ:St} {H:Hp} {s:Shared} {h':Heap}
end
def zpm (is:List (List Int)):Prop:=(2<=is.length->∀l∈is,l≠[])/\∀i j,i<j->j<is.length->ltL (is.getD j []) (is.getD i [])=true
section
variable {X:Cx} {k:Nat} {f:Addr} {fd:FuncData} {ps:List Str} {sp:Sp} {pins:List (Addr×Obj)} {σ:St} {H:Hp} {s:Shared}
end
section
variable {X:Cx}
end
end L2
namespace L2
open PySem PySem.Spec PyProof.Rows
namespace Sm
noncomputable def inB (b j:Nat):Bool:=b.testBit j
noncomputable def plL (b:Nat):List Nat:=(rY 8).filter (inB b)
noncomputable def pl (b:Nat):Array Nat:=(plL b).toArray
noncomputable def st (h:Int):Nat->Nat×Nat
 |0=>(SetTable.bits h % 8,SetTable.bits h)
 |n+1=>SetTable.leap 7 (st h n).1 (st h n).2
noncomputable def pos (h:Int) (n:Nat):Nat:=(st h n).1
noncomputable def mkP (s:Nat×Nat):SetTable.Probe:={j:=s.1,more:=0,i:=s.1,perturb:=s.2,dummy:=none}
structure Tb (t:SetTable) (b:Nat):Prop where
 mask:t.mask=7
 place:t.place=pl b
 qY:t.dummies= #[]
noncomputable def ix (b j:Nat):Nat:=((rY j).filter (inB b)).length
inductive zmt (f:Nat->Int) (b:Nat) (x:Int) (n:Nat):SetTable.Met->Prop
 |empty (m:Nat):n<=m->inB b (pos x m)=false->(∀k,n<=k->k<m->inB b (pos x k)=true/\f (pos x k)≠x)->zmt f b x n (.empty (pos x m) none)
 |qt (m:Nat):n<=m->inB b (pos x m)=true->f (pos x m)=x->(∀k,n<=k->k<m->inB b (pos x k)=true/\f (pos x k)≠x)->zmt f b x n (.candidate (pos x m) (ix b (pos x m)) (mkP (st x (m+1))))
def zpn (b:Nat) (f:Nat->Int):Prop:=∀j<8,inB b j=true->∃n,pos (f j) n=j/\∀m,m<n->inB b (pos (f j) m)=true
end Sm
end L2
namespace L2
open PySem PySem.Spec PyProof.Rows PySem.Calls PySem.W
section
variable {prog:Program} {w:World} {E:Value->Shared->Prop}
structure zp3 (w:World) (h:Heap) (a:Addr) (b:Nat) (f:Nat->Int×Value) (kf:Nat->NK) (o:Obj) (ep:Nat) (t:SetTable):Prop where
 get:h.get? a=some o
 ex:o.ExactSet
 data:o.data= .set ((Sm.pl b).map f) ep t
 tb:Sm.Tb t b
 plain:t.plain=true
 lt:b<256
 few:(Sm.plL b).length<=4
 chain:Sm.zpn b λj=>(f j).1
 keys:∀j<8,Sm.inB b j=true->(f j).1=ziJ w (kf j)/\(∃c,(f j).2= .ref c/\zjQ h (kf j) (.ref c))/\zkM (kf j)<=8
 inj:∀i<8,∀j<8,Sm.inB b i=true->Sm.inB b j=true->kf i=kf j->i=j
variable {a:Addr} {b:Nat} {f:Nat->Int×Value} {kf:Nat->NK} {o:Obj} {ep:Nat} {t:SetTable} {A:Around} {s:Shared}
end
section
variable {h h':Heap}
end
section
variable {prog:Program} {w:World} {E:Value->Shared->Prop}
variable {a:Addr} {b:Nat} {f:Nat->Int×Value} {kf:Nat->NK} {o:Obj} {ep:Nat} {t:SetTable} {A:Around} {s:Shared}
end
section
variable {h h':Heap}
end
section
variable {prog:Program} {w:World}
variable {A:Around} {R:Result->Shared->Prop} {I:Addr} {fp wr:List Addr} {G:Array GenState->Array GenState->Prop} {n:Nat} {P:Nat->Value->Prop} {St:Nat->Shared->Prop}
end
section
variable {prog:Program} {w:World} {A:Around} {E:Value->Shared->Prop} {s:Shared}
noncomputable def zcy (w:World):Bool:= !w.params.followText "set-order"
noncomputable def zdY (led:Bool):Obj:={cls:= .type "set",dict:=none,data:= .set #[] 0 (.fresh 0 0 led)}
theorem znP (x:Value) {Q₁:Value->Shared->Prop} (h:Q₁ (.ref s.heap.objs.size) {s with heap:=s.heap.push (zdY (zcy w))}):
  codeAny (model prog w) A (.call (.builtin "set.__new__") ⟨[.type "set",x],[]⟩) (wants Q₁ E) s:=by
 refine codeAny_of_tree ?_;show wpAny _ A.in1 (do checkBuiltinCall "set.__new__" ⟨[.type "set",x],[]⟩;again (.builtin "set.__new__" ⟨[.type "set",x],[]⟩)) _ _ s;refine wpAny_bind (wpAny_of_eq (F.newCall_set_1 x) (wpAny_pure ⟨plainId_quiet F.plain_set_new _,codeAny_builtin F.entry_set_new ?_⟩));rw[Around.under_plainId F.plain_set_new _];unfold Builtin.«set.__new__» Builtin.Frozenset.newClass;have k7:=sub_set_self;obtain⟨hp,g,d,tk,os⟩:=s;dsimp only
 wp_walk
 refine wpAny_askSetting (wpAny_pure ?_);dsimp only;simp only[newObj];exact wpAny_bind (wpAny_alloc (wpAny_pure (wpAny_pure h)))
end
end L2
set_option maxHeartbeats 3200000
namespace L2
open PySem PySem.Spec PyProof.Rows PySem.Calls PySem.W
section
variable {prog:Program} {w:World} {A:Around} {E:Value->Shared->Prop} {s:Shared}
end
structure zp4 (h:Heap) (a:Addr) (b:Nat) (f:Nat->Int×Value) (o:Obj) (ep:Nat) (t:SetTable):Prop where
 get:h.get? a=some o
 ex:o.ExactSet
 data:o.data= .set ((Sm.pl b).map f) ep t
 tb:Sm.Tb t b
 plain:t.plain=true
 lt:b<256
 few:(Sm.plL b).length<=4
section
variable {prog:Program} {w:World} {A:Around} {E:Value->Shared->Prop} {s:Shared} {d it:Addr}
variable {b:Nat} {f:Nat->Int×Value} {o:Obj} {ep:Nat} {t:SetTable}
variable {b:Nat} {f:Nat->Int×Value} {o:Obj} {ep:Nat} {t:SetTable} {i:Nat}
end
mutual
noncomputable def cp:NK->NK->Bool
 | .int _,.int _=>true
 | .tup x,.tup y=>cpL x y
 |_,_=>false
noncomputable def cpL:List NK->List NK->Bool
 |a::x,b::y=>cp a b&&cpL x y
 |_,_=>true
end
section
open PySem.SeqAt
open PySem.AutoSeq1 (wpAny_loadPart')
open PySem.MeetsSeq PySem.MeetsSeq2 PySem.MeetsSeq3
variable {prog:Program} {w:World} {E:Value->Shared->Prop}
end
section
variable {prog:Program} {w:World} {A:Around} {E:Value->Shared->Prop} {s:Shared}
def znQ (b:Bool):NK->Prop
 | .tup (.tup _::_)=>b=false
 | .tup (.int _::_)=>b=true
 |_=>False
end
structure KOk (b:Bool) (ks:List NK):Prop where
 cmp:∀x∈ks,∀y∈ks,cp x y=true
 qZ:∀k∈ks,zkM k<=8
 fst:∀k∈ks,znQ b k
section
variable {X:Cx}
end
section
variable {prog:Program} {w:World} {A:Around} {E:Value->Shared->Prop} {s:Shared}
end
section
variable {X:Cx}
end
section
variable {X:Cx} {pins:List (Addr×Obj)} {σ:St} {H:Hp} {s:Shared}
end
section
variable {X:Cx}
end
section
variable {prog:Program} {w:World} {A:Around} {E:Value->Shared->Prop} {s:Shared}
end
section
variable {X:Cx} {pins:List (Addr×Obj)} {σ:St} {H H':Hp} {s:Shared} {h':Heap}
end
section
variable {X:Cx}
inductive zgp (H:Hp):List Addr->List (Int×V)->Prop
 |nil:zgp H [] []
 |cons {p:Addr} {x:Int×V} {ps:List Addr} {xs:List (Int×V)}:H p=some (.tup [.int x.1,x.2])->zgp H ps xs->zgp H (p::ps) (x::xs)
noncomputable def zpo (ns:List Int):Int:=ns.foldl (λa b=>if b>a then b else a) (ns.headD 0)
theorem zjR (ns:List Int):∀k,k<ns.length->ns.getD (argBest (λi j=>decide (ns.getD i 0>ns.getD j 0)) k) 0=(ns.take (k+1)).foldl (λa b=>if b>a then b else a) (ns.headD 0)/\argBest (λi j=>decide (ns.getD i 0>ns.getD j 0)) k<=k:=by
 intro k
 induction k with
 |zero=>
  intro h;cases ns with
  |nil=>simp at h
  |cons a r=>simp[argBest]
 |succ k ih=>
  intro h;obtain⟨h1,h2⟩:=ih ⋯;have hg:ns[k+1]? =some (ns.getD (k+1) 0):=by rw[rp,r9 h];rfl
  obtain⟨hi,e⟩:=rg.1 hg;rw[sd hi,e,List.foldl_append,<-h1];have hb:∀f:Nat->Nat->Bool,argBest f (k+1)=if f (k+1) (argBest f k)=true then k+1 else argBest f k:=λf=>rfl
  rw[hb,AW,List.foldl_nil];by_cases q:ns.getD (k+1) 0>ns.getD (argBest (λi j=>decide (ns.getD i 0>ns.getD j 0)) k) 0
  .rw[if_pos (decide_eq_true q),if_pos q];exact⟨rfl,rj _⟩
  .rw[if_neg (by rw[decide_eq_false q];decide),if_neg q];exact⟨rfl,⋯⟩
end
open PySem.AutoSeq1 (wpAny_loadPart')
open PySem.MeetsSeq PySem.MeetsSeq2 PySem.MeetsSeq3
section
variable {prog:Program} {w:World} {E:Value->Shared->Prop}
end
section
variable {X:Cx}
end
end L2
namespace L2
open PySem PySem.Spec PyProof.Rows PySem.Calls
noncomputable def Its (x:Str):It:=⟨λi _=>∃c,x.cps[i]? =some c,λi H v H'=>H'=H/\∃c,x.cps[i]? =some c/\v= .str ⟨#[c]⟩,λi _=>x.cps[i]? =none⟩
theorem zjS {P:Program} {w:World} {K:r6} {tg:Expr} (x:Str) (t:Tok) (it:Addr):zhV P w K tg (Its x) [it] it (λi h=>h.IsStrIter it "str_ascii_iterator" x t i) where
 mem:=by simp
 obj:=λi h st b hb=>by
  have e:b=it:=by simpa using hb
  subst e;obtain⟨o,e,c,d⟩:=st;exact⟨o,e,λv z=>by rw[d] at z;cases z⟩
 keep:=λi h h' st k=>by
  obtain⟨o,e,c,d⟩:=st;exact⟨o,k it (by simp) o e,c,d⟩
 item:=by
  intro X hP hw hK hc i pins s σ H E I hf st hg;subst hP hw hK;obtain⟨c,hx⟩:=hg;obtain⟨f0,f1,f2,f3,f4,f5⟩:=hf it (by simp);refine wpAny_pyNext_ascii_item st hx λh' st' sb=> ?_;have I1:Inv X pins σ H {s with heap:=h',toks:=s.toks+1}:=I.turned (λb o hb e=>(sb.2 b hb).trans e) f0 f1 f3 f4 f5;obtain⟨o,e,c',d⟩:=id st';exact⟨_,rfl,zgR (s:={s with heap:=h',toks:=s.toks+1}) e c' d ∅ ⟨.str ⟨#[c]⟩,H,I1,⟨_,rfl⟩,⟨rfl,c,hx,rfl⟩,st',λb hb=>(hf b hb).1⟩⟩
 done:=by
  intro X hP hw hK hc i pins s σ H E I hf st hg;subst hP hw hK;obtain⟨f0,f1,f2,f3,f4,f5⟩:=hf it (by simp);exact wpAny_pyNext_ascii_end (I.ok.hd hc) st hg λh' eb=>⟨rfl,I.turned (t':=s.toks) (λb o hb e=>eb b o hb e) f0 f1 f3 f4 f5⟩
 self:=λ_ _ _ _ _ st h=>wpAny_pyIter_striter_ascii st h
section
variable {X:Cx} {tg:Expr}
def zpp (tl:TE):TI:=λσ H R=>tl σ H λx H1=>∃y,x= .str y/\y.cps.all (· <128)=true/\R (Its y) H1
theorem znR {l:Expr} {tl:TE} (hl:PE X l tl):PI X tg l (zpp tl):=by
 intro pins s σ H R I h;refine thn (hl pins s σ H _ I h) ?_;rintro v s1 ⟨x,H1,I1,r1,y,rfl,ha,q⟩;obtain⟨t,rfl⟩:=r1;refine wpAny_pyIter_ascii ha ?_;refine⟨s1.heap.objs.size,[s1.heap.objs.size],_,_,H1,rfl,I1.kept (t':=s1.toks) λb o e=>Heap.get?_push_of_some _ e,zjS y t _,⟨_,Heap.get?_push_size _ rfl,rfl,rfl⟩,λb hb=> ?_,q⟩;have e:b=s1.heap.objs.size:=by simpa using hb
 subst e;exact I1.fpOk (rj _) (I1.hok.fresh (rj _))
end
section
variable {prog:Program} {w:World} {A:Around} {I:Addr} {fp wr:List Addr} {G:Array GenState->Array GenState->Prop} {n:Nat} {P:Nat->Value->Prop} {St:Nat->Shared->Prop} {R:Result->Shared->Prop}
theorem Tt:(toString "max"++toString ".loop":String)="max.loop":=by decide
noncomputable abbrev zlv (xs:Array Value) (c:Nat):Obj:={cls:= .type "list",dict:=none,data:= .seq xs c,slots:= #[]}
noncomputable abbrev znS (I S:Addr) (d:Value):Code:= .builtin "max.loop" ⟨[.ref I,.none,.ref S],[("default",d)]⟩
theorem zjT (W:WalksS prog w A.in1 I fp wr G n P St) (bt:Nat->Nat->Bool) (cmp:CmpOf prog w A.in1 .Gt P bt) (S:Addr) (nf:S∉fp) (d:Value):∀(k j:Nat) (s:Shared) (u:Value) (c:Nat),n-(j+1)=k->j+1<=n->St (j+1) s->P (argBest bt j) u->
  s.heap.get? S=some (zlv #[u,u] c)->(∀v s',P (argBest bt (n-1)) v->Moved (S::wr) G s s'->R (.ok (.ret v)) s')->codeAny (model prog w) A (znS I S d) R s:=by
 have nw:S∉wr:=λq=>nf (W.sub _ q);have up:∀b∈wr,b∈S::wr:=λb q=> .tail _ q;have ns:∀{b:Addr},b∉S::wr->S≠b:=λq e=>q (e ▸ .head _);intro k
 induction k with
 |zero=>
  intro j s u c hk hj st hu hS fin;have hn:j+1=n:=by omega
  refine codeAny_builtin F.entry_max_loop (by
   rw[Around.under_plainId F.plain_max_loop _];refine wpAny_bind (m:=seqItems? (.ref S)) (wpAny_seqItems hS rfl (wpAny_bind (m:=tryCatch (pyNext (.ref I)) _) (wpAny_tryCatch (W.done s _ _ (hn ▸ st) λs' mv=> ?_))));refine wpAny_bind (m:=updateSeq S (λ_=> #[])) (wpAny_updateSeq (mv.heap S _ nw hS) rfl (wpAny_bind (wpAny_letGo (wpAny_pure ?_))))
   exact fin u _ (by rw[<-hn];exact hu) ((mv.mono up).then_heap (tk:=s'.toks) (rj _) λb o q e=>(Heap.get?_update_other _ _ (ns q)).trans e))
 |succ k ih=>
  intro j s u c hk hj st hu hS fin;have lt:j+1<n:=by omega
  refine codeAny_builtin F.entry_max_loop (by
   rw[Around.under_plainId F.plain_max_loop _];refine wpAny_bind (m:=seqItems? (.ref S)) (wpAny_seqItems hS rfl (wpAny_bind (m:=tryCatch (pyNext (.ref I)) _) (wpAny_tryCatch (W.item (j+1) s _ _ lt st λv s' hv st' mv=> ?_))));have iK:=mv.heap S _ nw hS;refine wpAny_bind (m:=tryCatch (holding [v,v] (richCompare .Gt v u>>=_)) _) (wpAny_tryCatch (wpAny_holding (wpAny_bind (cmp (j+1) (argBest bt j) v u _ _ _ hv hu (wpAny_bind (wpAny_holding (wpAny_truthy_bool (wpAny_bind (wpAny_letGo (wpAny_pure ?_)))))))))) ;cases hb:bt (j+1) (argBest bt j) with
   |true=>
    rw[if_pos rfl]
    refine wpAny_bind (wpAny_updateSeq iK rfl (wpAny_bind (wpAny_letGo (by
     rw[Tt];refine wpAny_pure ⟨plainId_quiet F.plain_max_loop _,ih (j+1) _ v _ ⋯ lt (W.frame _ s' _ s'.toks st' (rj _) λb q o e=>(Heap.get?_update_other _ _ λz:S=b=>nf (z ▸ q)).trans e) ?_ (Heap.get?_update_self _ iK rfl) λv' s'' h1 h2=> ?_⟩
     .show P (if bt (j+1) (argBest bt j) then j+1 else argBest bt j) v;rw[if_pos hb];exact hv
     .exact fin v' s'' h1 (Moved.trans W.gtrans ((mv.mono up).then_heap (rj _) λb o q e=>(Heap.get?_update_other _ _ (ns q)).trans e) h2)))))
   |false=>
    rw[if_neg ∅]
    refine wpAny_bind (wpAny_letGo (by
     rw[Tt];refine wpAny_pure ⟨plainId_quiet F.plain_max_loop _,ih (j+1) _ u c ⋯ lt st' ?_ iK λv' s'' h1 h2=>fin v' s'' h1 (Moved.trans W.gtrans (mv.mono up) h2)⟩;show P (if bt (j+1) (argBest bt j) then j+1 else argBest bt j) u
     rw[hb];exact hu)))
theorem zin (W:WalksS prog w A.in1 I fp wr G n P St) (bt:Nat->Nat->Bool) (cmp:CmpOf prog w A.in1 .Gt P bt) (S:Addr) (nf:S∉fp) (d:Value) (hn:0<n) {s:Shared} {c:Nat} (st:St 0 s) (hS:s.heap.get? S=some (zlv #[] c))
  (fin:∀v s',P (argBest bt (n-1)) v->Moved (S::wr) G s s'->R (.ok (.ret v)) s'):codeAny (model prog w) A (znS I S d) R s:=by
 have nw:S∉wr:=λq=>nf (W.sub _ q);have up:∀b∈wr,b∈S::wr:=λb q=> .tail _ q;have ns:∀{b:Addr},b∉S::wr->S≠b:=λq e=>q (e ▸ .head _)
 refine codeAny_builtin F.entry_max_loop (by
  rw[Around.under_plainId F.plain_max_loop _];refine wpAny_bind (m:=seqItems? (.ref S)) (wpAny_seqItems hS rfl (wpAny_bind (m:=tryCatch (pyNext (.ref I)) _) (wpAny_tryCatch (W.item 0 s _ _ hn st λv s' hv st' mv=> ?_))));have iK:=mv.heap S _ nw hS
  refine wpAny_bind (m:=updateSeq S (λ_=> #[v,v])) (wpAny_updateSeq iK rfl (by
   rw[Tt];refine wpAny_pure ⟨plainId_quiet F.plain_max_loop _,zjT W bt cmp S nf d _ 0 _ v _ rfl hn (W.frame _ s' _ s'.toks st' (rj _) λb q o e=>(Heap.get?_update_other _ _ λz:S=b=>nf (z ▸ q)).trans e) hv (Heap.get?_update_self _ iK rfl) λv' s'' h1 h2=> ?_⟩
   exact fin v' s'' h1 (Moved.trans W.gtrans ((mv.mono up).then_heap (rj _) λb o q e=>(Heap.get?_update_other _ _ (ns q)).trans e) h2))))
theorem zjU (W:WalksS prog w A.in1 I fp wr G n P St) (S:Addr) (nf:S∉fp) (d:Value) (hn:n=0) {s:Shared} {c:Nat} (st:St 0 s) (hS:s.heap.get? S=some (zlv #[] c))
  (fin:∀s',Moved (S::wr) G s s'->R (.ok (.ret d)) s'):codeAny (model prog w) A (znS I S d) R s:=by
 have up:∀b∈wr,b∈S::wr:=λb q=> .tail _ q;subst hn
 refine codeAny_builtin F.entry_max_loop (by
  rw[Around.under_plainId F.plain_max_loop _];refine wpAny_bind (m:=seqItems? (.ref S)) (wpAny_seqItems hS rfl (wpAny_bind (m:=tryCatch (pyNext (.ref I)) _) (wpAny_tryCatch (W.done s _ _ st λs' mv=> ?_))))
  exact wpAny_bind (wpAny_rule (wpAny_pure (fin s' (mv.mono up)))))
variable {E:Value->Shared->Prop} {s:Shared}
theorem zjV {id:String} {b:Builtin} {xs:List Value} {kw:List (Str×Value)} {Q:Value->Shared->Prop} (e1:builtinKind id=none) (e2:plainId id=true) (e3:entryFor table id=some b) (e4:argsOk id ⟨xs,kw⟩)
  (h:wpAny (model prog w) A.in1 (b ⟨xs,kw⟩) (λfin s'=>match fin with
   | .done f=>(match (Except.ok f:Result) with| .ok (.ret v)=>Q v s'| .ok _=>False| .error e=>E e s')
   | .again c'=>c'.quiet=true/\codeAny (model prog w) A c' (λr s'=>match r with| .ok (.ret v)=>Q v s'| .ok _=>False| .error e=>E e s') s') E s):wpAny (model prog w) A (call (.builtin id) xs kw) Q E s:=by
 refine wpAny_call (codeAny_call_builtin e2 e3 (by
  simp only[checkBuiltinCall,e1];cases hs:Manifest.signature? id with
  |none=>exact wpAny_pure h
  |some sig=>
   have e5:Bind.checkArgs id sig ⟨xs,kw⟩=pure ():=by simpa only[argsOk,hs] using e4
   simp only[e5]
   exact wpAny_pure h))
theorem zjW {x d:Value} {Q:Value->Shared->Prop}
  (h:wpAny (model prog w) A.in1 (pyIter x) (λit s₂=>∃I fp wr G n P St bt,it= .ref I/\WalksS prog w A.in1 I fp wr G n P St/\St 0 s₂/\(∀b∈fp,b<s₂.heap.objs.size)/\CmpOf prog w A.in1 .Gt P bt/\
   (∀v s',0<n->P (argBest bt (n-1)) v->Moved wr G s₂ s'->Q v s')/\(∀s',n=0->Moved wr G s₂ s'->Q d s')) E s):wpAny (model prog w) A (call (.builtin "max") [x] [("default",d)]) Q E s:=by
 refine zjV F.kind_max F.plain_max F.entry_max (by unfold argsOk;kernel_rfl) (wpAny_bind (m:=Builtin.Builtins.bindParams "max" ["key","default"] 0 ⟨[],[("default",d)]⟩) (wpAny_of_eq (a:=[none,some d]) rfl (wpAny_bind (wpAny_pure (wpAny_bind (wpAny_mono h (λit s₂ h₂=> ?_) λ_ _ e=>e))))));obtain⟨I,fp,wr,G,n,P,St,bt,rfl,W,st,pZ,cmp,q1,q2⟩:=h₂;refine wpAny_bind (wpAny_newObj_type ?_);have nf:s₂.heap.objs.size∉fp:=λhm=>sS _ (pZ _ hm);rw[Tt];have cG:=W.frame 0 s₂ (s₂.heap.push (zlv #[] 0)) s₂.toks st (rj _) λb _ o e=>Heap.get?_push_of_some _ e;refine wpAny_pure ⟨plainId_quiet F.plain_max_loop _,?_⟩;rcases Nat.eq_zero_or_pos n with hn|hn
 .exact zjU W _ nf d hn cG (Heap.get?_push_size _ rfl) λs' mv=>q2 s' hn (Moved.drop_new (tk:=s₂.toks) mv (rj _))
 .exact zin W bt cmp _ nf d hn cG (Heap.get?_push_size _ rfl) λv s' hP mv=>q1 v s' hn hP (Moved.drop_new (tk:=s₂.toks) mv (rj _))
end
noncomputable def zdZ (k:Int) (ns:List Int):Int:=if ns=[] then k else zpo ns
def zjX (K:r6) (k:Int):V->Hp->VK->Prop:=λx H1 Q=>∃(p:Addr) (ns:List Int),x= .ref p/\SqL K H1 p (ns.map V.int)/\Q (.int (zdZ k ns)) H1
def zmu (K:r6) (k:Int) (te:TE):TE:=λσ H Q=>te σ H λx H1=>zjX K k x H1 Q
section
variable {X:Cx}
theorem zlw {K:r6} (hK:X.K=K) (hc:X.calm=true) {k:Int} {pins:List (Addr×Obj)} {s:Shared} {σ:St} {H:Hp} {Q:VK} {x:V} {u:Value} {t:Tok} (I:Inv X pins σ H s) (ru:yr x u) (h:zjX K k x H Q):
  wpAny (model X.prog X.w) X.A (call (.builtin "max") [u] [("default",.int k t)]) (EP X pins σ Q) X.xe s:=by
 subst hK;obtain⟨p,ns,rfl,hq,q⟩:=h;cases ru;obtain⟨af,rv,pl,hz⟩:=I.list hq;have lt:p<s.heap.objs.size:=by
  obtain⟨o,n,e,_⟩:=id pl;exact Heap.lt_size e
 have hl:ns.length=af.length:=by rw[<-rv.length,rh]
 have xY:∀(i:Nat) (v:Value),af.toArray[i]? =some v->i<ns.length/\∃t,v=Value.int (ns.getD i 0) t:=λi v hv=>by
  have hv:af[i]? =some v:=by simpa using hv
  have hi:i<ns.length:=by rw[hl];exact (rg.1 hv).1
  obtain⟨u,hu,t,ru⟩:=rv.get (i:=i) (x:=V.int ns[i]) (by rw[rq,r9 hi];rfl);rw[hu] at hv;cases hv;exact⟨hi,t,by rw[ru,rp,r9 hi];rfl⟩
 have W:=(Walks.list (prog:=X.prog) (w:=X.w) (A:=X.A.in1) (I.ok.hd hc) s.heap.objs.size p (rQ lt) af.toArray).toS;refine zjW (wpAny_pyIter_list pl.isList ⟨s.heap.objs.size,_,_,_,_,_,_,λi j=>decide (ns.getD i 0>ns.getD j 0),rfl,W,⟨⟨_,Heap.get?_push_size _ rfl,rfl,rfl⟩,Heap.IsList.push pl.isList _⟩,λb hb=> ?_,CmpOf.ints_gt (λi=>ns.getD i 0) (λi v hv=>(xY i v hv).2),λv s' hn hv m=> ?_,λs' hn m=> ?_⟩)
 .rw[Heap.size_push];rcases (by simpa using hb:b=s.heap.objs.size\/b=p) with rfl|rfl
  .exact sP _
  .exact tU lt
 .have I1:Inv X pins σ H {s with heap:=s'.heap,toks:=s'.toks}:=I.kept λb o e=>m.heap b o (λz=>by
   have z:b=s.heap.objs.size:=by simpa using z
   exact absurd (Heap.lt_size e) (by rw[z];exact sS _)) (Heap.get?_push_of_some _ e)
  have e:({s with heap:=s'.heap,toks:=s'.toks}:Shared)=s':=by
   have h1:=m.gens;have h2:=m.drawn;have h3:=m.os;cases s';simp only at h1 h2 h3;subst h1 h2 h3;rfl
  rw[e] at I1;obtain⟨_,t,rfl⟩:=xY _ v hv;rw[rA] at hn;have dM:ns≠[]:=λz=>by rw[z] at hl;simp at hl;omega
  refine⟨.int (zdZ k ns),H,I1,⟨t,?_⟩,q⟩;have:=(zjR ns (ns.length-1) ⋯).1;rw[show ns.length-1+1=ns.length by omega,sF] at this;unfold zdZ;rw[rA,<-hl,this,if_neg dM];rfl
 .have I1:Inv X pins σ H {s with heap:=s'.heap,toks:=s'.toks}:=I.kept λb o e=>m.heap b o (λz=>by
   have z:b=s.heap.objs.size:=by simpa using z
   exact absurd (Heap.lt_size e) (by rw[z];exact sS _)) (Heap.get?_push_of_some _ e)
  have e:({s with heap:=s'.heap,toks:=s'.toks}:Shared)=s':=by
   have h1:=m.gens;have h2:=m.drawn;have h3:=m.os;cases s';simp only at h1 h2 h3;subst h1 h2 h3;rfl
  rw[e] at I1;rw[rA] at hn;have dM:ns=[]:=sX.1 ⋯;refine⟨.int (zdZ k ns),H,I1,⟨t,?_⟩,q⟩;unfold zdZ;rw[if_pos dM]
theorem zhr {K:r6} {e:Expr} {te:TE} {pp kp pos tq:Pos} {tp:Nat} {k:Int} (hc:X.calm=true) (hg:Gl X "max") (hm:X.mg "max"=none) (ha:PE X e te) (hK:X.K=K:=by rfl)
  (q9:starEach [e] X.env=[(false,eval e X.env)]:=by rfl) (he:backTo pos (starEach [e] X.env)=(false,eval e X.env)::backTo pos (starEach [] X.env):=by rfl) (gL:(backTo pos (starEach [e] X.env)).any (·.1)=false:=by rfl):
  PE X (.Call (.Name "max" pp) [e] [⟨some "default",.Constant (.int k) tp tq,kp⟩] pos) (zmu K k te):=by
 intro pins s σ H Q I h;refine wpAny_Call_Name_kw (Vw I hg hm boot_max ?_ ∅ ∅);refine callWith_kw (thn (yW ha zb q9 pos pins s σ H (λvs H1=>∃x,vs=[x]/\zjX K k x H1 Q) I ?_) ?_) he gL rfl rfl
 .have h:te σ H _:=h;show te σ H λx H1=>∃y,[x]=[y]/\_;simpa only[AX,and_true,exists_eq_left'] using h
 rintro us s1 ⟨vs,H1,I1,r1,x,rfl,q⟩;obtain⟨u,rfl,ru⟩:=Xr r1;show wpAny _ _ (evalAll [(do let v <-eval (.Constant (.int k) tp tq) X.env;standAt pos;pure v)]) _ _ s1;refine wpAny_evalAll_cons (wpAny_bind (wpAny_Constant_int (wpAny_bind (wpAny_standAt (wpAny_pure ?_)))));refine wpAny_evalAll_nil ?_;exact zlw hK hc (I1.tok _) ru q
end
section
variable {prog:Program} {w:World} {A:Around} {E:Value->Shared->Prop} {s:Shared}
theorem ze6 {sl:Addr} {n:Nat} {t:Tok} {Q:Int×Int×Nat->Shared->Prop} (hs:s.heap.IsSliceOf sl .none .none (.int 2 t)) (hn:n=1\/n=3)
  (h:Q (0,2,(n+1) / 2) s):wpAny (model prog w) A (Builtin.Slice.sliceApplied (.ref sl) (pure (n:Int))) Q E s:=by
 obtain⟨os,gK,jz,ip⟩:=id hs;unfold Builtin.Slice.sliceApplied Builtin.Slice.sliceFields;refine wpAny_bind (wpAny_bind (wpAny_field gK ip (x:= .none) rfl (wpAny_bind (wpAny_field gK ip (x:= .none) rfl (wpAny_bind (wpAny_field gK ip (x:= .int 2 t) rfl (wpAny_pure ?_)))))));refine wpAny_bind (HT.YW (.int 2 t) ?_);show wpAny _ _ (if ((2:Int)==0)=true then _ else _) _ _ s;rw[if_neg ∅];refine wpAny_bind (HT.YW .none (wpAny_bind (HT.YW .none (wpAny_bind (wpAny_pure ?_)))));rcases hn with rfl|rfl
 .exact wpAny_pure h
 .exact wpAny_pure h
noncomputable def wm {α:Type}:List α->List α
 |[a,_,b]=>[a,b]
 |xs=>xs
theorem zlx {t sl:Addr} {items:Array Value} {tk:Tok} {Q:Value->Shared->Prop} (ht:IsTup s.heap t items) (hs:s.heap.IsSliceOf sl .none .none (.int 2 tk)) (hn:items.size=1\/items.size=3)
  (h:Q (.ref s.heap.objs.size) {s with heap:=s.heap.push {cls:= .type "tuple",data:= .seq (wm items.toList).toArray}}):wpAny (model prog w) A (getItem (.ref t) (.ref sl)) Q E s:=by
 have pw:((rY ((items.size+1) / 2)).filterMap λ(m:Nat)=>items[((0:Int)+(m:Int)*2).toNat]?).toArray=(wm items.toList).toArray:=by
  obtain⟨xs⟩:=items;rcases hn with hn|hn
  .match xs,hn with
   |[a],_=>simp[wm,rY,AY]
  .match xs,hn with
   |[a,b,c],_=>simp[wm,rY,AY]
 have ec:sizeOk (.seq (wm items.toList).toArray):=by
  show (wm items.toList).toArray.size<=sizeLine;obtain⟨xs⟩:=items;rcases hn with hn|hn
  .match xs,hn with
   |[a],_=>exact (by show 1<=sizeLine;decide)
  .match xs,hn with
   |[a,b,c],_=>exact (by show 2<=sizeLine;decide)
 obtain⟨os,gK,jz,ip⟩:=id hs;have kI:s.TypeIs (.ref sl) "slice":=⟨os,gK,jz⟩;unfold getItem
 try with_reducible refine wpAny_holding ?_
 first|refine wpAny_bind (wpAny_pure ?_)|skip
 refine wpAny_bind (wpAny_sequenceKey ht.typeIs ∅ ?_)
 refine wpAny_bind (wpAny_callSpecial?_slot (name:=Str.ofString "__getitem__") ht.typeIs sf
  (wpAny_call_entry sf ht.typeIs entry_tuple_getitem ?_ (args_tuple_getitem _ _)))
 show wpAny _ _ (Builtin.Tuple.tupleItemsOf (.ref t)>>=_) _ _ s;refine wpAny_bind (tupleItemsOf_ ht ?_);refine wpAny_bind (wpAny_typeOf kI ?_);rw[if_pos ∅];refine wpAny_bind (ze6 hs hn ?_);show wpAny _ _ (if ((0:Int)==0&&(2:Int)==1&&((items.size+1) / 2)==items.size)=true then _ else _) _ _ s;rw[if_neg (by simp),pw]
 first
  |exact wpAny_bind (m:=Builtin.Tuple.tupleExact _) (wpAny_newObj_type (wpAny_pure ⟨_,rfl,wpAny_pure h⟩) ec)
  |exact wpAny_bind (m:=Builtin.Tuple.tupleExact _) (wpAny_newObj_type (wpAny_bind (wpAny_pure (wpAny_pure ⟨_,rfl,wpAny_pure h⟩))) ec)
  |exact wpAny_bind (wpAny_bind (m:=Builtin.Tuple.tupleExact _) (wpAny_newObj_type (wpAny_pure (wpAny_pure ⟨_,rfl,wpAny_pure h⟩)) ec))
  |exact wpAny_bind (wpAny_bind (m:=Builtin.Tuple.tupleExact _) (wpAny_newObj_type (wpAny_pure ⟨_,rfl,wpAny_pure h⟩) ec))
end
theorem zjY {α:Type} (xs:List α):(wm xs).length<=xs.length:=by
 unfold wm;split
 .simp
 .exact rj _
theorem zio {xs:List V} {us:List Value} (h:yf xs us):yf (wm xs) (wm us):=by
 unfold wm;split
 .cases h with|cons h1 h=>cases h with|cons h2 h=>cases h with|cons h3 h=>cases h;exact .cons h1 (.cons h3 .nil)
 .rename_i hx;split
  .cases h with|cons h1 h=>cases h with|cons h2 h=>cases h with|cons h3 h=>cases h;exact absurd rfl (hx _ _ _)
  .exact h
def zpV (K:r6):V->Hp->VK->Prop:=λx H Q=>∃a xs,x= .ref a/\SqT K H a xs/\(xs.length=1\/xs.length=3)/\∀p,H p=none->Q (.ref p) (upd H p (.tup (wm xs)))
def zpq (K:r6) (te:TE):TE:=λσ H Q=>te σ H λx H1=>zpV K x H1 Q
section
variable {X:Cx}
theorem zjZ {e:Expr} {te:TE} {p2 pos tq:Pos} {tp:Nat} {K:r6} (he:PE X e te) (hK:X.K=K:=by rfl):PE X (.Subscript e (.Slice none none (some (.Constant (.int 2) tp tq)) p2) pos) (zpq K te):=by
 subst hK;intro pins s σ H Q I h;refine Subscript_ (thn (he pins s σ H _ I h) ?_);rintro v s1 ⟨x,H1,I1,r1,a,xs,rfl,hx,hn,q⟩;refine wpAny_Slice ?_;rw[evalPart_none];refine wpAny_pure (wpAny_pure ?_);rw[evalPart_some];refine wpAny_Constant_int ?_;cases r1;have I2:=I1.tok (s1.toks+1);have I4:Inv X pins σ H1 {s1 with heap:=s1.heap.push {cls:= .type "slice",data:= .fields #[.none,.none,.int 2 s1.toks]},toks:=s1.toks+1}:=I1.kept λb ob q=>Heap.get?_push_of_some _ q;obtain⟨af,r,ht,hz⟩:=I4.tuple hx;have hlen:af.toArray.size=xs.length:=by rw[rA];exact r.length.symm
 refine tail_any (ops:=[.ref a,.ref s1.heap.objs.size]) ht.typeIs sf.lookup ?_ (by with_unfolding_all rfl);refine zlx ht (Heap.IsSliceOf.new ..) (by rw[hlen];exact hn) ?_;refine⟨.ref _,_,I4.laid (o:= .tup (wm xs)) (λb ob q=>Heap.get?_push_of_some _ q) (rj _) ?_,rfl,q _ (I4.hok.fresh (rj _))⟩;exact⟨si (zjY xs) hz,_,zio r,XI.new _ _⟩
end
theorem zcz:typeLookup (.type "tuple") "keys"=pure none:=by rw[typeLookup_type,builtinLookup_eq_fast];kernel_rfl
theorem ze7:typeLookup (.type "tuple") "__getattr__"=pure none:=by rw[typeLookup_type,builtinLookup_eq_fast];kernel_rfl
section
variable {prog:Program} {w:World} {A:Around} {E:Value->Shared->Prop} {h:Heap} {g:Array GenState} {d:Drawn} {t:Nat} {os:OsState} {a:Addr}
def znT (h:Heap) (g:Array GenState) (d:Drawn) (os:OsState) (E:Value->Shared->Prop):Prop:=∀h' e tk',(∀b o,h.get? b=some o->h'.get? b=some o)->(∃o,h'.get? e=some o/\o.cls= .type "AttributeError")->E (.ref e) ⟨h',g,d,tk',os⟩
theorem zgq {tk:Tok} {Q:Fin->Shared->Prop} {xs:Array Value} {n:Nat} {sl:Array (Option Value)} (hx:h.get? a=some ⟨.type "tuple",none,.seq xs n,sl⟩) (hh:A.handled=none) (hq:znT h g d os E):
  wpAny (model prog w) A (Builtin.«object.__getattribute__» ⟨[.ref a,.str "keys" tk],[]⟩) Q E ⟨h,g,d,t,os⟩:=by
 have hT:(⟨h,g,d,t,os⟩:Shared).TypeIs (.ref a) "tuple":=⟨_,hx,rfl⟩;have f4:=zcz
 repeat (any_goals (first|assumption|wp_step))
 refine wpAny_raiseAttrError hh (λh' tk' e q=> ?_) (by decide+kernel);obtain⟨q1,q2,o,vs,q3⟩:=q;exact hq h' e tk' q1 ⟨_,q3,rfl⟩
theorem ziq {tk:Tok} {R:Result->Shared->Prop} {xs:Array Value} {n:Nat} {sl:Array (Option Value)} (hx:h.get? a=some ⟨.type "tuple",none,.seq xs n,sl⟩) (hh:A.handled=none) (hq:znT h g d os λe s=>R (.error e) s):
  codeAny (model prog w) A (.call (.builtin "tuple.__getattribute__") ⟨[.ref a,.str "keys" tk],[]⟩) R ⟨h,g,d,t,os⟩:=
 codeAny_call_builtin F.slot_tuple_getattribute.plain F.entry_tuple_ga (F.slot_tuple_getattribute.check _ _ _ _ _ _ _ _ (show (⟨h,g,d,t,os⟩:Shared).TypeIs (.ref a) "tuple" from ⟨_,hx,rfl⟩) (F.args_tuple_getattribute_2 _ _) (zgq hx (by simpa using hh) hq))
theorem zly {tk:Tok} {Q:Value->Shared->Prop} {xs:Array Value} {n:Nat} {sl:Array (Option Value)} (hx:h.get? a=some ⟨.type "tuple",none,.seq xs n,sl⟩) (hh:A.handled=none) (hq:znT h g d os E):
  wpAny (model prog w) A (getAttrBy (.ref a) (.str "keys" tk) false) Q E ⟨h,g,d,t,os⟩:=by
 have hT:(⟨h,g,d,t,os⟩:Shared).TypeIs (.ref a) "tuple":=⟨_,hx,rfl⟩;have f2:=F.slot_tuple_getattribute.lookup;have f3:=F.slot_tuple_getattribute.bind (.ref a);have f5:=ze7
 repeat (any_goals (first|assumption|wp_step))
 refine ziq hx (by simpa using hh) λh' e tk' q1 q2=> ?_;obtain⟨o,q2,q3⟩:=q2;have hE:(⟨h',g,d,tk',os⟩:Shared).TypeIs (.ref e) "AttributeError":=⟨_,q2,q3⟩;have f6:=sub_AttributeError;have qT:(⟨h',g,d,tk',os⟩:Shared).TypeIs (.ref a) "tuple":=⟨_,q1 _ _ hx,rfl⟩
 repeat (any_goals (first|assumption|wp_step))
 exact hq h' e tk' q1 ⟨o,q2,q3⟩
theorem zir {Q:Option Value->Shared->Prop} {xs:Array Value} {n:Nat} {sl:Array (Option Value)} (hx:h.get? a=some ⟨.type "tuple",none,.seq xs n,sl⟩) (hh:A.handled=none) (hq:∀h' tk',(∀b o,h.get? b=some o->h'.get? b=some o)->Q none ⟨h',g,d,tk',os⟩):
  wpAny (model prog w) A (getAttr? (.ref a) "keys") Q E ⟨h,g,d,t,os⟩:=by
 unfold getAttr? getAttrBy?;have hT:(⟨h,g,d,t,os⟩:Shared).TypeIs (.ref a) "tuple":=⟨_,hx,rfl⟩;refine wpAny_bind (wpAny_mkText (wpAny_bind (wpAny_attempt (zly hx hh λh' e tk' q1 q2=> ?_))));obtain⟨o,q2,q3⟩:=q2;have hE:(⟨h',g,d,tk',os⟩:Shared).TypeIs (.ref e) "AttributeError":=⟨_,q2,q3⟩;have f6:=sub_AttributeError
 repeat (any_goals (first|assumption|wp_step))
 exact hq h' tk' q1
end
theorem ze8:entryFor table "dict.update.loop"=some Builtin.«dict.update.loop» :=entryFor_of_fast (by kernel_rfl)
theorem Tu:plainId "dict.update.loop"=true:=by decide+kernel
section
variable {prog:Program} {w:World} {A:Around} {I:Addr} {fp wr:List Addr} {G:Array GenState->Array GenState->Prop} {n:Nat} {P:Nat->Value->Prop} {St:Nat->Shared->Prop} {R:Result->Shared->Prop} {KK:Type} [DecidableEq KK] {knd:KeyKind prog w KK}
theorem zis {kv:List (KK×Value)} {i:Nat} {k:KK} {v:Value} (nd:(kv.map (·.1)).Nodup) (h:kv[i]? =some (k,v)):stored (kv.take i) k v=kv.take (i+1):=by
 have hi:=(rg.1 h).1;have e:=(rg.1 h).2;unfold stored;rw[if_neg,sd hi,e];intro q;rw[List.any_eq_true] at q;obtain⟨x,hx,hk⟩:=q;obtain⟨m,hm,rfl⟩:=tV.1 hx;rw[sL] at hm;have hk:(kv.take i)[m].1=k:=of_decide_eq_true hk;rw[List.getElem_take] at hk;have h2:=(AH (xs:=kv.map (·.1)) (i:=m) (j:=i) (h₀:=by rw[rh];omega) (h₁:=by rw[rh];omega) nd).1 (by rw[sZ,sZ,hk,e]);omega
theorem zlz (W:WalksS prog w A.in1 I fp wr G n P St) (d:Addr) (nf:d∉fp) (h0:Heap) (old:∀b o,h0.get? b=some o->b∉d::wr) (kv:List (KK×Value)) (nd:(kv.map (·.1)).Nodup) (hn:kv.length=n) (o7:n<=sizeLine)
  (xY:∀i v,P i v->∃p key k x m,kv[i]? =some (k,x)/\v= .ref p/\knd.is k key=true/\∃o,h0.get? p=some o/\o.cls= .type "tuple"/\o.data= .seq #[key,x] m):
  ∀(q i:Nat) (s:Shared) (t:Tok),n-i=q->i<=n->St i s->(∀b o,h0.get? b=some o->s.heap.get? b=some o)->s.heap.DictOf knd d (kv.take i)->(∀s',Moved (d::wr) G s s'->s'.heap.DictOf knd d kv->R (.ok (.ret .none)) s')->
   codeAny (model prog w) A (.builtin "dict.update.loop" ⟨[.ref d,.ref I,.int i t,.none],[]⟩) R s:=by
 have nw:d∉wr:=λq=>nf (W.sub _ q);have up:∀b∈wr,b∈d::wr:=λb q=> .tail _ q;have ns:∀{b:Addr},b∉d::wr->b≠d:=λq e=>q (e ▸ .head _);have stay:∀{s s':Shared} {l:List (KK×Value)},Moved wr G s s'->s.heap.DictOf knd d l->s'.heap.DictOf knd d l:=by
  rintro s s' l mv ⟨o,es,ep,ho,r⟩;exact⟨o,es,ep,mv.heap d o nw ho,r⟩
 intro q
 induction q with
 |zero=>
  intro i s t hq hi st ho hD fin;obtain rfl:i=n:=by omega
  refine codeAny_builtin ze8 (by
   rw[Around.under_plainId Tu _];refine wpAny_bind (m:=pyNext (.ref I)) (W.done s _ _ st λs' mv=> ?_);refine wpAny_bind (m:=Builtin.Dict.addKeywords d []) (wpAny_pure (wpAny_pure (fin s' (mv.mono up) ?_)));have:=stay mv hD
   rwa [<-hn,sF] at this)
 |succ q ih=>
  intro i s t hq hi st ho hD fin;have lt:i<n:=by omega
  refine codeAny_builtin ze8 (by
   rw[Around.under_plainId Tu _];refine wpAny_bind (m:=pyNext (.ref I)) (W.item i s _ _ lt st λv s' hv st' mv=> ?_);obtain⟨p,key,k,x,m,hk,rfl,lx,o,hp,hc,hd⟩:=xY i v hv;have gE:∀b o,h0.get? b=some o->s'.heap.get? b=some o:=λb o e=>mv.heap b o (λz=>old b o e (up b z)) (ho b o e);have nR:=gE _ _ hp;have hT:s'.TypeIs (.ref p) "tuple":=⟨_,nR,hc⟩;refine wpAny_bind (wpAny_holding (wpAny_bind (m:=tryCatch (Builtin.Dict.pairItems (.ref p)) _) (wpAny_tryCatch ?_)));unfold Builtin.Dict.pairItems;refine wpAny_bind (wpAny_typeOf hT ?_);rw[if_pos ∅];refine wpAny_bind (wpAny_seqItems nR hd (wpAny_pure ?_));refine wpAny_holding (m:=dictSet d key x) (wpAny_dictSet_pairs lx (stay mv hD) (λh' o6 sb=> ?_) (by rw[sL];omega));rw[zis nd hk] at o6;refine wpAny_pure ⟨plainId_quiet Tu _,ih (i+1) _ _ ⋯ lt (W.frame _ s' h' (s'.toks+1) st' (tM _) λb hb ob e=>(sb.2 b λz=>nf (z ▸ hb)).trans e) (λb ob e=>(sb.2 b (ns (old b ob e))).trans (gE b ob e)) o6 λs'' lL mQ=> ?_⟩
   exact fin s'' (Moved.trans W.gtrans ((mv.mono up).then_heap (tM _) λb ob q e=>(sb.2 b (ns q)).trans e) lL) mQ)
variable {E:Value->Shared->Prop} {s:Shared}
theorem zlA {a:Addr} {items:Array Value} {m:Nat} {sl:Array (Option Value)} {kv:List (KK×Value)} {Q:Value->Shared->Prop} (hh:A.handled=none) (hx:s.heap.get? a=some ⟨.type "tuple",none,.seq items m,sl⟩) (nd:(kv.map (·.1)).Nodup) (hn:kv.length=items.size) (o7:items.size<=sizeLine)
  (xY:∀(i:Nat) v,items[i]? =some v->∃p key k x m,kv[i]? =some (k,x)/\v= .ref p/\knd.is k key=true/\∃o,s.heap.get? p=some o/\o.cls= .type "tuple"/\o.data= .seq #[key,x] m)
  (h:∀s':Shared,s'.heap.DictOf knd s.heap.objs.size kv->(∀b o,s.heap.get? b=some o->s'.heap.get? b=some o)->s'.gens=s.gens->s'.drawn=s.drawn->s'.os=s.os->Q (.ref s.heap.objs.size) s'):
  wpAny (model prog w) A (call (.type "dict") [.ref a]) Q E s:=by
 refine callType_codes (Q₁:=λobj s₁=>obj= .ref s.heap.objs.size/\s₁={s with heap:=s.heap.push {cls:= .type "dict",data:= .dict #[]}}) F.kt_called_dict (F.kt_typeCall_dict_1 _) F.entry_dict_init (kt_code_dict_new _ ⟨rfl,rfl⟩) ?_;rintro obj s₁ ⟨rfl,rfl⟩;have iH:(s.heap.push {cls:= .type "dict",data:= .dict #[]}).DictOf knd s.heap.objs.size []:=Heap.DictOf.new s.heap;have jg:=Heap.get?_push_of_some (h:=s.heap) {cls:= .type "dict",data:= .dict #[]} hx;have hT:Shared.TypeIs {s with heap:=s.heap.push {cls:= .type "dict",data:= .dict #[]}} (.ref a) "tuple":=⟨_,jg,rfl⟩;refine⟨iH.typeIs,F.args_dict_init_2 _ _,?_⟩;unfold Builtin.«dict.__init__»
 refine wpAny_bind (by
  unfold Builtin.Dict.selfAndRest;refine wpAny_bind (wpAny_notOrdered_dict iH.typeIs (wpAny_pure (a:=(s.heap.objs.size,[Value.ref a])) ?_));show wpAny _ _ (Builtin.Dict.updateFrom "dict.__init__" s.heap.objs.size (.ref a) [] .none) _ _ _;unfold Builtin.Dict.updateFrom;refine wpAny_bind (wpAny_typeOf hT ?_);rw[if_pos ∅];refine wpAny_bind (zir (g:=s.gens) (d:=s.drawn) (t:=s.toks) (os:=s.os) jg (by simpa using hh) λh' tk' kp=> ?_);rw[if_pos (by rfl)];refine wpAny_bind (wpAny_rule ?_);have jf:=kp _ _ jg;refine wpAny_bind (wpAny_pyIter_tuple (items:=items) ⟨_,jf,rfl,m,rfl⟩ ?_);have lt:a<h'.objs.size:=Heap.lt_size jf;have oE:s.heap.objs.size<h'.objs.size:=by
   obtain⟨o,_,_,e,_⟩:=iH;exact Heap.lt_size (kp _ _ e)
  refine wpAny_pure ⟨plainId_quiet Tu _,?_⟩;have old:∀b o,s.heap.get? b=some o->b≠s.heap.objs.size/\b≠h'.objs.size:=λb o e=>⟨rQ (Heap.lt_size e),rQ (Ar (Heap.lt_size e) oE)⟩;refine zlz (G:=λa b=>b=a) ((Walks.tuple (A:=A.in1.in1) (by simpa using hh) h'.objs.size a (rQ lt) items).toS) s.heap.objs.size (λz=> ?_) s.heap (λb o e z=> ?_) kv nd hn o7 (λi v hv=>xY i v hv) _ 0 _ _ rfl (rS _) ⟨⟨_,Heap.get?_push_size _ rfl,rfl,rfl⟩,⟨_,Heap.get?_push_of_some _ jf,rfl,m,rfl⟩⟩ (λb o e=> ?_) ?_ (λs' mv hD=> ?_)
  .rcases (by simpa using z:s.heap.objs.size=h'.objs.size\/s.heap.objs.size=a) with z|z
   .omega
   .exact (old _ _ hx).1 z.symm
  .rcases (by simpa using z:b=s.heap.objs.size\/b=h'.objs.size) with z|z
   .exact (old _ _ e).1 z
   .exact (old _ _ e).2 z
  .exact Heap.get?_push_of_some _ (kp _ _ (Heap.get?_push_of_some _ e))
  .rw[List.take_zero];obtain⟨o,es,ep,e,r⟩:=iH;exact⟨o,es,ep,Heap.get?_push_of_some _ (kp _ _ e),r⟩
  .refine⟨rfl,h s' hD (λb o e=>mv.heap b o (λz=> ?_) (Heap.get?_push_of_some _ (kp _ _ (Heap.get?_push_of_some _ e)))) mv.gens mv.drawn mv.os⟩;rcases (by simpa using z:b=s.heap.objs.size\/b=h'.objs.size) with z|z
   .exact (old _ _ e).1 z
   .exact (old _ _ e).2 z)
end
def PrT (H:Hp):V->Key×V->Prop:=λp q=>∃b,p= .ref b/\H b=some (.tup [kV q.1,q.2])
def zj0:List V->Hp->VK->Prop:=λxs H Q=>∃(a:Addr) (ps:List V) (aj:List (Key×V)),xs=[.ref a]/\H a=some (.tup ps)/\Paired (PrT H) ps aj/\(aj.map (·.1)).Nodup/\∀l,H l=none->Q (.ref l) (upd H l (.dK aj))
theorem ze9 {P:Program} {w:World} {H:Hp} {h:Heap} (ok:HOk P w H h):∀{ps:List V} {aj:List (Key×V)} {af:List Value},Paired (PrT H) ps aj->yf ps af->∃kv:List (Key×Value),KV aj kv/\kv.length=af.length/\∀(i:Nat) v,af[i]? =some v->
  ∃p key k x m,kv[i]? =some (k,x)/\v= .ref p/\(vb P w).is k key=true/\∃o,h.get? p=some o/\o.cls= .type "tuple"/\o.data= .seq #[key,x] m
 |[],[],[],.nil,.nil=>⟨[],.nil,rfl,λi v e=>by simp at e⟩
 |p::ps,(k,y)::aj,u::us,.cons h1 h2,.cons r1 r2=>by
  obtain⟨kv,a1,a2,a3⟩:=ze9 ok h2 r2;obtain⟨b,rfl,hb⟩:=h1;cases r1;obtain⟨_,af,rv,o,e,c,m,d,_⟩:=(show xB P w H h b (.tup _) from ok b _ hb);obtain⟨u1,u2,rfl,g1,g2⟩:=zgV rv;refine⟨(k,u2)::kv,.cons ⟨rfl,g2⟩ a1,by rw[rl,rl,a2],λi v e'=> ?_⟩;cases i with
  |zero=>
   cases e';refine⟨b,u1,k,u2,m,rfl,rfl,?_,o,e,c,by simpa using d⟩;cases k with
   |inl i=>obtain⟨t,rfl⟩:=g1;exact zcY i t
   |inr x=>obtain⟨t,rfl⟩:=g1;exact zcZ x t
  |succ i=>exact a3 i v (by simpa using e')
section
variable {X:Cx}
theorem zgr (hc:X.calm=true):vC X (.type "dict") zj0:=by
 intro pins s σ H xs us Q I r h;obtain⟨a,ps,aj,rfl,ha,hp,nd,q⟩:=h;obtain⟨u,rfl,ru⟩:=Xr r;cases ru;obtain⟨z,af,rv,o,e,c,m,d,dn⟩:=(show xB X.prog X.w H s.heap a (.tup ps) from I.hok a _ ha);obtain⟨kv,a1,a2,a3⟩:=ze9 I.hok hp rv;obtain⟨oc,od,qx,gI⟩:=o;simp only at c d dn;subst c d dn;have pN:aj.length=af.length:=by rw[<-hp.length,<-rv.length]
 have nd':(kv.map (·.1)).Nodup:=by rw[show kv.map (·.1)=aj.map (·.1) from (KV.keys a1).symm];exact nd
 refine zlA (knd:=vb X.prog X.w) (kv:=kv) (I.ok.hd hc) e nd' (by rw[rA];exact a2) (by rw[rA,<-rv.length];exact z) (λi v hv=>a3 i v (by simpa using hv)) λs' hD kp e1 e2 e3=> ?_;have e':({s with heap:=s'.heap,toks:=s'.toks}:Shared)=s':=by
  cases s';simp only at e1 e2 e3;subst e1 e2 e3;rfl
 have I1:=I.laid (a:=s.heap.objs.size) (o:= .dK aj) (t':=s'.toks) kp (rj _) ⟨by rw[pN,<-rv.length];exact z,beq_eq_false_iff_ne.mpr (y7 I.big),kv,a1,hD⟩;rw[e'] at I1;exact⟨.ref _,_,I1,rfl,q _ (I.hok.fresh (rj _))⟩
end
noncomputable def Yk (acc:List Str):List Str->List Str
 |[]=>acc
 |x::r=>Yk (if x∈acc then acc else acc++[x]) r
noncomputable def zj1 (acc:List Str) (x:Str):List Str:=if x∈acc then acc else acc++[x]
theorem zdo {xs:List Str}:∀{acc:List Str} {i:Nat} {x:Str},xs[i]? =some x->Yk acc (xs.take (i+1))=zj1 (Yk acc (xs.take i)) x:=by
 induction xs with
 |nil=>intro acc i x h;simp at h
 |cons y r ih=>
  intro acc i x h;cases i with
  |zero=>cases h;rfl
  |succ i=>
   have h:r[i]? =some x:=by simpa using h
   exact ih h
theorem zbS:∀(xs acc:List Str),(Yk acc xs).length<=acc.length+xs.length
 |[],acc=>rj _
 |x::r,acc=>by
  have:=zbS r (if x∈acc then acc else acc++[x]);show (Yk (if x∈acc then acc else acc++[x]) r).length<=_;rw[rl];split at this
  .rw[if_pos (by assumption)];omega
  .rw[if_neg (by assumption)];rw[rk,rC] at this;omega
section
variable {prog:Program} {w:World} {A:Around} {I:Addr} {fp wr:List Addr} {G:Array GenState->Array GenState->Prop} {n:Nat} {P:Nat->Value->Prop} {St:Nat->Shared->Prop} {R:Result->Shared->Prop}
theorem zlB (W:WalksS prog w A.in1 I fp wr G n P St) (S:Addr) (nf:S∉fp) (xs:List Str) (hx:xs.length=n) (xY:∀i v,P i v->∃x t,xs[i]? =some x/\v= .str x t) (hb:n+1<scanBound):
  ∀(q i:Nat) (s:Shared),n-i=q->i<=n->St i s->s.heap.SetOf (strKind prog w) S (λk=>decide (k∈Yk [] (xs.take i))) (Yk [] (xs.take i)).length->
   (∀s',Moved (S::wr) G s s'->s'.heap.SetOf (strKind prog w) S (λk=>decide (k∈Yk [] xs)) (Yk [] xs).length->R (.ok (.ret .none)) s')->codeAny (model prog w) A (.builtin "set.update.loop" ⟨[.ref S,.ref I],[]⟩) R s:=by
 have nw:S∉wr:=λq=>nf (W.sub _ q);have up:∀b∈wr,b∈S::wr:=λb q=> .tail _ q;have ns:∀{b:Addr},b∉S::wr->b≠S:=λq e=>q (e ▸ .head _);have stay:∀{s s':Shared} {f:Str->Bool} {m:Nat},Moved wr G s s'->s.heap.SetOf (strKind prog w) S f m->s'.heap.SetOf (strKind prog w) S f m:=by
  rintro s s' f m mv ⟨o,es,ep,t,ho,r⟩;exact⟨o,es,ep,t,mv.heap S _ nw ho,r⟩
 intro q
 induction q with
 |zero=>
  intro i s hq hi st hS fin;obtain rfl:i=n:=by omega
  refine codeAny_builtin F.entry_set_update_loop (by
   rw[Around.under_plainId F.plain_set_update_loop _];refine wpAny_bind (m:=pyNext (.ref I)) (W.done s _ _ st λs' mv=> ?_);refine wpAny_pure (fin s' (mv.mono up) ?_);have:=stay mv hS
   rwa [<-hx,sF] at this)
 |succ q ih=>
  intro i s hq hi st hS fin;have lt:i<n:=by omega
  refine codeAny_builtin F.entry_set_update_loop (by
   rw[Around.under_plainId F.plain_set_update_loop _];refine wpAny_bind (m:=pyNext (.ref I)) (W.item i s _ _ lt st λv s' hv st' mv=> ?_);obtain⟨x,t,ex,rfl⟩:=xY i v hv;have lx:(strKind prog w).is x (.str x t)=true:=by show Value.isStrOf x (.str x t)=true;simp[Value.isStrOf]
   refine wpAny_bind (m:=holding [Value.str x t] (setAdd S (.str x t))) (wpAny_holding (by
    unfold setAdd;refine wpAny_holding (wpAny_bind ((strKind prog w).pyHash (k:=x) lx ?_));have hl:=zbS (xs.take i) [];rw[sL,A4] at hl;refine wpAny_setAddHashed_of (knd:=strKind prog w) (s:={s' with toks:=s'.toks+1}) lx rfl (show s'.heap.SetOf _ _ _ _ from stay mv hS) ⋯ λh' sb iK=> ?_;have jF:h'.SetOf (strKind prog w) S (λk=>decide (k∈Yk [] (xs.take (i+1)))) (Yk [] (xs.take (i+1))).length:=by
     refine SetOf_congr iK (λk=> ?_) ?_
     .rw[zdo ex];unfold zj1;by_cases hm:x∈Yk [] (xs.take i)
      .rw[if_pos hm];by_cases hk:k=x
       .subst hk;simp[hm]
       .simp[hk]
      .rw[if_neg hm];by_cases hk:k=x
       .subst hk;simp
       .simp[hk]
     .rw[zdo ex];unfold zj1;by_cases hm:x∈Yk [] (xs.take i)
      .rw[if_pos hm,if_pos (decide_eq_true hm)]
      .rw[if_neg hm,if_neg (by simpa using hm)];simp
    refine wpAny_pure ⟨plainId_quiet F.plain_set_update_loop _,ih (i+1) _ ⋯ lt (W.frame _ s' h' _ st' (tM _) λb hb ob e=>(sb.2 b λz=>nf (z ▸ hb)).trans e) jF λs'' lL mQ=> ?_⟩
    exact fin s'' (Moved.trans W.gtrans ((mv.mono up).then_heap (tM _) λb ob q e=>(sb.2 b (ns q)).trans e) lL) mQ)))
end
section
variable {prog:Program} {w:World} {A:Around} {E:Value->Shared->Prop} {s:Shared}
set_option maxHeartbeats 3200000 in
theorem zlC {l:Addr} {items:Array Value} {xs:List Str} {Q:Value->Shared->Prop} (hh:A.handled=none) (hl:s.heap.IsList l items) (hx:xs.length=items.size) (hb:items.size+1<scanBound)
  (xY:∀(i:Nat) v,items[i]? =some v->∃x t,xs[i]? =some x/\v= .str x t)
  (h:∀(h':Heap) (tk:Nat),h'.SetOf (strKind prog w) s.heap.objs.size (λk=>decide (k∈Yk [] xs)) (Yk [] xs).length->(∀b o,s.heap.get? b=some o->h'.get? b=some o)->Q (.ref s.heap.objs.size) {s with heap:=h',toks:=tk}):
  wpAny (model prog w) A (call (.type "set") [.ref l]) Q E s:=by
 obtain⟨c,tl,pG⟩:=F.called_set.mro;have nV:=F.called_set.made;have k7:=F.called_set.sub;refine wpAny_call (codeAny_of_tree ?_);show wpAny _ _ (callAny (.type "set") _) _ _ _;refine wpAny_pure ⟨Code.quiet_builtin _ (by decide+kernel),codeAny_builtin F.entry_type_call ?_⟩;rw[Around.under_plain (weight_type_call_type "set" [.ref l] []) rfl];have h1:=F.called_set.notType;have h2:=F.called_set.canCreate;have qR:=F.typeCall_set_1 (.ref l)
 repeat (any_goals (first|assumption|wp_step))
 refine codeAny_mono (znP (.ref l) (E:=E) (Q₁:=λobj s₁=>obj= .ref s.heap.objs.size/\s₁={s with heap:=s.heap.push (zdY (zcy w))}) ⟨rfl,rfl⟩) λr s₁ hr=> ?_;cases r with
 |error e=>exact hr
 |ok fl=>
  cases fl with
  |ret obj=>
   obtain⟨rfl,rfl⟩:=hr;have hS:(s.heap.push (zdY (zcy w))).get? s.heap.objs.size=some (zdY (zcy w)):=Heap.get?_push_size _ rfl;have hT:Shared.TypeIs {s with heap:=s.heap.push (zdY (zcy w))} (.ref s.heap.objs.size) "set":=⟨_,hS,rfl⟩;have qN:=F.called_set.init.lookup;have qS:=F.called_set.init.bind (.ref s.heap.objs.size)
   repeat (any_goals (first|assumption|wp_step))
   refine codeAny_mono (codeAny_call_builtin (R:=wants (λr s₂=>r= .none/\∃h' tk,s₂={s with heap:=h',toks:=tk}/\h'.SetOf (strKind prog w) s.heap.objs.size (λk=>decide (k∈Yk [] xs)) (Yk [] xs).length/\(∀b o,s.heap.get? b=some o->h'.get? b=some o)) E) F.called_set.init.plain F.entry_set_init (check_set_init_1 hT ?_)) λr₂ s₂ hr₂=> ?_
   .obtain⟨ol,kh,nZ,nl,lA⟩:=hl;obtain⟨oy,jR,ni,oslots⟩:=ol;simp only at nZ lA;subst nZ;subst lA;have mo:(s.heap.push (zdY (zcy w))).get? l=some {cls:= .type "list",dict:=jR,data:= .seq items nl,slots:=oslots}:=Heap.get?_push_of_some _ kh;have p7:=F.sub_list_set;have p8:=F.sub_list_frozenset;have dM:(Value.type "list"==Value.type "dict")=false:=by decide
    have lh:(s.heap.push (zdY (zcy w))).IsList l items:=⟨_,mo,rfl,nl,rfl⟩;unfold Builtin.«set.__init__» noKeywords Builtin.Frozenset.updateFrom;generalize qg:pyIter=PI
    wp_walk
    subst qg;refine wpAny_pyIter_list lh ?_;refine wpAny_bind (wpAny_runValue ?_);have nX:l<s.heap.objs.size:=Heap.lt_size kh;have pU:A.in1.in1.in1.handled=none:=by simp[hh]
    have g7:(s.heap.push (zdY (zcy w))).objs.size=s.heap.objs.size+1:=Heap.size_push ..;have mw:l≠(s.heap.push (zdY (zcy w))).objs.size:=by rw[g7];exact rQ (tU nX)
    refine zlB ((Walks.list pU _ l mw items).toS) s.heap.objs.size (by rw[g7];simp only[rX,sG,uO,or_false,not_or];exact⟨rQ (sP _),y7 nX⟩) xs hx xY hb (items.size-0) 0 _ ⋯ (rS _) ⟨⟨_,Heap.get?_push_size _ rfl,rfl,rfl⟩,lh.push _⟩ ?_ ?_
    .exact SetOf_congr ((setObjOf_fresh (knd:=strKind prog w) (zcy w)).setOf (Heap.get?_push_of_some _ hS) (by unfold scanBound;omega)) (λk=>by simp[Yk]) rfl
    intro s' hm mP;obtain⟨h',g',d',tk',os'⟩:=s';have eg:g'=s.gens:=hm.gens;have ed:d'=s.drawn:=hm.drawn;have eo:os'=s.os:=hm.os;subst eg;subst ed;subst eo;show wpAny _ _ _ _ _ _;refine wpAny_pure ?_;show wpAny _ _ (ret Value.none) _ _ _;refine wpAny_pure ⟨rfl,h',tk',rfl,mP,λb o e=> ?_⟩;have hb:=Heap.lt_size e;exact hm.heap b o (by rw[g7];simp only[rX,sG,uO,or_false,not_or];exact⟨rQ hb,rQ (tU hb)⟩) (Heap.get?_push_of_some _ (Heap.get?_push_of_some _ e))
   .cases r₂ with
    |error e=>exact hr₂
    |ok fl₂=>
     cases fl₂ with
     |ret r=>
      obtain⟨rfl,h',tk,rfl,mP,pP⟩:=hr₂
      repeat (any_goals (first|assumption|wp_step))
      exact h _ _ mP pP
     |_=>exact hr₂.elim
  |_=>exact hr.elim
end
def zmv (K:r6):V->Hp->VK->Prop:=λx H Q=>∃(p:Addr) (xs:List Str),x= .ref p/\SqL K H p (xs.map V.str)/\xs.length<=200/\Q (.int ((Yk [] xs).length:Nat)) H
def zmw (K:r6) (te:TE):TE:=λσ H Q=>te σ H λx H1=>zmv K x H1 Q
section
variable {X:Cx}
set_option maxHeartbeats 3200000 in
theorem zit {K:r6} {e:Expr} {te:TE} {p p2 pos gO:Pos} (hc:X.calm=true) (hg:Gl X "len") (hm:X.mg "len"=none) (pV:Gl X "set") (ik:X.mg "set"=none) (ha:PE X e te) (hK:X.K=K:=by rfl)
  (lz:starEach [e] X.env=[(false,eval e X.env)]:=by rfl) (he:starEach [.Call (.Name "set" p2) [e] [] gO] X.env=[(false,eval (.Call (.Name "set" p2) [e] [] gO) X.env)]:=by rfl):
  PE X (.Call (.Name "len" p) [.Call (.Name "set" p2) [e] [] gO] [] pos) (zmw K te):=by
 subst hK;intro pins s σ H Q I h;refine wpAny_Call_Name_kw (Vw I hg hm Boot.«len» ?_ ∅ ∅);refine uT ?_ he rfl;rw[he];show wpAny _ _ (spliced ((false,eval (.Call (.Name "set" p2) [e] [] gO) X.env)::backTo pos [])) _ _ s;refine Calls.spliced_cons ?_;refine wpAny_Call_Name_kw (Vw I pV ik Boot.«set» ?_ ∅ ∅);refine tN ?_ lz rfl;refine thn (yW ha zb lz gO pins s σ H (λvs H1=>∃x,vs=[x]/\zmv X.K x H1 Q) I ?_) ?_
 .have h:te σ H _:=h;show te σ H λx H1=>∃y,[x]=[y]/\_;simpa only[AX,and_true,exists_eq_left'] using h
 rintro us s1 ⟨vs,H1,I1,r1,x,rfl,a,xs,rfl,hq,qj,q⟩;obtain⟨u,rfl,ru⟩:=Xr r1;cases ru;obtain⟨af,rv,pl,hz⟩:=I1.list hq;have hl:xs.length=af.length:=by rw[<-rv.length,rh]
 refine zlC (xs:=xs) (I1.ok.hd hc) pl.isList (by rw[rA];exact hl) (by rw[rA];unfold scanBound;omega) (λi v hv=> ?_) λh' tk hS kp=> ?_
 .have hv:af[i]? =some v:=by simpa using hv
  have hi:i<xs.length:=by rw[hl];exact (rg.1 hv).1
  obtain⟨u,hu,t,ru⟩:=rv.get (i:=i) (x:=V.str xs[i]) (by rw[rq,r9 hi];rfl);rw[hu] at hv;cases hv;exact⟨xs[i],t,r9 hi,ru⟩
 refine Calls.spliced_nil ?_;have I2:Inv X pins σ H1 {s1 with heap:=h',toks:=tk}:=I1.kept kp;obtain⟨o,es,ep,t,ho,hex,hd,_,_,iW,pX,hn⟩:=hS;refine call_len_set (s:={s1 with heap:=h',toks:=tk}) ho hex hd pX (by unfold scanBound at iW;omega) ?_;rw[hn];exact⟨.int _,H1,I2.tok _,⟨_,rfl⟩,q⟩
end
section
variable {K:r6} {E:XK}
noncomputable def zbg:D->D->Bool
 | .tup _,.tup _=>true
 | .lst _,.lst _=>true
 |_,_=>false
noncomputable def zj2 (neg:Bool):Op2:=λx y S=>match xY S 40 x,xY S 40 y with
 |some d,some e=>if zbg d e then (eqG 40 d e).map λb=>(.bl (neg !=b),S) else none
 |_,_=>none
theorem zgs {d e:D} (h:zbg d e=true):∃l m,(d= .tup l/\e= .tup m)\/(d= .lst l/\e= .lst m):=by
 unfold zbg at h;split at h
 .exact⟨_,_,.inl ⟨rfl,rfl⟩⟩
 .exact⟨_,_,.inr ⟨rfl,rfl⟩⟩
 .cases h
theorem znU {neg:Bool}:XN K (zpl K neg) (zj2 neg):=by
 intro F j σ H ρ S S' x y z u v Q E1 hx hy h k;unfold zj2 at h;split at h
 .rename_i d e e1 e2;split at h
  .rename_i hb;cases hg:eqG 40 d e with
   |none=>rw[hg] at h;cases h
   |some b=>
    rw[hg] at h;cases h;exact⟨d,e,b,zgs hb,(zbf E1 40 _ _ _ hx e1).1,(zbf E1 40 _ _ _ hy e2).1,hg,k _ _ _ Ext.refl E1 (.bl _)⟩
  .cases h
 .cases h
end
section
variable {S:Sto} {x y:Xv} {P:Xv->Sto->Prop} {p q:Int}
theorem znV {neg b:Bool} {d e:D} (h1:xY S 40 x=some d) (h2:xY S 40 y=some e) (hs:zbg d e=true) (hb:eqG 40 d e=some b) (k:P (.bl (neg !=b)) S):WO (zj2 neg x y S) P:= .of (by unfold zj2;rw[h1,h2];dsimp only;rw[if_pos hs,hb];rfl) k
end
section
variable {K:r6} {E:XK}
end
section
variable {K:r6} {E:XK} {F:Fm} {j:List Addr} {H:Hp} {σ:St} {ρ:Rho} {S:Sto} {x y z:Xv} {u v w:V}
end
section
variable {K:r6} {j:List Addr} {H:Hp}
end
section
variable {ρ:Rho} {S:Sto} {P:Xv->Sto->Prop} {N:Rho->Sto->Prop} {R:Xv->Sto->Prop} {a b m z:TwE} {x y:Xv}
end
noncomputable def zcA (S:Sto) (x:Xv) (nm:Str):Option (Nat×List (Str×Xv)):=match x with
 | .ref n=>match S[n]? with
  |some (.ins nm' fs)=>if nm'=nm then some (n,fs) else none
  |_=>none
 |_=>none
theorem zaC {S:Sto} {x:Xv} {nm:Str} {n:Nat} {fs:List (Str×Xv)} (h:zcA S x nm=some (n,fs)):x= .ref n/\S[n]? =some (.ins nm fs):=by
 unfold zcA at h;split at h
 .split at h
  .split at h
   .rename_i e1 e2;cases h;subst e2;exact⟨rfl,e1⟩
   .cases h
  .cases h
 .cases h
theorem Tv {S:Sto} {nm:Str} {n:Nat} {fs:List (Str×Xv)} (h:S[n]? =some (.ins nm fs)):zcA S (.ref n) nm=some (n,fs):=by
 unfold zcA;dsimp only;rw[h];dsimp only;rw[if_pos rfl]
noncomputable def VH (f:Str) (v:Xv):List (Str×Xv)->List (Str×Xv)
 |[]=>[(f,v)]
 |(g,x)::r=>if g=f then (g,v)::r else (g,x)::VH f v r
section
variable {K:r6} {E:XK} {F:Fm} {j:List Addr} {H:Hp} {σ:St} {ρ:Rho} {S:Sto} {x:Xv} {v:V} {nm f m:Str} {C:Addr}
theorem KX.look:∀{fs:List (Str×Xv)} {vs:List (Str×V)},KX K j H fs vs->(∀y,fs.lookup f=some y->∃w,vs.lookup f=some w/\Xis K j H y w)/\(fs.lookup f=none->vs.lookup f=none)
 |_,_,.nil=>⟨(λ_ e=>by cases e),λ_=>rfl⟩
 |(g,y1)::r,(_,w1)::rs,.cons h l=>by
  obtain⟨i1,i2⟩:=KX.look l;rw[sQ,sQ];cases hb:(f==g) with
  |true=>exact⟨(λy e=>by cases e;exact⟨w1,rfl,h⟩),(λe=>by cases e)⟩
  |false=>exact⟨i1,i2⟩
theorem KX.putF (hx:Xis K j H x v):∀{fs:List (Str×Xv)} {vs:List (Str×V)},KX K j H fs vs->KX K j H (VH f x fs) (XL f v vs)
 |_,_,.nil=> .cons hx .nil
 |(g,y1)::r,(_,w1)::rs,.cons h l=>by
  unfold VH L2.XL;by_cases e:g=f
  .rw[if_pos e,if_pos e];exact .cons hx l
  .rw[if_neg e,if_neg e];exact .cons h (KX.putF hx l)
theorem En.ins {n:Nat} {fs:List (Str×Xv)} (fO:rD K mainGlobals nm=some (some (.ref C))) (E1:En K F j H σ ρ S) (hx:Xis K j H x v) (h:zcA S x nm=some (n,fs)):∃a dx vs,v= .ref a/\j[n]? =some a/\H a=some (.ins C dx vs)/\KX K j H fs vs:=by
 obtain⟨rfl,hs⟩:=zaC h;obtain⟨a,rfl,hj⟩:=hx.ref_inv;obtain⟨C',dx,vs,e0,e1,e2⟩:=E1.cel _ _ _ hs hj;rw[fO] at e0;cases e0;exact⟨a,dx,vs,rfl,hj,e1,e2⟩
noncomputable def zaX (nm f:Str) (o:TwE):TwE:=λρ S=>rb (o ρ S) λx S1=>(zcA S1 x nm).bind λp=>(p.2.lookup f).map λy=> .ok y S1
theorem Ul {to:TE} {o:TwE} (fO:rD K mainGlobals nm=some (some (.ref C))) (hc:Cls K C) (hn:Ys K C f) (h:RE K E to o):RE K E (zoE K to f) (zaX nm f o):=by
 intro F j σ H ρ S r Q En0 e k;rcases zv e with⟨x,S1,e1,e⟩|⟨c,S1,e1,rfl⟩
 .refine h En0 e1 λj1 H1 X1 E1 u hu=> ?_;rw[rP] at e;obtain⟨⟨n,fs⟩,e2,e⟩:=e;rw[rG] at e;obtain⟨y,e3,rfl⟩:=e;obtain⟨a,dx,vs,rfl,hj,f1,f2⟩:=E1.ins fO hu e2;obtain⟨w,g1,g2⟩:=f2.look.1 y e3;exact⟨a,C,dx,vs,w,rfl,f1,hc,hn,g1,k _ _ X1 E1 _ g2⟩
 .exact h En0 e1 k
noncomputable def zfa (nm f:Str) (o m:TwE):TwS:=λρ S=>sb (m ρ S) λy S1=>sb (o ρ S1) λx S2=>(zcA S2 x nm).bind λp=>if p.2.length<1000 then some (.nx ρ (S2.set p.1 (.ins nm (VH f y p.2)))) else none
theorem KX.len2:∀{fs:List (Str×Xv)} {vs:List (Str×V)},KX K j H fs vs->vs.length=fs.length
 |_,_,.nil=>rfl
 |_,_,.cons _ l=>by simp[l.len2]
theorem zd0 {to tv:TE} {o m:TwE} (fO:rD K mainGlobals nm=some (some (.ref C))) (hc:Cls K C) (hn:Ys K C f) (ho:RE K E to o) (hv:RE K E tv m):RS K E (zoF K to tv f) (zfa nm f o m):=by
 intro F j D' σ H ρ S fl E0 e kk;rcases wD e with⟨y,S1,e1,e⟩|⟨c,S1,e1,rfl⟩
 .refine hv E0 e1 λj1 H1 X1 E1 wy m5=> ?_;rcases wD e with⟨x,S2,e2,e⟩|⟨c,S2,e2,rfl⟩
  .refine ho E1 e2 λj2 H2 X2 E2 u hu=> ?_;rw[rP] at e;obtain⟨⟨n,fs⟩,e3,e⟩:=e;dsimp only at e;split at e
   .rename_i hl;cases e;obtain⟨a,dx,vs,rfl,hj,f1,f2⟩:=E2.ins fO hu e3;obtain⟨E4,X4⟩:=E2.write (o:= .ins C dx (L2.XL f wy vs)) (c':= .ins nm (VH f y fs)) (zaC e3).2 rfl hj rfl λX=>⟨C,dx,_,fO,yP,(KX.putF (m5.mono X2) f2).mono X⟩;exact⟨a,C,dx,vs,rfl,f1,hc,hn,by rw[f2.len2];exact hl,kk _ _ _ (X1.trans (X2.trans X4)) E4⟩
   .cases e
  .exact ho E1 e2 (PX.mono kk X1)
 .exact hv E0 e1 kk
noncomputable def xS (nm m:Str) (tw:TwF) (o:TwE) (ms:List TwE):TwE:=λρ S=>rb (o ρ S) λx S1=>(zcA S1 x nm).bind λp=>if p.2.lookup m=none then rb (evL ms ρ S1) λxs S2=>tw (x::xs) S2 else none
theorem xT {n:Nat} {tw:TwF} {o:TwE} {to:TE} {ms:List TwE} {t:TA} (fO:rD K mainGlobals nm=some (some (.ref C))) (ho:RE K E to o) (h:RL K E t (evL ms)) (hn:ms.length+1=n:=by rfl):RE K E (zi1 C m (sTw K n tw) [] E to t) (xS nm m tw o ms):=by
 intro F j σ H ρ S r Q En0 e k;rcases zv e with⟨x,S1,e1,e⟩|⟨c,S1,e1,rfl⟩
 .refine ho En0 e1 λj1 H1 X1 E1 u hu=> ?_;rw[rP] at e;obtain⟨⟨q,fs⟩,e2,e⟩:=e;dsimp only at e;split at e
  .rename_i pI;obtain⟨a,dx,om,rfl,hj,f1,f2⟩:=E1.ins fO hu e2;refine⟨a,dx,om,rfl,f1,f2.look.2 pI,?_⟩;rcases zv e with⟨xs,S2,e3,e⟩|⟨c,S2,e3,rfl⟩
   .refine h E1 e3 λj2 H2 X2 E2 vs hv=> ?_;rw[sT];exact zav E2 (.cons (hu.mono X2) hv) (by rw[rl,hv.len,Ui e3,hn]) e (k.step (X1.trans X2))
   .exact h E1 e3 (k.step X1)
  .cases e
 .exact ho En0 e1 k
noncomputable def zgt (nm:Str) (tw:TwF) (ms:List TwE):TwE:=λρ S=>rb (evL ms ρ S) λxs S1=>match tw (.ref S1.length::xs) (S1++[.ins nm []]) with
 |some (.ok .non S2)=>some (.ok (.ref S1.length) S2)
 |_=>none
theorem zj3 {n:Nat} {tw:TwF} {ms:List TwE} {t:TA} (fO:rD K mainGlobals nm=some (some (.ref C))) (h:RL K E t (evL ms)) (hn:ms.length+1=n:=by rfl):RE K E (zmh C (sTw K n tw) [] E t) (zgt nm tw ms):=by
 intro F j σ H ρ S r Q En0 e k;rcases zv e with⟨xs,S1,e1,e⟩|⟨c,S1,e1,rfl⟩
 .refine h En0 e1 λj1 H1 X1 E1 vs hv=> ?_;intro x dx hx qb dM;rw[sT];split at e
  .rename_i S2 e2;cases e;have lZ:upd H1 dx (.own x) x=none:=by rw[yz (λz=>dM z.symm)];exact hx
   obtain⟨E2,X2⟩:=E1.new (p:=dx) (o:= .own x) qb;obtain⟨E3,X3⟩:=E2.cell (p:=x) (o:= .ins C dx []) (c:= .ins nm []) lZ ⟨C,dx,[],fO,yP,.nil⟩;have X23:=X2.trans X3;have hr:Xis K (j1++[x]) (upd (upd H1 dx (.own x)) x (.ins C dx [])) (.ref S1.length) (.ref x):= .ref (by rw[<-E1.jl];simp);refine zav E3 (.cons hr (hv.mono X23)) (by rw[rl,hv.len,Ui e1,hn]) e2 λj' H' X E4 v hw=> ?_;exact⟨hw.non_inv,k _ _ (X1.trans (X23.trans X)) E4 _ (hr.mono X)⟩
  .cases e
 .exact h En0 e1 k
end
section
variable {ρ:Rho} {S:Sto} {P:Xv->Sto->Prop} {N:Rho->Sto->Prop} {R:Xv->Sto->Prop} {o m:TwE} {ms:List TwE} {nm f:Str}
theorem zaD (h:W (o ρ S) λx S1=>∃n fs y,x= .ref n/\S1[n]? =some (.ins nm fs)/\fs.lookup f=some y/\P y S1):W (zaX nm f o ρ S) P:=
 W.bind (h.imp λ_ _ h=>by obtain⟨n,fs,y,rfl,e1,e2,q⟩:=h;rw[Tv e1,rE,e2];exact .of rfl q)
theorem Tw (h:W (m ρ S) λy S1=>W (o ρ S1) λx S2=>∃n fs,x= .ref n/\S2[n]? =some (.ins nm fs)/\fs.length<1000/\N ρ (S2.set n (.ins nm (VH f y fs)))):WS (zfa nm f o m ρ S) N R:=
 WS.bind (h.imp λ_ _ h=>WS.bind (h.imp λ_ _ h=>by obtain⟨n,fs,rfl,e1,e2,q⟩:=h;rw[Tv e1,rE,if_pos e2];exact .nx rfl q))
theorem wc {tw:TwF} (h:W (o ρ S) λx S1=>∃n fs,x= .ref n/\S1[n]? =some (.ins nm fs)/\fs.lookup f=none/\W (evL ms ρ S1) λxs S2=>W (tw (x::xs) S2) P):W (xS nm f tw o ms ρ S) P:=
 W.bind (h.imp λ_ _ h=>by obtain⟨n,fs,rfl,e1,e2,q⟩:=h;rw[Tv e1,rE,if_pos e2];exact W.bind (q.imp λ_ _ h=>h))
theorem zlD {tw:TwF} (h:W (evL ms ρ S) λxs S1=>W (tw (.ref S1.length::xs) (S1++[.ins nm []])) λv S2=>v= .non/\P (.ref S1.length) S2):W (zgt nm tw ms ρ S) P:=
 W.bind (h.imp λxs S1 h=>by
  obtain⟨v,S2,e,rfl,q⟩:=h;rw[e]
  exact .of rfl q)
end
section
variable {K:r6} {E:XK} {j:List Addr} {H:Hp}
end
section
variable {K:r6} {E:XK} {F:Fm} {j:List Addr} {H:Hp} {σ:St} {ρ:Rho} {S:Sto} {x:Xv} {v:V} {c:Str} {C:Addr}
end
end L2
namespace L2
open PySem
section
variable {ρ:Rho} {S S':Sto} {x y:Xv} {a b m o:TwE} {c:TwT} {s t:TwS} {i k:Nat} {P:Xv->Sto->Prop} {PL:List Xv->Sto->Prop} {N:Rho->Sto->Prop} {R:Xv->Sto->Prop} {X:Str->Sto->Prop}
end
end L2
namespace L2
open PySem PySem.Spec PyProof.Rows PySem.Calls
section
variable {K:r6} {E:XK} {F:Fm} {j:List Addr} {H:Hp} {σ:St} {ρ:Rho} {S:Sto} {x:Xv} {v:V} {nm f:Str} {C:Addr}
noncomputable def zj4 (nm f:Str) (o m:TwE):TwS:=λρ S=>sb (o ρ S) λx S1=>(zcA S1 x nm).bind λp=>match p.2.lookup f with
 |some (.int u)=>sb (m ρ S1) λy S2=>match y with
  | .int w=>(zcA S2 x nm).bind λq=>if q.2.length<1000 then some (.nx ρ (S2.set q.1 (.ins nm (VH f (.int (u+w)) q.2)))) else none
  |_=>none
 |_=>none
theorem zlE {to tv:TE} {o m:TwE} (fO:rD K mainGlobals nm=some (some (.ref C))) (hc:Cls K C) (hn:Ys K C f) (ho:RE K E to o) (hv:RE K E tv m):RS K E (zgW K to tv zoH f) (zj4 nm f o m):=by
 intro F j D' σ H ρ S fl E0 e kk;rcases wD e with⟨x,S1,e1,e⟩|⟨c,S1,e1,rfl⟩
 .refine ho E0 e1 λj1 H1 X1 E1 u hu=> ?_;rw[rP] at e;obtain⟨⟨n,fs⟩,e2,e⟩:=e;dsimp only at e;split at e
  .rename_i iu el;obtain⟨a,dx,vs,rfl,hj,f1,f2⟩:=E1.ins fO hu e2;obtain⟨w,g1,g2⟩:=f2.look.1 _ el;have ew:=g2.int_inv;subst ew;refine⟨a,C,dx,vs,_,rfl,f1,hc,hn,g1,?_⟩;rcases wD e with⟨y,S2,e3,e⟩|⟨c,S2,e3,rfl⟩
   .refine hv E1 e3 λj2 H2 X2 E2 wy m5=> ?_;split at e
    .rename_i iw;have:=m5.int_inv;subst this;rw[rP] at e;obtain⟨⟨n2,jM⟩,e4,e⟩:=e;dsimp only at e;split at e
     .rename_i hl;cases e;refine⟨iu,iw,rfl,rfl,?_⟩;obtain⟨a',dx',vs',ea,mF,h1,h2⟩:=E2.ins fO (hu.mono X2) e4;cases ea;obtain⟨E4,X4⟩:=E2.write (o:= .ins C dx' (L2.XL f (.int (iu+iw)) vs')) (c':= .ins nm (VH f (.int (iu+iw)) jM)) (zaC e4).2 rfl mF rfl λX=>⟨C,dx',_,fO,yP,(KX.putF (.int _) h2).mono X⟩;exact⟨dx',vs',h1,by rw[h2.len2];exact hl,kk _ _ _ (X1.trans (X2.trans X4)) E4⟩
     .cases e
    .cases e
   .exact hv E1 e3 (PX.mono kk X1)
  .cases e
 .exact ho E0 e1 kk
theorem zlF {N:Rho->Sto->Prop} {R:Xv->Sto->Prop} {o m:TwE} (h:W (o ρ S) λx S1=>∃n fs u,x= .ref n/\S1[n]? =some (.ins nm fs)/\fs.lookup f=some (.int u)/\W (m ρ S1) λy S2=>∃w jM,y= .int w/\S2[n]? =some (.ins nm jM)/\jM.length<1000/\N ρ (S2.set n (.ins nm (VH f (.int (u+w)) jM)))):WS (zj4 nm f o m ρ S) N R:=
 WS.bind (h.imp λ_ _ h=>by
  obtain⟨n,fs,u,rfl,e1,e2,h⟩:=h;rw[Tv e1,rE];dsimp only;rw[e2];refine WS.bind (h.imp λ_ _ h=> ?_);obtain⟨w,jM,rfl,e3,e4,q⟩:=h;dsimp only;rw[Tv e3,rE,if_pos e4]
  exact .nx rfl q)
end
structure zp5 (tw:TwF) (S:Sto) (l:List Xv) (is:List (List Int)):Prop where
 len:is.length=l.length
 key:∀(i:Nat) x,l[i]? =some x->∃k,tw [x] S=some (.ok k S)/\k.tupOf=some ((is.getD i []).map Xv.int)
 fall:zpm is
section
variable {K:r6} {E:XK} {j:List Addr} {H:Hp}
end
section
variable {K:r6} {E:XK} {F:Fm} {j:List Addr} {H:Hp} {σ:St} {ρ:Rho} {S:Sto}
end
section
variable {K:r6} {E:XK}
end
section
variable {S:Sto} {x y:Xv} {P:Xv->Sto->Prop}
end
section
variable {K:r6} {E:XK}
end
noncomputable def vx (y:Str):List Xv:=y.cps.toList.map λc=>Xv.str ⟨#[c]⟩
noncomputable def iS (m:TwE):TwI:=λρ S=>rb (m ρ S) λx S1=>match x with
 | .str y=>if y.cps.all (· <128)=true then some (.ok (λ_=>some (vx y)) S1) else none
 |_=>none
noncomputable def inS (i j:Str):Bool:= !(Builtin.Str.occurrences j i 0 j.length 1).isEmpty
def zpW:V->V->Hp->VK->Prop:=λx y H Q=>∃i j,x= .str i/\y= .str j/\Q (.bl (!(Builtin.Str.occurrences j i 0 j.length 1).isEmpty)) H
noncomputable def ziu:Xv->Xv->Sto->Option (Xv×Sto):=λx y S=>match x,y with
 | .str i,.str j=>some (.bl (inS i j),S)
 |_,_=>none
section
variable {K:r6} {E:XK}
theorem znW {j:List Addr} {H:Hp} {y:Str}:zni K j H (Its y) (λ_=>some (vx y)):=by
 intro F2 j2 H2 σ2 ρ2 S2 xs i X2 E2 e2;cases e2;refine⟨λd hd=> ?_,λhle=> ?_⟩
 .unfold vx at hd;rw[rq,rG] at hd;obtain⟨c,h1,rfl⟩:=hd;have h1:y.cps[i]? =some c:=by rw[<-h1];simp
  refine⟨⟨c,h1⟩,?_⟩;rintro x H' ⟨rfl,c',h2,rfl⟩;rw[h1] at h2;cases h2;exact⟨UI.refl _,.str _⟩
 .unfold vx at hle;simp at hle;show y.cps[i]? =none;simp;omega
theorem znX {t:TE} {m:TwE} (h:RE K E t m):RI K E (zpp t) (iS m):=by
 intro F j σ H ρ S r R En0 e k;rcases zv e with⟨x,S1,e1,e⟩|⟨c,S1,e1,rfl⟩
 .split at e
  .split at e
   .rename_i y hb;cases e;refine h En0 e1 λj1 H1 X1 E1 u hu=> ?_;cases hu;exact⟨y,rfl,hb,k _ _ X1 E1 _ znW⟩
   .cases e
  .cases e
 .exact h En0 e1 k
theorem zj5:XN K zpW ziu:=by
 intro F j σ H ρ S S' x y z u v Q E1 hx hy h k;unfold ziu at h;split at h
 .cases h;cases hx;cases hy;exact⟨_,_,rfl,rfl,k _ _ _ Ext.refl E1 (.bl _)⟩
 .cases h
end
section
variable {m:TwE} {ρ:Rho} {S:Sto}
theorem zmx {Q':(Sto->Option (List Xv))->Sto->Prop} (h:W (m ρ S) λx S1=>∃y,x= .str y/\y.cps.all (· <128)=true/\Q' (λ_=>some (vx y)) S1):W (iS m ρ S) Q':=W.bind (h.imp λx S1 h=>by
 obtain⟨y,rfl,e,k⟩:=h;dsimp only;rw[if_pos e]
 exact .of rfl k)
theorem zj6 {i j:Str} {P:Xv->Sto->Prop} (k:P (.bl (inS i j)) S):WO (ziu (.str i) (.str j) S) P:= .of rfl k
end
noncomputable def ziv:Xv->Sto->Option (Xv×Sto):=λx S=>x.tupOf.bind λl=>if l.length=1\/l.length=3 then some (.tup (wm l),S) else none
noncomputable def zbT (k:Int):Xv->Sto->Option (Xv×Sto):=λx S=>((zY S x).bind Wr).map λns=>(.int (zdZ k ns),S)
noncomputable def Tz:List Xv->Option (List Str)
 |[]=>some []
 | .str i::r=>(Tz r).map (i:: ·)
 |_::_=>none
noncomputable def TB:Xv->Sto->Option (Xv×Sto):=λx S=>((zY S x).bind Tz).bind λxs=>if xs.length<=200 then some (.int ((Yk [] xs).length:Nat),S) else none
noncomputable def zfb:List Xv->Option (List (Key×Xv))
 |[]=>some []
 | .tup [.str n,x]::r=>(zfb r).map ((.inr n,x):: ·)
 |_::_=>none
noncomputable def zd1:Opn:=λxs S=>match xs with
 |[.tup l]=>(zfb l).bind λaj=>if (aj.map (·.1)).Nodup then some (.ref S.length,S++[.dk aj]) else none
 |_=>none
theorem zlG {K:r6} {j:List Addr} {H:Hp} {xs:List Xv} {vs:List V} (h:yo K j H xs vs):yo K j H (wm xs) (wm vs):=by
 unfold wm;split
 .cases h with|cons h1 h=>cases h with|cons h2 h=>cases h with|cons h3 h=>cases h;exact .cons h1 (.cons h3 .nil)
 .rename_i hx;split
  .cases h with|cons h1 h=>cases h with|cons h2 h=>cases h with|cons h3 h=>cases h;exact absurd rfl (hx _ _ _)
  .exact h
theorem zbU {K:r6} {j:List Addr} {H:Hp}:∀{xs:List Xv} {ns:List Str} {vs:List V},Tz xs=some ns->yo K j H xs vs->vs=ns.map V.str
 |[],ns,vs,e,h=>by cases e;cases h;rfl
 |x::r,ns,vs,e,h=>by
  unfold Tz at e;split at e
  .rename_i h0;cases h0
  .rename_i i r' h0;cases h0;rw[rG] at e;obtain⟨ms,e1,rfl⟩:=e;cases h with|cons h1 h2=>cases h1;rw[zbU e1 h2];rfl
  .cases e
theorem zhs {K:r6} {j:List Addr} {H:Hp}:∀{xs:List Xv} {aj:List (Key×Xv)} {vs:List V},zfb xs=some aj->yo K j H xs vs->∃ks,KX K j H aj ks/\Paired (PrT H) vs ks/\ks.map (·.1)=aj.map (·.1)
 |[],aj,vs,e,h=>by cases e;cases h;exact⟨[],.nil,.nil,rfl⟩
 |x::r,aj,vs,e,h=>by
  unfold zfb at e;split at e
  .rename_i h0;cases h0
  .rename_i n y r' h0;cases h0;rw[rG] at e;obtain⟨ms,e1,rfl⟩:=e;cases h with
   |cons h1 h2=>
    obtain⟨ks,g1,g2,g3⟩:=zhs e1 h2;cases h1 with
    |tup f1 f2=>
     cases f2 with
     |cons q1 q2=>
      cases q1;cases q2 with
      |cons q3 q4=>
       cases q4;rename_i a v;exact⟨(.inr n,v)::ks,.cons q3 g1,.cons ⟨a,rfl,f1⟩ g2,by rw[sj,sj,g3]⟩
  .cases e
section
variable {K:r6} {E:XK}
theorem znY {to:TE} {o:TwE} (h:RE K E to o):RE K E (zpq K to) (eUn ziv o):=by
 intro F j σ H ρ S r Q En0 e k;rcases zv e with⟨x,S1,e1,e⟩|⟨c,S1,e1,rfl⟩
 .refine h En0 e1 λj1 H1 X1 E1 u hu=> ?_;obtain⟨z,S2,e2,rfl⟩:=wu e;unfold ziv at e2;rw[rP] at e2;obtain⟨l,e3,e4⟩:=e2;split at e4
  .rename_i hl;cases e4;obtain⟨a,vs,rfl,f1,f2⟩:=hu.tupO e3;refine⟨a,vs,rfl,f1,by rw[f2.len];exact hl,λp hp=> ?_⟩;obtain⟨E2,X2⟩:=E1.new (p:=p) (o:= .tup (wm vs)) hp;exact k _ _ (X1.trans X2) E2 _ (.tup yP (zlG (f2.mono X2)))
  .cases e4
 .exact h En0 e1 k
theorem zht {to:TE} {o:TwE} {i:Int} (h:RE K E to o):RE K E (zmu K i to) (eUn (zbT i) o):=by
 intro F j σ H ρ S r Q En0 e k;rcases zv e with⟨x,S1,e1,e⟩|⟨c,S1,e1,rfl⟩
 .refine h En0 e1 λj1 H1 X1 E1 u hu=> ?_;obtain⟨z,S2,e2,rfl⟩:=wu e;unfold zbT at e2;rw[rG] at e2;obtain⟨ns,e3,e4⟩:=e2;cases e4;rw[rP] at e3;obtain⟨l,e3,e5⟩:=e3;obtain⟨p,ws,rfl,h1,h2⟩:=E1.lstAt hu e3;refine⟨p,ns,rfl,?_,k _ _ X1 E1 _ (.int _)⟩;rw[<-Tm e5 h2];exact h1.sql
 .exact h En0 e1 k
theorem ziw {to:TE} {o:TwE} (h:RE K E to o):RE K E (zmw K to) (eUn TB o):=by
 intro F j σ H ρ S r Q En0 e k;rcases zv e with⟨x,S1,e1,e⟩|⟨c,S1,e1,rfl⟩
 .refine h En0 e1 λj1 H1 X1 E1 u hu=> ?_;obtain⟨z,S2,e2,rfl⟩:=wu e;unfold TB at e2;rw[rP] at e2;obtain⟨ns,e3,e4⟩:=e2;rw[rP] at e3;obtain⟨l,e3,e5⟩:=e3;split at e4
  .rename_i hl;cases e4;obtain⟨p,ws,rfl,h1,h2⟩:=E1.lstAt hu e3;refine⟨p,ns,rfl,?_,hl,k _ _ X1 E1 _ (.int _)⟩;rw[<-zbU e5 h2];exact h1.sql
  .cases e4
 .exact h En0 e1 k
theorem zfc:UK K zj0 zd1:=by
 intro F j σ H ρ S S' xs z vs Q E1 hv h k;unfold zd1 at h;split at h
 .rename_i l;rw[rP] at h;obtain⟨aj,e,h⟩:=h;split at h
  .rename_i nd;cases h;obtain⟨w,rfl,hx⟩:=hv.d1;cases hx with
   |tup f1 f2=>
    obtain⟨ks,g1,g2,g3⟩:=zhs e f2;refine⟨_,_,ks,rfl,f1,g2,by rw[g3];exact nd,λp hp=> ?_⟩;have X:Ext j H (j++[p]) (upd H p (.dK ks)):=⟨λn a e=>by rw[rB (rg.1 e).1];exact e,Yx.same (vI hp)⟩;obtain⟨E2,X2⟩:=E1.cell (o:= .dK ks) (c:= .dk aj) hp ⟨ks,yP,g1.mono X⟩;exact k _ _ _ X2 E2 (.ref (by rw[<-E1.jl];simp))
  .cases h
 .cases h
end
section
variable {S:Sto} {x:Xv} {P:Xv->Sto->Prop}
theorem zj7 {l:List Xv} (h:x.tupOf=some l) (hl:l.length=1\/l.length=3) (k:P (.tup (wm l)) S):WO (ziv x S) P:= .of (by unfold ziv;rw[h,rE,if_pos hl]) k
theorem zhu {i:Int} {l:List Xv} {ns:List Int} (h:zY S x=some l) (h2:Wr l=some ns) (k:P (.int (zdZ i ns)) S):WO (zbT i x S) P:= .of (by unfold zbT;rw[h,rE,h2];rfl) k
theorem zix {l:List Xv} {xs:List Str} (h:zY S x=some l) (h2:Tz l=some xs) (hl:xs.length<=200) (k:P (.int ((Yk [] xs).length:Nat)) S):WO (TB x S) P:= .of (by unfold TB;rw[h,rE,h2,rE,if_pos hl]) k
theorem zj8 {l:List Xv} {aj:List (Key×Xv)} (h:zfb l=some aj) (nd:(aj.map (·.1)).Nodup) (k:P (.ref S.length) (S++[.dk aj])):WO (zd1 [.tup l] S) P:= .of (by show ((zfb l).bind _)=_;rw[h,rE,if_pos nd]) k
end
section
variable {X:Cx} {tg:Expr}
def zmy (K:r6) (tl:TE):TI:=λσ H R=>tl σ H λx H1=>∃a,x= .ref a/\(((∃xs,SqL K H1 a xs)/\R (Itl K a) H1)\/((∃xs,SqT K H1 a xs)/\R (Itt K a) H1))
theorem zhv {K:r6} {l:Expr} {tl:TE} (hl:PE X l tl) (hK:X.K=K:=by rfl):PI X tg l (zmy K tl):=by
 subst hK;intro pins s σ H R I h;refine thn (hl pins s σ H _ I h) ?_;rintro v s1 ⟨x,H1,I1,r1,a,rfl,⟨⟨xs,hq⟩,q⟩|⟨⟨xs,hq⟩,q⟩⟩
 .cases r1;obtain⟨af,rv,p,hz⟩:=I1.list hq;refine wpAny_pyIter_list p.isList ?_;refine⟨s1.heap.objs.size,[s1.heap.objs.size],_,_,H1,rfl,I1.kept (t':=s1.toks) λb o e=>Heap.get?_push_of_some _ e,zc3 a _,⟨_,Heap.get?_push_size _ rfl,rfl,rfl⟩,λb hb=> ?_,q⟩;have e:b=s1.heap.objs.size:=by simpa using hb
  subst e;exact I1.fpOk (rj _) (I1.hok.fresh (rj _))
 .cases r1;obtain⟨af,rv,p,hz⟩:=I1.tuple hq;refine wpAny_pyIter_tuple (show s1.heap.IsTuple a af.toArray from p) ?_;refine⟨s1.heap.objs.size,[s1.heap.objs.size],_,_,H1,rfl,I1.kept (t':=s1.toks) λb o e=>Heap.get?_push_of_some _ e,zbp a _,⟨_,Heap.get?_push_size _ rfl,rfl,rfl⟩,λb hb=> ?_,q⟩;have e:b=s1.heap.objs.size:=by simpa using hb
  subst e;exact I1.fpOk (rj _) (I1.hok.fresh (rj _))
end
noncomputable def iA (m:TwE):TwI:=λρ S=>rb (m ρ S) λx S1=>match x with
 | .ref n=>(zY S1 (.ref n)).map λ_=> .ok (λS=>zY S (.ref n)) S1
 |y=>y.tupOf.map λl=> .ok (λ_=>some l) S1
section
variable {K:r6} {E:XK}
theorem zlH {t:TE} {m:TwE} (h:RE K E t m):RI K E (zmy K t) (iA m):=by
 intro F j σ H ρ S r R En0 e k;rcases zv e with⟨x,S1,e1,e⟩|⟨c,S1,e1,rfl⟩
 .have lH:∀y:Xv,x=y->y.tupOf.map (λl=>Rs.ok (λ_=>some l) S1)=some r->t σ H (λx H1=>∃a,x= .ref a/\(((∃xs,SqL K H1 a xs)/\R (Itl K a) H1)\/((∃xs,SqT K H1 a xs)/\R (Itt K a) H1))):=by
   rintro y rfl e;cases el:x.tupOf with
   |none=>rw[el] at e;cases e
   |some l=>
    rw[el] at e;cases e;refine h En0 e1 λj1 H1 X1 E1 u hu=> ?_;obtain⟨a,vs,rfl,h1,_⟩:=hu.tupO el;refine⟨a,rfl,.inr ⟨⟨vs,h1⟩,k _ _ X1 E1 _ ?_⟩⟩;intro F2 j2 H2 σ2 ρ2 S2 xs i X2 E2 e2;cases e2;obtain⟨a',ws,ea,g1,g2⟩:=(hu.mono X2).tupO el;cases ea;refine⟨λy ey=> ?_,λhle=>⟨ws,g1,by rw[g2.len];omega⟩⟩;obtain⟨w,f1,f2⟩:=g2.get ey;refine⟨⟨ws,w,g1,f1⟩,?_⟩;rintro v' H' ⟨rfl,hx⟩;have:=hx ws g1;rw[f1] at this;cases this;exact⟨UI.refl _,f2⟩
  split at e
  .rename_i n;cases el:zY S1 (.ref n) with
   |none=>rw[el] at e;cases e
   |some l=>
    rw[el] at e;cases e;refine h En0 e1 λj1 H1 X1 E1 u hu=> ?_;obtain⟨a,vs,rfl,h1,_⟩:=E1.lstAt hu el;refine⟨a,rfl,.inl ⟨⟨vs,h1.sql⟩,k _ _ X1 E1 _ ?_⟩⟩;intro F2 j2 H2 σ2 ρ2 S2 xs i X2 E2 e2;obtain⟨a',ws,ea,g1,g2⟩:=E2.lstAt (hu.mono X2) e2;cases ea;refine⟨λy ey=> ?_,λhle=>⟨ws,g1.sql,by rw[g2.len];omega⟩⟩;obtain⟨w,f1,f2⟩:=g2.get ey;refine⟨⟨ws,w,g1.sql,f1⟩,?_⟩;rintro v' H' ⟨rfl,hx⟩;have:=hx ws g1.sql;rw[f1] at this;cases this;exact⟨UI.refl _,f2⟩
  .exact lH _ rfl e
 .exact h En0 e1 k
end
section
variable {m:TwE} {ρ:Rho} {S:Sto}
theorem zj9 {Q':(Sto->Option (List Xv))->Sto->Prop} (h:W (m ρ S) λx S1=>∃n l,x= .ref n/\zY S1 (.ref n)=some l/\Q' (λS=>zY S (.ref n)) S1):W (iA m ρ S) Q':=W.bind (h.imp λx S1 h=>by
 obtain⟨n,l,rfl,e,k⟩:=h;dsimp only;rw[e]
 exact .of rfl k)
theorem zka {Q':(Sto->Option (List Xv))->Sto->Prop} (h:W (m ρ S) λx S1=>∃l,x= .tup l/\Q' (λ_=>some l) S1):W (iA m ρ S) Q':=W.bind (h.imp λx S1 h=>by
 obtain⟨l,rfl,k⟩:=h
 exact .of rfl k)
end
end L2
namespace L2
open PySem PySem.Spec PyProof.Rows PyProof
open Builtin Builtin.Str
section
variable {X:Cx}
theorem zdp:∀{ts:List Str} {af:List Value},yf (ts.map V.str) af->∃l:List (Str×Tok),af=strValues l/\l.map (·.1)=ts
 |[],af,h=>by
  cases h;exact⟨[],rfl,rfl⟩
 |t::r,af,h=>by
  cases h with
  |cons rx rr=>
   obtain⟨k,rfl⟩:=rx;obtain⟨l,rfl,rfl⟩:=zdp rr;exact⟨(t,k)::l,rfl,rfl⟩
theorem zdq:∀(l:List (Str×Tok)),yf ((l.map (·.1)).map V.str) (strValues l)
 |[]=> .nil
 |(t,k)::r=> .cons ⟨k,rfl⟩ (zdq r)
def zmz:V->List V->Hp->VK->Prop:=λx vs H Q=>∃(sep:Str) (a:Addr) (ts:List Str),x= .str sep/\vs=[.ref a]/\H a=some (.lst (ts.map V.str))/\JoinOk sep ts=true/\Q (.str (Txt.join sep ts)) H
theorem TC:MtM X "str.join" zmz:=by
 intro pins s σ H x vs v us Q I rx rv h;obtain⟨sep,a,ts,rfl,rfl,hH,hok,q⟩:=h;obtain⟨t,rfl⟩:=rx;obtain⟨u,rfl,ru⟩:=rv.one;cases ru;obtain⟨zl,af,n,r,ju,e⟩:=I.lstM hH;obtain⟨l,rfl,hl⟩:=zdp r;exact SC.join (l:=l) (texts:=ts) ⟨_,e,rfl,_,rfl⟩ hl hok λt' k=>⟨.str _,H,I.tok _,⟨_,rfl⟩,q⟩
def zkb:V->List V->Hp->VK->Prop:=λx vs H Q=>∃(z sep:Str),x= .str z/\vs=[.str sep]/\z.length<=sizeLine/\(sep.length==0)=false/\(Txt.split z sep).length<=sizeLine/\∀a,H a=none->Q (.ref a) (upd H a (.lst ((Txt.split z sep).map V.str)))
theorem zfd:MtM X "str.split" zkb:=by
 intro pins s σ H x vs v us Q I rx rv h;obtain⟨z,y,rfl,rfl,hz,hy,hl,q⟩:=h;obtain⟨t,rfl⟩:=rx;obtain⟨_,rfl,u,rfl⟩:=rv.one;have hf:H s.heap.objs.size=none:=I.hok.fresh (rj _);have fin:∀(l:List (Str×Tok)) (k:Nat),l.map (·.1)=Txt.split z y->EP X pins σ Q (.ref s.heap.objs.size) {s with toks:=k,heap:=s.heap.push {cls:= .type "list",data:= .seq (strValues l).toArray}}:=by
  intro l k e;refine⟨.ref s.heap.objs.size,upd H s.heap.objs.size (.lst ((Txt.split z y).map V.str)),I.laid (t':=k) (λb u e=>Heap.get?_push_of_some _ e) (rj _) ?_,rfl,q _ hf⟩;exact⟨by rw[rh];exact hl,strValues l,0,by rw[<-e];exact zdq l,Heap.get?_push_size _ rfl⟩
 cases h1:(decide (z.length<y.length)||decide (strKind z<strKind y))
 .cases hf:(occurrences z y 0 z.length (z.length+1)).isEmpty
  .have g9:Txt.split z y=partsBetween z (occurrences z y 0 z.length (z.length+1)) y.length:=(if_neg (ne_true_of_eq_false h1)).trans (if_neg (ne_true_of_eq_false hf));refine call_meets F.slot_str_split (typeIs_str _ _ _) F.entry_str_split (F.args_str_split_2 _ _) (meets_str_split_sep z y t u h1 hy hf hz (by rw[<-g9];exact hl)) ?_;show wants _ _ _ {s with toks:=_,heap:=s.heap.push {cls:= .type "list",data:= .seq (strsFrom s.toks (partsBetween z (occurrences z y 0 z.length (z.length+1)) y.length)).toArray}};rw[strsFrom_eq];exact fin (numbered s.toks _) _ ((numbered_texts _ _).trans g9.symm)
  .exact call_meets F.slot_str_split (typeIs_str _ _ _) F.entry_str_split (F.args_str_split_2 _ _) (meets_str_split_not_found z y t u h1 hy hf) (fin [(z,t)] _ ((if_neg (ne_true_of_eq_false h1)).trans (if_pos hf)).symm)
 .exact call_meets F.slot_str_split (typeIs_str _ _ _) F.entry_str_split (F.args_str_split_2 _ _) (meets_str_split_cannot_occur z y t u h1) (fin [(z,t)] _ (if_pos h1).symm)
end
end L2
namespace L2
open PySem PySem.Spec PyProof.Rows PyProof
section
variable {X:Cx}
noncomputable def zbV:V->Option Str
 | .int i=>if i.natAbs.log2<1920 then some (toString i) else none
 | .str z=>some z
 |_=>none
theorem zdr {x:V} {v:Value} {z:Str} (rx:yr x v) (h:zbV x=some z):(∃i t,v= .int i t/\i.natAbs.log2<1920/\z=toString i)\/∃t,v= .str z t:=by
 cases x with
 |int i=>
  obtain⟨t,rfl⟩:=rx;have h:(if i.natAbs.log2<1920 then some (Str.ofString (toString i)) else none)=some z:=h;split at h
  .cases h;exact .inl ⟨_,_,rfl,by assumption,rfl⟩
  .cases h
 |str y=>
  obtain⟨t,rfl⟩:=rx;cases h;exact .inr ⟨t,rfl⟩
 |_=>cases h
theorem Wu:vC X (.type "str") (λxs H Q=>∃x z,xs=[x]/\zbV x=some z/\Q (.str z) H):=by
 intro pins s σ H xs us Q I r h;obtain⟨x,z,rfl,hz,q⟩:=h;obtain⟨u,rfl,ru⟩:=Xr r;rcases zdr ru hz with⟨i,t,rfl,hi,rfl⟩|⟨t,rfl⟩
 .exact PySem.P.str_of_int hi ⟨.str _,H,I.tok _,⟨_,rfl⟩,q⟩
 .exact PySem.P.str_of_str ⟨.str _,H,I,⟨_,rfl⟩,q⟩
theorem zds:vC X (.type "int") (λxs H Q=>∃x n,xs=[.str x]/\x.length<=640/\uE x=some n/\Q (.int n) H):=by
 intro pins s σ H xs us Q I r h;obtain⟨x,n,rfl,hl,hn,q⟩:=h;obtain⟨u,rfl,t,rfl⟩:=Xr r;exact PySem.W.KIN.call_text hn hl ⟨.int n,H,I.tok _,⟨_,rfl⟩,q⟩
def zpr (te:TE):TE:=λσ H Q=>te σ H λx H1=>∃z,zbV x=some z/\z.length<=sizeLine/\Q (.str z) H1
theorem zkc {e:Expr} {te:TE} {pos:Pos} (he:PE X e te):PE X (.FormattedValue e (-1) none pos) (zpr te):=by
 intro pins s σ H Q I h;refine wpAny_FormattedValue_plain (thn (he pins s σ H _ I h) ?_);rintro v s1 ⟨x,H1,I1,rx,z,hz,hl,q⟩;rcases zdr rx hz with⟨i,t,rfl,hi,rfl⟩|⟨t,rfl⟩
 .exact wpAny_formatField_int hi ⟨.str _,H1,I1.tok _,⟨_,rfl⟩,q⟩
 .exact wpAny_formatField_str ⟨.str _,H1,I1,⟨_,rfl⟩,q⟩ ⟨.str _,H1,I1.tok _,⟨_,rfl⟩,q⟩ hl
noncomputable def tJn:List TE->Str->TE
 |[],acc=>λ_ H Q=>Q (.str acc) H
 |t::r,acc=>λσ H Q=>t σ H λx H1=>∃z,x= .str z/\(acc++z).length<=sizeLine/\tJn r (acc++z) σ H1 Q
inductive PJ (X:Cx):List Expr->List TE->Prop where
 |nil:PJ X [] []
 |cons {e:Expr} {es:List Expr} {t:TE} {ts:List TE}:PE X e t->PJ X es ts->PJ X (e::es) (t::ts)
theorem PJ.joins {es:List Expr} {ts:List TE} (h:PJ X es ts):∀(acc:Str) (pins:List (Addr×Obj)) (s:Shared) (σ:St) (H:Hp) (Q:VK),acc.length<=sizeLine->Inv X pins σ H s->tJn ts acc σ H Q->
  Joins (model X.prog X.w) X.A X.xe (evalEach es X.env) acc (λout s1=>out.length<=sizeLine/\EP X pins σ Q (.str out s1.toks) {s1 with toks:=s1.toks+1}) s:=by
 induction h with
 |nil=>intro acc pins s σ H Q hl I q;exact⟨hl,.str _,H,I.tok _,⟨_,rfl⟩,q⟩
 |cons he hr ih=>
  intro acc pins s σ H Q hl I h;show wpAny _ _ _ _ _ _;refine thn (he pins s σ H _ I h) ?_;rintro v s1 ⟨x,H1,I1,rx,z,ez,hz,q⟩;subst ez;obtain⟨t,rfl⟩:=rx;exact⟨z,t,rfl,hz,ih _ pins s1 σ H1 Q hz I1 q⟩
theorem zlI {e1 e2:Expr} {es:List Expr} {ts:List TE} {pos:Pos} (h:PJ X (e1::e2::es) ts):PE X (.JoinedStr (e1::e2::es) pos) (tJn ts Str.empty):=by
 intro pins s σ H Q I q;exact wpAny_JoinedStr (h.joins Str.empty pins s σ H Q (rS _) I q)
end
end L2
namespace L2
open PySem PySem.Spec PyProof.Rows
noncomputable def zlJ:Xv->Option Str
 | .str z=>some z
 |_=>none
theorem zhw {x:Xv} {z:Str} (h:zlJ x=some z):x= .str z:=by
 cases x with
 |str y=>cases h;rfl
 |_=>cases h
noncomputable def zgu:Xv->Option Str
 | .int i=>if i.natAbs.log2<1920 then some (toString i) else none
 | .str z=>some z
 |_=>none
section
variable {K:r6} {E:XK} {F:Fm} {j:List Addr} {H:Hp} {σ:St} {ρ:Rho} {S:Sto}
theorem zfe {x:Xv} {u:V} {z:Str} (h:zgu x=some z) (hu:Xis K j H x u):zbV u=some z:=by
 cases x with
 |int i=>cases hu;exact h
 |str y=>cases hu;exact h
 |_=>cases h
noncomputable def zbW (f:OpM) (o:TwE) (ms:List TwE):TwE:=λρ S=>rb (o ρ S) λx S1=>(zlJ x).bind λ_=>rb (evL ms ρ S1) λys S2=>okP (f x ys S2)
theorem zbX {r:V->List V->Hp->VK->Prop} {f:OpM} {to:TE} {t:TA} {o:TwE} {ms:List TwE} (hr:zeV K r f) (ho:RE K E to o) (ht:RL K E t (evL ms)):RE K E (tBM K "str" r to t) (zbW f o ms):=by
 intro F j σ H ρ S r Q En0 e k;rcases zv e with⟨x,S1,e1,e⟩|⟨c,S1,e1,rfl⟩
 .refine ho En0 e1 λj1 H1 X1 E1 u hu=> ?_;cases el:zlJ x with
  |none=>rw[el] at e;cases e
  |some l=>
   rw[el] at e;have hx:=zhw el;subst hx;refine⟨by cases hu;exact rfl,?_⟩;rcases zv e with⟨ys,S2,e2,e⟩|⟨c,S2,e2,rfl⟩
   .obtain⟨z,S3,e3,rfl⟩:=wu e;exact ht E1 e2 λj2 H2 X2 E2 ws hw=>hr E2 (hu.mono X2) hw e3 λw j3 H3 X3 E3 hz=>k _ _ (X1.trans (X2.trans X3)) E3 _ hz
   .exact ht E1 e2 (PX.mono k X1)
 .exact ho En0 e1 k
noncomputable def UC:OpM:=λx ys S=>match x,ys with
 | .str sep,[y]=>(UM S y).bind λp=>(Tz p.2).bind λts=>if JoinOk sep ts=true then some (.str (Txt.join sep ts),S) else none
 |_,_=>none
theorem zd2:zeV K zmz UC:=by
 intro F j σ H ρ S S' x z ys u vs Q E0 hx hy h k;unfold UC at h;split at h
 .rename_i sep y;rw[rP] at h;obtain⟨⟨n,l⟩,e,h⟩:=h;rw[rP] at h;obtain⟨ts,e2,h⟩:=h;split at h
  .rename_i hj;cases h;cases hx;obtain⟨w0,rfl,hw⟩:=hy.d1;obtain⟨a,ws,rfl,lu,h1,h2⟩:=E0.wl hw e;have:=zbU e2 h2;subst this;exact⟨sep,a,ts,rfl,rfl,h1,hj,k _ _ _ Ext.refl E0 (.str _)⟩
  .cases h
 .cases h
theorem zff:∀ts:List Str,yo K j H (ts.map Xv.str) (ts.map V.str)
 |[]=> .nil
 |t::r=> .cons (.str t) (zff r)
noncomputable def UQ:OpM:=λx ys S=>match x,ys with
 | .str z,[.str sep]=>if z.length<=sizeLine/\(sep.length==0)=false/\(Txt.split z sep).length<=sizeLine then some (.ref S.length,S++[.lst ((Txt.split z sep).map Xv.str)]) else none
 |_,_=>none
theorem zfg:zeV K zkb UQ:=by
 intro F j σ H ρ S S' x z ys u vs Q E0 hx hy h k;unfold UQ at h;split at h
 .rename_i z sep;split at h
  .rename_i hc;cases h;cases hx;obtain⟨w0,rfl,hw⟩:=hy.d1;cases hw;refine⟨z,sep,rfl,rfl,hc.1,hc.2.1,hc.2.2,λa ha=> ?_⟩;obtain⟨E2,X2,h3⟩:=E0.lst (zff (Txt.split z sep)) ha;exact k _ _ _ X2 E2 h3
  .cases h
 .cases h
noncomputable def zaE:Opn:=λxs S=>match xs with
 |[x]=>(zgu x).map λz=>(.str z,S)
 |_=>none
theorem zd3:UK K (λxs H Q=>∃x z,xs=[x]/\zbV x=some z/\Q (.str z) H) zaE:=by
 intro F j σ H ρ S S' xs z vs Q E1 hv h k;unfold zaE at h;split at h
 .rename_i x;rw[rG] at h;obtain⟨y,e,h⟩:=h;cases h;obtain⟨w,rfl,hx⟩:=hv.d1;exact⟨w,y,rfl,zfe e hx,k _ _ _ Ext.refl E1 (.str _)⟩
 .cases h
noncomputable def zdt:Opn:=λxs S=>match xs with
 |[.str z]=>if z.length<=640 then (uE z).map λn=>(.int n,S) else none
 |_=>none
theorem zhx:UK K (λxs H Q=>∃x n,xs=[V.str x]/\x.length<=640/\uE x=some n/\Q (.int n) H) zdt:=by
 intro F j σ H ρ S S' xs z vs Q E1 hv h k;unfold zdt at h;split at h
 .rename_i x;split at h
  .rename_i hl;rw[rG] at h;obtain⟨n,e,h⟩:=h;cases h;obtain⟨w,rfl,hx⟩:=hv.d1;cases hx;exact⟨x,n,rfl,hl,e,k _ _ _ Ext.refl E1 (.int _)⟩
  .cases h
 .cases h
noncomputable def ziy:Xv->Sto->Option (Xv×Sto):=λx S=>(zgu x).bind λz=>if z.length<=sizeLine then some (.str z,S) else none
theorem znZ {to:TE} {o:TwE} (h:RE K E to o):RE K E (zpr to) (eUn ziy o):=by
 intro F j σ H ρ S r Q En0 e k;rcases zv e with⟨x,S1,e1,e⟩|⟨c,S1,e1,rfl⟩
 .refine h En0 e1 λj1 H1 X1 E1 u hu=> ?_;obtain⟨z,S2,e2,rfl⟩:=wu e;unfold ziy at e2;rw[rP] at e2;obtain⟨y,e3,e4⟩:=e2;split at e4
  .rename_i hl;cases e4;exact⟨y,zfe e3 hu,hl,k _ _ X1 E1 _ (.str _)⟩
  .cases e4
 .exact h En0 e1 k
noncomputable def eJn:List TwE->Str->TwE
 |[],acc=>λ_ S=>some (.ok (.str acc) S)
 |m::r,acc=>λρ S=>rb (m ρ S) λx S1=>(zlJ x).bind λz=>if (acc++z).length<=sizeLine then eJn r (acc++z) ρ S1 else none
inductive RJ (K:r6) (E:XK):List TE->List TwE->Prop where
 |nil:RJ K E [] []
 |cons {t:TE} {ts:List TE} {m:TwE} {ms:List TwE}:RE K E t m->RJ K E ts ms->RJ K E (t::ts) (m::ms)
theorem RJ.re {ts:List TE} {ms:List TwE} (h:RJ K E ts ms):∀acc:Str,RE K E (tJn ts acc) (eJn ms acc):=by
 induction h with
 |nil=>
  intro acc F j σ H ρ S r Q En0 e k;cases e;exact k _ _ Ext.refl En0 _ (.str _)
 | @cons t ts m ms hm hr ih=>
  intro acc F j σ H ρ S r Q En0 e k;rcases zv e with⟨x,S1,e1,e⟩|⟨c,S1,e1,rfl⟩
  .refine hm En0 e1 λj1 H1 X1 E1 u hu=> ?_;rw[rP] at e;obtain⟨z,ez,e⟩:=e;have hx:=zhw ez;subst hx;cases hu;split at e
   .rename_i hl;exact⟨z,rfl,hl,ih _ E1 e (k.step X1)⟩
   .cases e
  .exact hm En0 e1 k
theorem zlK {ts:List TE} {ms:List TwE} (h:RJ K E ts ms):RE K E (tJn ts Str.empty) (eJn ms Str.empty):=h.re Str.empty
end
noncomputable def zd4:Op2:=λx y S=>match x,y with
 | .str a,.str b=>some (.bl (decide (a=b)),S)
 | .non,.str _=>some (.bl false,S)
 |_,_=>none
theorem zkd {K:r6}:XN K rEq zd4:=by
 intro F j σ H ρ S S' x y z u v Q E1 hx hy h k;cases hx<;>cases hy<;>simp only[zd4,reduceCtorEq,sI,x4] at h<;>obtain⟨rfl,rfl⟩:=h<;>refine⟨rfl,k _ _ _ Ext.refl E1 ?_⟩<;>simp<;>exact .bl _
theorem zd5 {S:Sto} {P:Xv->Sto->Prop} {a b:Str} (k:P (.bl (decide (a=b))) S):WO (zd4 (.str a) (.str b) S) P:= .of rfl k
theorem zlL {S:Sto} {P:Xv->Sto->Prop} {b:Str} (k:P (.bl false) S):WO (zd4 .non (.str b) S) P:= .of rfl k
section
variable {K:r6} {E:XK} {j:List Addr} {H:Hp}
end
section
variable {ρ:Rho} {S:Sto} {P:Xv->Sto->Prop} {o m:TwE} {x y:Xv}
theorem zaF {f:OpM} {ms:List TwE} (h:W (o ρ S) λx S1=>(∃z,x= .str z)/\W (evL ms ρ S1) λys S2=>WO (f x ys S2) P):W (zbW f o ms ρ S) P:=W.bind (h.imp λx S1 h=>by
 obtain⟨⟨z,rfl⟩,h⟩:=h
 exact W.bind (h.imp λ_ _ h=>W.okP h))
theorem zbh {n:Nat} {l:List Xv} {sep:Str} {ts:List Str} (h:UM S y=some (n,l)) (h2:Tz l=some ts) (hj:JoinOk sep ts=true) (k:P (.str (Txt.join sep ts)) S):WO (UC (.str sep) [y] S) P:= .of (by unfold UC;dsimp only;rw[h,rE,h2,rE,if_pos hj]) k
theorem zfh {z sep:Str} (h:z.length<=sizeLine/\(sep.length==0)=false/\(Txt.split z sep).length<=sizeLine) (k:P (.ref S.length) (S++[.lst ((Txt.split z sep).map Xv.str)])):WO (UQ (.str z) [.str sep] S) P:= .of (by unfold UQ;exact if_pos h) k
theorem zbi {i:Int} (h:i.natAbs.log2<1920) (k:P (.str (toString i)) S):WO (zaE [.int i] S) P:= .of (by show ((if i.natAbs.log2<1920 then some (Str.ofString (toString i)) else none).map _)=_;rw[if_pos h];rfl) k
theorem zhy {z:Str} (k:P (.str z) S):WO (zaE [.str z] S) P:= .of rfl k
theorem zhz {z:Str} {n:Int} (hl:z.length<=640) (h:uE z=some n) (k:P (.int n) S):WO (zdt [.str z] S) P:= .of (by unfold zdt;dsimp only;rw[if_pos hl,h];rfl) k
theorem zlM {i:Int} (h:i.natAbs.log2<1920) (hl:(Str.ofString (toString i)).length<=sizeLine) (k:P (.str (toString i)) S):WO (ziy (.int i) S) P:= .of (by
 show ((if i.natAbs.log2<1920 then some (Str.ofString (toString i)) else none).bind _)=_
 rw[if_pos h,rE,if_pos hl]) k
theorem zlN {z:Str} (hl:z.length<=sizeLine) (k:P (.str z) S):WO (ziy (.str z) S) P:= .of (by
 show ((some z).bind _)=_
 rw[rE,if_pos hl]) k
theorem zn0 {acc:Str} (k:P (.str acc) S):W (eJn [] acc ρ S) P:= .of rfl k
theorem zhA {ms:List TwE} {acc:Str} (h:W (m ρ S) λx S1=>∃z,x= .str z/\(acc++z).length<=sizeLine/\W (eJn ms (acc++z) ρ S1) P):W (eJn (m::ms) acc ρ S) P:=W.bind (h.imp λx S1 h=>by
 obtain⟨z,rfl,hl,h⟩:=h;show W ((some z).bind λz=>if (acc++z).length<=sizeLine then eJn ms (acc++z) ρ S1 else none) P;rw[rE,if_pos hl]
 exact h)
end
inductive Sh (n:Nat):List D->Nat->Nat->Prop where
 |nil:Sh n [] 0 0
 |int {i:Int} {r:List D} {w e:Nat}:i.natAbs<2^n->Sh n r w e->Sh n (.int i::r) (n+1+w) e
 |str {z:Str} {r:List D} {w e:Nat}:z.length<=n->(z.cps.toList.all λc=>decide (c<16^8))=true->Sh n r w e->Sh n (.str z::r) (n+1+w) e
 |tup {l r:List D} {w e w' e':Nat}:Sh n l w e->Sh n r w' e'->Sh n (.tup l::r) (w+1+w') (max (e+1) e')
 |lst {l r:List D} {w e w' e':Nat}:Sh n l w e->Sh n r w' e'->Sh n (.lst l::r) (w+1+w') (max (e+1) e')
section
variable {X:Cx} {pins:List (Addr×Obj)} {σ:St} {H:Hp} {s:Shared}
theorem Sh.reads (I:Inv X pins σ H s) {n:Nat} {ds:List D} {w e:Nat} (h:Sh n ds w e):∀{vs:List V} {us:List Value},IsL X.K H vs ds->yf vs us->∃as,ReadsAll s.heap us (D.pys ds) as:=by
 induction h with
 |nil=>
  intro vs us h r;cases h;cases r;exact⟨_,.nil⟩
 |int _ _ ih=>
  intro vs us h r;cases h with
  |cons h l=>
   cases h;cases r with
   |cons r1 r2=>
    obtain⟨t,rfl⟩:=r1;obtain⟨as,ra⟩:=ih l r2;exact⟨_,.cons (.int _ t) ra⟩
 |str _ _ _ ih=>
  intro vs us h r;cases h with
  |cons h l=>
   cases h;cases r with
   |cons r1 r2=>
    obtain⟨t,rfl⟩:=r1;obtain⟨as,ra⟩:=ih l r2;exact⟨_,.cons (.str _ t) ra⟩
 |tup _ _ dW dU=>
  intro vs us h r;cases h with
  |cons h l=>
   cases h with
   | @tup a _ _ h2 l2=>
   cases r with
   |cons r1 r2=>
    cases r1;obtain⟨af,rv,⟨o,ho,hc,m,hd⟩,_⟩:=I.tuple h2;obtain⟨as,ra⟩:=dW l2 rv;obtain⟨bs,rb⟩:=dU l r2;exact⟨_,.cons (.tuple ho hc hd (by simpa using ra)) rb⟩
 |lst _ _ dW dU=>
  intro vs us h r;cases h with
  |cons h l=>
   cases h with
   | @lst a _ _ h2 l2=>
   cases r with
   |cons r1 r2=>
    cases r1;obtain⟨af,rv,⟨o,m,ho,hc,_,hd⟩,_⟩:=I.list h2;obtain⟨as,ra⟩:=dW l2 rv;obtain⟨bs,rb⟩:=dU l r2;exact⟨_,.cons (.list ho hc hd (by simpa using ra)) rb⟩
end
theorem Sh.show {n:Nat} (h0:8<=n) (h1:n<=1900) {ds:List D} {w e:Nat} (h:Sh n ds w e):PyData.showableAll (D.pys ds)=true/\PyData.hasDictAll (D.pys ds)=false/\PyData.leavesShortAll (n+1) (D.pys ds)=true/\PyData.weightAll (D.pys ds)<=w/\PyData.depthAll (D.pys ds)<=e:=by
 induction h with
 |nil=>exact⟨rfl,rfl,rfl,rS _,rj _⟩
 | @int i r w e h _ ih=>
  obtain⟨a,b,c,d,f⟩:=ih;have hl:i.natAbs.log2<n:=zga ⋯ h;refine⟨?_,?_,?_,?_,?_⟩
  .show (decide (i.natAbs.log2<1920)&&PyData.showableAll (D.pys r))=true;rw[a,decide_eq_true ⋯];rfl
  .exact b
  .show (decide ((Str.ofString (toString i)).length<=n+1)&&PyData.leavesShortAll (n+1) (D.pys r))=true;have:=int_text_length_le (k:=n) ⋯ hl;rw[<-PySem.ofString_length] at this;rw[c,decide_eq_true this];rfl
  .show (if i==0 then 0 else i.natAbs.log2+1)+1+PyData.weightAll (D.pys r)<=n+1+w;split<;>omega
  .show max 0 (PyData.depthAll (D.pys r))<=e;omega
 | @str z r w e h h2 _ ih=>
  obtain⟨a,b,c,d,f⟩:=ih;refine⟨a,b,?_,?_,?_⟩
  .show ((z.cps.toList.all λc=>decide (c<16^8))&&PyData.leavesShortAll (n+1) (D.pys r))=true;rw[h2,c];rfl
  .show z.cps.size+1+PyData.weightAll (D.pys r)<=n+1+w;have:z.cps.size<=n:=h;omega
  .show max 0 (PyData.depthAll (D.pys r))<=e;omega
 | @tup l r w e w' e' _ _ dW dU=>
  obtain⟨a,b,c,d,f⟩:=dW;obtain⟨a2,b2,c2,d2,f2⟩:=dU;refine⟨?_,?_,?_,?_,?_⟩
  .show (PyData.showableAll (D.pys l)&&PyData.showableAll (D.pys r))=true;rw[a,a2];rfl
  .show (PyData.hasDictAll (D.pys l)||PyData.hasDictAll (D.pys r))=false;rw[b,b2];rfl
  .show (PyData.leavesShortAll (n+1) (D.pys l)&&PyData.leavesShortAll (n+1) (D.pys r))=true;rw[c,c2];rfl
  .show PyData.weightAll (D.pys l)+1+PyData.weightAll (D.pys r)<=_;omega
  .show max (PyData.depthAll (D.pys l)+1) (PyData.depthAll (D.pys r))<=_;omega
 | @lst l r w e w' e' _ _ dW dU=>
  obtain⟨a,b,c,d,f⟩:=dW;obtain⟨a2,b2,c2,d2,f2⟩:=dU;refine⟨?_,?_,?_,?_,?_⟩
  .show (PyData.showableAll (D.pys l)&&PyData.showableAll (D.pys r))=true;rw[a,a2];rfl
  .show (PyData.hasDictAll (D.pys l)||PyData.hasDictAll (D.pys r))=false;rw[b,b2];rfl
  .show (PyData.leavesShortAll (n+1) (D.pys l)&&PyData.leavesShortAll (n+1) (D.pys r))=true;rw[c,c2];rfl
  .show PyData.weightAll (D.pys l)+1+PyData.weightAll (D.pys r)<=_;omega
  .show max (PyData.depthAll (D.pys l)+1) (PyData.depthAll (D.pys r))<=_;omega
structure zmA (d:D):Prop where
 seq:∃l,d= .tup l\/d= .lst l
 sh:∃n w e,Sh n [d] w e/\8<=n/\n<=1900/\e<=100/\(n+3)*w+n+1<=16777216
section
variable {X:Cx}
def zke (K:r6):List V->Hp->VK->Prop:=λxs H Q=>∃(x:V) (d:D),xs=[x]/\Is K H x d/\zmA d/\Q (.str (D.py d).shown) H
theorem zbY {k:Nat} {K:r6} (hr:Zs k X.A) (hK:X.K=K:=by rfl):vC X (.builtin "repr") (zke K):=by
 subst hK;intro pins s σ H xs us Q I r h;obtain⟨x,d,rfl,hi,⟨mh,n,w,e,sh,n0,n1,he,hz⟩,q⟩:=h;obtain⟨u,rfl,ru⟩:=Xr r;obtain⟨as,rd⟩:=sh.reads I (.cons hi .nil) (.cons ru .nil);obtain⟨as,rd⟩:∃as,Reads s.heap u (D.py d) as:=by
  cases rd with
  |cons r1 r2=>exact⟨_,r1⟩
 obtain⟨a,b,c,wt,f⟩:=sh.show n0 n1;have a:((D.py d).showable&&true)=true:=a;have b:((D.py d).hasDict||false)=false:=b;have c:((D.py d).leavesShort (n+1)&&true)=true:=c;have wt:(D.py d).weight+1+0<=w:=wt;have f:max (D.py d).depth 0<=e:=f;rw[x5] at a c;rw[Bb] at b;have hd:isDisplay (D.py d)=true:=by
  obtain⟨l,z|z⟩:=mh<;>(subst z;rfl)
 obtain⟨p,rfl⟩:=isRef_of_reads rd hd;have hlen:(D.py d).shown.length<=sizeLine:=by
  have h1:=PyData.shown_le (n+1) ⋯ (D.py d) c;have h3:(n+1+2)*(D.py d).weight<=(n+3)*w:=Nat.mul_le_mul_left _ ⋯;exact si h1 (by show _<=16777216;omega)
 have hu:=hr.un;exact repr_of_reads' rd a (PyData.noDict_hsm b) hr.gd ⋯ (λ_ _ e=>e) (λh' u tk hk=>⟨.str _,H,I.kept (t':=tk) hk,⟨_,rfl⟩,q⟩) hlen
end
open Classical in
noncomputable def UR:Opn:=λxs S=>match xs with
 |[x]=>(xY S 100 x).bind λd=>if zmA d then some (.str (D.py d).shown,S) else none
 |_=>none
theorem zfi {K:r6}:UK K (zke K) UR:=by
 intro F j σ H ρ S S' xs z vs Q E1 hv h k;unfold UR at h;split at h
 .rename_i x;rw[rP] at h;obtain⟨d,h1,h2⟩:=h;split at h2
  .rename_i hn;cases h2;obtain⟨w,rfl,hx⟩:=hv.d1;exact⟨w,d,rfl,(zbf E1 100 x w d hx h1).1,hn,k _ _ _ Ext.refl E1 (.str _)⟩
  .cases h2
 .cases h
end L2
namespace Mth
open PySem.Builtin.Int (intBits)
end Mth
namespace Prf
open PySem PySem.Spec PyProof.Rows L2
open PySem.Builtin.Int (intBits)
set_option maxHeartbeats 4000000
local macro_rules | `(tactic| walk_at "sc") => `(tactic| exact ⟨rfl, rfl, rfl, by decide +kernel, rfl, by decide +kernel, by decide +kernel⟩)
structure Fi (K:r6) (mg:Str->Option Value) (nm:Str) (st:Stmt) (ps:List Str) where
 a:Addr
 fd:FuncData
 F:Fun K nm nm st a fd
 m:mg nm=some (.ref a)
 b:Vx K fd ps []
structure Mi (K:r6) (g:Addr) (nm qn:Str) (st:Stmt) (ps:List Str) where
 a:Addr
 fd:FuncData
 F:Fun K nm qn st a fd
 b:Vx K fd ps []
 mt:zkU K g nm a
def LoN (K:r6) (x qual:Str) (st:Stmt) (f:Addr):Prop:=∃fd,Fun K x qual st f fd
def FL (K:r6) (nm:Str) (st:Stmt):Prop:=∃f,rD K mainGlobals nm=some (some (.ref f))/\LoN K nm nm st f
def ML (K:r6) (g:Addr) (nm qn:Str) (st:Stmt):Prop:=∃f,rK K (.ref g) nm=some (some (.ref f))/\uR K (.ref f)=true/\LoN K nm qn st f
theorem zps {K:r6} {x:Str} {st:Stmt} {f:Addr} {oc:Value} {od an:Option Addr} {gI:Array (Option Value)} {kV doc pm aH ct:Value} (a:rD K mainGlobals x=some (some (.ref f)))
  (l:K.lookup f=some ⟨oc,od,.func (tO x x (WD st) (Xs st) (zf st) .none kV doc pm an aH ct),gI⟩) (c:uD K aH x=true) (k:tK K (.ref f)=true):FL K x st:=⟨f,a,_,zi9 l c k⟩
theorem zpt {K:r6} {g:Addr} {x qn:Str} {st:Stmt} {f:Addr} {oc:Value} {od an:Option Addr} {gI:Array (Option Value)} {kV doc pm aH ct:Value} (a:rK K (.ref g) x=some (some (.ref f))) (i:uR K (.ref f)=true)
  (l:K.lookup f=some ⟨oc,od,.func (tO x qn (WD st) (Xs st) (zf st) .none kV doc pm an aH ct),gI⟩) (c:uD K aH qn=true) (k:tK K (.ref f)=true):ML K g x qn st:=⟨f,a,i,_,zi9 l c k⟩
def BA (x qual:Str) (st:Stmt) (ps:List Str):Prop:=∀(kV doc pm:Value) (an:Option Addr) (aH ct:Value) (us:List Value),us.length=ps.length->bindArgs (tO x qual (WD st) (Xs st) (zf st) .none kV doc pm an aH ct) ⟨us,[]⟩=pure (ps.zip us)
noncomputable def FL.to {K:r6} {h:Heap} {mg:Str->Option Value} {x:Str} {st:Stmt} {ps:List Str} (H:FL K x st) (X:K.In h) (G:h.Ns mainGlobals mg) (B:BA x x st ps):Fi K mg x st ps:=
 ⟨H.choose,H.choose_spec.2.choose,H.choose_spec.2.choose_spec,rR X G H.choose_spec.1,H.choose_spec.2.choose_spec.binds B⟩
noncomputable def ML.to {K:r6} {g:Addr} {x qn:Str} {st:Stmt} {ps:List Str} (H:ML K g x qn st) (B:BA x qn st ps):Mi K g x qn st ps:=
 ⟨H.choose,H.choose_spec.2.2.choose,H.choose_spec.2.2.choose_spec,H.choose_spec.2.2.choose_spec.binds B,⟨H.choose_spec.1,H.choose_spec.2.1,H.choose_spec.2.2.choose_spec.kp⟩⟩
theorem at0 {P:List Value->Prop} (h:P []):∀us:List Value,us.length=0->P us
 |[],_=>h
theorem at_ {P:List Value->Prop} {n:Nat} (h:∀(a:Value) (us:List Value),us.length=n->P (a::us)):∀us:List Value,us.length=n+1->P us
 |a::us,e=>h a us (Nat.succ.inj e)
theorem zn1 {K:r6} {mg:Str->Option Value} {st:Stmt} {x:Str} {fa:Addr} (f:Fi K mg "law" st [x]) (hK:∀s:Shared,K.In s.heap->True) (h:mg "law"=some (.ref fa)):fa=f.a:=by
 have e:=h.symm.trans f.m;injection e with e
 injection e
section
variable {P:Program} {w:World} {K:r6} {mg:Str->Option Value} {base:Heap} {fu:Nat}
noncomputable def top (i:Nat):Stmt:=PySem.Challenge.pw_lots_k21_whole_read_again.main.body.getD i (.Pass ⟨0,0,0,0⟩)
noncomputable abbrev US:Stmt:=top 5
noncomputable abbrev YB:Stmt:=top 14
noncomputable abbrev zaG:Stmt:=top 15
noncomputable abbrev VI:Stmt:=top 16
noncomputable abbrev VJ:Stmt:=top 27
noncomputable abbrev Xy:Stmt:=top 28
noncomputable abbrev ZF:Stmt:=top 29
noncomputable abbrev Xb:Stmt:=top 30
noncomputable abbrev YC:Stmt:=top 31
noncomputable abbrev WM:Stmt:=top 32
noncomputable abbrev Yl:Stmt:=top 33
noncomputable abbrev Xz:Stmt:=top 34
noncomputable abbrev ZG:Stmt:=top 35
noncomputable abbrev XS:Stmt:=top 36
noncomputable abbrev Xc:Stmt:=top 37
noncomputable abbrev WN:Stmt:=top 38
noncomputable abbrev YD:Stmt:=top 39
noncomputable abbrev zbj:Stmt:=top 41
noncomputable abbrev WP:Stmt:=top 42
noncomputable abbrev XA:Stmt:=top 43
noncomputable abbrev XT:Stmt:=top 44
noncomputable abbrev ve:Stmt:=zbc (top 46) 0
noncomputable abbrev vJ:Stmt:=zbc (top 46) 1
noncomputable abbrev WQ:Stmt:=zbc (top 46) 2
noncomputable abbrev vK:Stmt:=zbc (top 46) 3
noncomputable abbrev zgv:Stmt:=top 47
noncomputable abbrev WR:Stmt:=top 48
noncomputable abbrev WT:Stmt:=top 49
noncomputable abbrev VL:Stmt:=top 50
noncomputable abbrev YE:Stmt:=top 51
noncomputable abbrev Xd:Stmt:=top 52
noncomputable abbrev zaH:Stmt:=top 53
noncomputable abbrev XU:Stmt:=top 54
noncomputable abbrev Zy:Stmt:=top 55
noncomputable abbrev VM:Stmt:=top 56
noncomputable abbrev XV:Stmt:=top 57
noncomputable abbrev WU:Stmt:=top 58
noncomputable abbrev Xe:Stmt:=top 59
noncomputable abbrev XW:Stmt:=top 60
noncomputable abbrev VN:Stmt:=top 61
noncomputable abbrev VO:Stmt:=top 63
noncomputable abbrev VP:Stmt:=top 64
noncomputable abbrev WV:Stmt:=top 65
noncomputable abbrev Xf:Stmt:=top 66
noncomputable abbrev VQ:Stmt:=top 67
noncomputable abbrev Zz:Stmt:=top 68
noncomputable abbrev vL:Stmt:=top 69
noncomputable abbrev WW:Stmt:=top 70
noncomputable abbrev VR:Stmt:=top 71
noncomputable abbrev VS:Stmt:=top 72
noncomputable abbrev WX:Stmt:=top 73
noncomputable abbrev UT:Stmt:=top 74
noncomputable abbrev WY:Stmt:=top 75
noncomputable abbrev XX:Stmt:=top 76
noncomputable abbrev YF:Stmt:=top 77
noncomputable abbrev VT:Stmt:=top 78
noncomputable abbrev vy:Stmt:=top 79
noncomputable abbrev vf:Stmt:=top 80
noncomputable abbrev WZ:Stmt:=top 81
noncomputable abbrev Xg:Stmt:=top 82
noncomputable abbrev zkf:Stmt:=top 83
theorem zfj:zw ["thing"] ["thing"] (zf US):=by walk_at "sc"
theorem zcB:zw ["text","signs"] ["text","signs"] (zf YB):=by walk_at "sc"
theorem zgw:zw ["text"] ["text"] (zf zaG):=by walk_at "sc"
theorem zd6:zw ["text"] ["text"] (zf VI):=by walk_at "sc"
theorem zd7:zw ["deed"] ["deed"] (zf VJ):=by walk_at "sc"
theorem zd8:zw ["block"] ["block"] (zf Xy):=by walk_at "sc"
theorem VU:zw ["deed","inner"] ["deed"] (zf ZF):=by walk_at "sc"
theorem vg:zw ["block","deeds","deed","inner"] ["block"] (zf Xb):=by walk_at "sc"
theorem ZH:zw ["program","boxes","block","sizes"] ["program"] (zf YC):=by walk_at "sc"
theorem zcC:zw ["number","least","most"] ["number","least","most"] (zf WM):=by walk_at "sc"
theorem wH:zw ["boxes","names","states","name","size"] ["boxes"] (zf Yl):=by walk_at "sc"
theorem TD:zw ["sizes","deed","kind"] ["sizes","deed"] (zf Xz):=by walk_at "sc"
theorem zbZ:zw ["weights","size"] ["weights","size"] (zf ZG):=by walk_at "sc"
theorem zb0:zw ["deed"] ["deed"] (zf XS):=by walk_at "sc"
theorem za3:zw ["sizes","operand"] ["sizes","operand"] (zf Xc):=by walk_at "sc"
theorem zfk:zw ["block"] ["block"] (zf WN):=by walk_at "sc"
theorem zcD:zw ["deed"] ["deed"] (zf YD):=by walk_at "sc"
theorem zfl:zw ["program","rows"] ["program"] (zf zbj):=by walk_at "sc"
theorem XY:zw ["block","rows","deed"] ["block"] (zf WP):=by walk_at "sc"
theorem vM:zw ["deed","rows","between","place","block"] ["deed"] (zf XA):=by walk_at "sc"
theorem VW:zw ["deed","kind"] ["deed"] (zf XT):=by walk_at "sc"
theorem zaI:zw ["self","text"] ["self","text"] (zf ve):=by walk_at "sc"
theorem UU:zw ["self"] ["self"] (zf vJ):=by walk_at "sc"
theorem UD:zw ["self","words"] ["self"] (zf WQ):=by walk_at "sc"
theorem UV:zw ["self","word"] ["self","word"] (zf vK):=by walk_at "sc"
theorem TF:zw ["text","rows","boxes","block","program"] ["text"] (zf zgv):=by walk_at "sc"
theorem XZ:zw ["rows","boxes","words"] ["rows"] (zf WR):=by walk_at "sc"
theorem UE:zw ["rows","opened","deeds"] ["rows","opened"] (zf WT):=by walk_at "sc"
theorem Va:zw ["rows","opened","words","kind"] ["rows","opened"] (zf VL):=by walk_at "sc"
theorem zcE:zw ["kind","words"] ["kind","words"] (zf YE):=by walk_at "sc"
theorem Vp:zw ["rows","opened","block"] ["rows","opened"] (zf Xd):=by walk_at "sc"
theorem zb1:zw ["rows","test","opened","block"] ["rows","test","opened"] (zf zaH):=by walk_at "sc"
theorem VX:zw ["rows","opened","blocks"] ["rows","opened"] (zf XU):=by walk_at "sc"
theorem TH:zw ["words"] ["words"] (zf Zy):=by walk_at "sc"
theorem zd9:zw ["words"] ["words"] (zf VM):=by walk_at "sc"
theorem zb2:zw ["words","signs"] ["words","signs"] (zf XV):=by walk_at "sc"
theorem zcF:zw ["words"] ["words"] (zf WU):=by walk_at "sc"
theorem za4:zw ["word"] ["word"] (zf Xe):=by walk_at "sc"
theorem zb3:zw ["word"] ["word"] (zf XW):=by walk_at "sc"
theorem zea:zw ["word"] ["word"] (zf VN):=by walk_at "sc"
theorem Vb:zw ["_law_script","_law_k","_law_prime","_law_many","_law_cell"] ["_law_script","_law_k","_law_prime","_law_many"] (zf VO):=by walk_at "sc"
theorem yY:zw ["_law_script","_law_k","_law_at","_law_letters","_law_size","_law_name_here","_law_place","_law_turn"] ["_law_script","_law_k","_law_at"] (zf VP):=by walk_at "sc"
theorem yB:zw ["_law_script","_law_count","_law_most","_law_at","_law_boxes_here","_law_many","_law_k","_law_size","_law_name_here"] ["_law_script","_law_count","_law_most"] (zf WV):=by walk_at "sc"
theorem vh:zw ["_law_script","_law_k","_law_boxes_here","_law_cell","_law_way"] ["_law_script","_law_k","_law_boxes_here"] (zf Xf):=by walk_at "sc"
theorem TJ:zw ["_law_script","_law_k","_law_boxes_here","_law_sign"] ["_law_script","_law_k","_law_boxes_here"] (zf VQ):=by walk_at "sc"
theorem XB:zw ["_law_script","_law_k","_law_boxes_here","_law_sign"] ["_law_script","_law_k","_law_boxes_here"] (zf Zz):=by walk_at "sc"
theorem Yt:zw ["_law_script","_law_k","_law_size","_law_weights_here","_law_at"] ["_law_script","_law_k","_law_size"] (zf vL):=by walk_at "sc"
theorem ZI:zw ["_law_script","_law_k","_law_boxes_here","_law_way","_law_name_here","_law_size"] ["_law_script","_law_k","_law_boxes_here"] (zf WW):=by walk_at "sc"
theorem xH:zw ["_law_script","_law_k","_law_boxes_here","_law_nested","_law_stop","_law_way","_law_block_here","_law_behind","_law_number","_law_other"] ["_law_script","_law_k","_law_boxes_here","_law_nested","_law_stop"] (zf VR):=by walk_at "sc"
theorem xJ:zw ["_law_script","_law_k","_law_boxes_here","_law_nested","_law_stop","_law_many","_law_blocks","_law_behind","_law_number","_law_block_here"] ["_law_script","_law_k","_law_boxes_here","_law_nested","_law_stop"] (zf VS):=by walk_at "sc"
theorem wa:zw ["_law_script","_law_k","_law_boxes_here","_law_nested","_law_stop","_law_block_here","_law_going","_law_deed_here"] ["_law_script","_law_k","_law_boxes_here","_law_nested","_law_stop"] (zf WX):=by walk_at "sc"
theorem Ym:zw ["_law_script","_law_boxes_here","_law_nested","_law_stop","_law_top_here","_law_k","_law_deed_here"] ["_law_script","_law_boxes_here","_law_nested","_law_stop"] (zf UT):=by walk_at "sc"
theorem zcG:zw ["_law_deed_here"] ["_law_deed_here"] (zf WY):=by walk_at "sc"
theorem yv:zw ["_law_block_here","_law_length_here","_law_some","_law_deeds","_law_turns","_law_deed_here","_law_within","_law_inner_here"] ["_law_block_here"] (zf XX):=by walk_at "sc"
theorem zcH:zw ["_law_some"] ["_law_some"] (zf YF):=by walk_at "sc"
theorem YG:zw ["_law_block_here","_law_rows_here","_law_deed_here"] ["_law_block_here"] (zf VT):=by walk_at "sc"
theorem yq:zw ["_law_deed_here","_law_rows_here","_law_block_here"] ["_law_deed_here"] (zf vy):=by walk_at "sc"
theorem Wv:zw ["_law_boxes_here","_law_block_here","_law_rows_here"] ["_law_boxes_here","_law_block_here"] (zf vf):=by walk_at "sc"
theorem zcI:zw ["_law_boxes_here","_law_block_here"] ["_law_boxes_here","_law_block_here"] (zf WZ):=by walk_at "sc"
theorem yS:zw ["_law_script","_law_block_here","_law_k","_law_way"] ["_law_script","_law_block_here"] (zf Xg):=by walk_at "sc"
theorem Wa:zw ["_law_script","_law_boxes_here","_law_block_here","_law_program","_law_text","_law_found","_law_again"] ["_law_script"] (zf zkf):=by walk_at "sc"
set_option genInjectivity false in
set_option genSizeOf false in
structure Tx (K:r6) (mg:Str->Option Value) where
 cC:Fi K mg "is_whole" US ["thing"]
 bz:Fi K mg "is_made_of" YB ["text","signs"]
 cA:Fi K mg "is_name" zaG ["text"]
 bI:Fi K mg "is_number" VI ["text"]
 aZ:Fi K mg "blocks_of" VJ ["deed"]
 aY:Fi K mg "length_of" Xy ["block"]
 bH:Fi K mg "deed_length" ZF ["deed"]
 aG:Fi K mg "deeds_within" Xb ["block"]
 bT:Fi K mg "is_program" YC ["program"]
 aQ:Fi K mg "is_from_to" WM ["number","least","most"]
 cw:Fi K mg "boxes_fit" Yl ["boxes"]
 cu:Fi K mg "deed_fits" Xz ["sizes","deed"]
 bC:Fi K mg "weights_fit" ZG ["weights","size"]
 bD:Fi K mg "operands_of" XS ["deed"]
 bj:Fi K mg "operand_fits" Xc ["sizes","operand"]
 bo:Fi K mg "depth_of" WN ["block"]
 bU:Fi K mg "deed_depth" YD ["deed"]
 dF:Fi K mg "shown" zbj ["program"]
 aR:Fi K mg "block_rows" WP ["block"]
 cn:Fi K mg "deed_rows" XA ["deed"]
 bG:Fi K mg "first_words" XT ["deed"]
 fk:Fi K mg "read" zgv ["text"]
 bV:Fi K mg "boxes_from" WR ["rows"]
 au:Fi K mg "block_from" WT ["rows","opened"]
 cq:Fi K mg "deed_from" VL ["rows","opened"]
 bS:Fi K mg "plain_deed" YE ["kind","words"]
 aM:Fi K mg "closed_block" Xd ["rows","opened"]
 cU:Fi K mg "if_from" zaH ["rows","test","opened"]
 bF:Fi K mg "hand_blocks" XU ["rows","opened"]
 aV:Fi K mg "reckoning_from" Zy ["words"]
 bh:Fi K mg "test_from" VM ["words"]
 b8:Fi K mg "signed_from" XV ["words","signs"]
 bR:Fi K mg "turns_from" WU ["words"]
 aF:Fi K mg "operand_from" Xe ["word"]
 aU:Fi K mg "number_from" XW ["word"]
 aX:Fi K mg "name_from" VN ["word"]
 ae:Fi K mg "_law_draw" VO ["_law_script","_law_k","_law_prime","_law_many"]
 cx:Fi K mg "_law_name" VP ["_law_script","_law_k","_law_at"]
 bZ:Fi K mg "_law_boxes" WV ["_law_script","_law_count","_law_most"]
 ao:Fi K mg "_law_operand" Xf ["_law_script","_law_k","_law_boxes_here"]
 bu:Fi K mg "_law_test" VQ ["_law_script","_law_k","_law_boxes_here"]
 aW:Fi K mg "_law_reckoning" Zz ["_law_script","_law_k","_law_boxes_here"]
 bq:Fi K mg "_law_weights" vL ["_law_script","_law_k","_law_size"]
 bX:Fi K mg "_law_plain" WW ["_law_script","_law_k","_law_boxes_here"]
 b4:Fi K mg "_law_deed" VR ["_law_script","_law_k","_law_boxes_here","_law_nested","_law_stop"]
 cy:Fi K mg "_law_hand" VS ["_law_script","_law_k","_law_boxes_here","_law_nested","_law_stop"]
 b6:Fi K mg "_law_block" WX ["_law_script","_law_k","_law_boxes_here","_law_nested","_law_stop"]
 cD:Fi K mg "_law_top" UT ["_law_script","_law_boxes_here","_law_nested","_law_stop"]
 bY:Fi K mg "_law_inner" WY ["_law_deed_here"]
 b9:Fi K mg "_law_length" XX ["_law_block_here"]
 aS:Fi K mg "_law_words" YF ["_law_some"]
 av:Fi K mg "_law_rows" VT ["_law_block_here"]
 aN:Fi K mg "_law_nested_rows" vy ["_law_deed_here"]
 aO:Fi K mg "_law_all_rows" vf ["_law_boxes_here","_law_block_here"]
 bW:Fi K mg "_law_signs" WZ ["_law_boxes_here","_law_block_here"]
 bp:Fi K mg "_law_wrapped" Xg ["_law_script","_law_block_here"]
 eN:Fi K mg "law" zkf ["_law_script"]
 fE:mg "all"=none
 gR:mg "bool"=none
 gQ:mg "dict"=none
 eL:mg "enumerate"=none
 gA:mg "int"=none
 bN:mg "isinstance"=none
 aJ:mg "len"=none
 gP:mg "list"=none
 fY:mg "max"=none
 iQ:mg "min"=none
 dE:mg "range"=none
 gn:mg "repr"=none
 iP:mg "set"=none
 eK:mg "str"=none
 fX:mg "sum"=none
 b5:mg "tuple"=none
 aA:Addr
 g0:mg "LotsError"=some (.ref aA)
 cb:zf4 K mg "LotsError" aA [.type "ValueError",.type "Exception",.type "BaseException",.type "object"] "ValueError.__new__"
 g6:zeP K aA
 ck:tW K (.ref aA)=some (.type "type")
 bK:sk K aA (.type "BaseException")=some true
 cg:sk K aA (.type "ValueError")=some true
 b7:Addr
 gU:mg "NoText"=some (.ref b7)
 d6:zf4 K mg "NoText" b7 [.type "ValueError",.type "Exception",.type "BaseException",.type "object"] "ValueError.__new__"
 gW:zeP K b7
 d8:tW K (.ref b7)=some (.type "type")
 cV:sk K b7 (.type "BaseException")=some true
 d7:sk K b7 (.type "ValueError")=some true
 ay:Addr
 fZ:mg "NoProgram"=some (.ref ay)
 c9:zf4 K mg "NoProgram" ay [.type "ValueError",.type "Exception",.type "BaseException",.type "object"] "ValueError.__new__"
 g5:zeP K ay
 cj:tW K (.ref ay)=some (.type "type")
 bJ:sk K ay (.type "BaseException")=some true
 cf:sk K ay (.type "ValueError")=some true
 bA:Addr
 gS:mg "Rows"=some (.ref bA)
 aw:Cls K bA
 aq:rD K mainGlobals "Rows"=some (some (.ref bA))
 aK:Ys K bA "rows"
 aB:Ys K bA "place"
 aP:Mi K bA "__init__" "Rows.__init__" ve ["self","text"]
 gC:Mk K bA aP.a
 ah:Mi K bA "first_word" "Rows.first_word" vJ ["self"]
 aC:Mi K bA "taken" "Rows.taken" WQ ["self"]
 ag:Mi K bA "take_alone" "Rows.take_alone" vK ["self","word"]
 fF:∃t,mg "LETTERS"=some (.str "abcdefghijklmnopqrstuvwxyz" t)
 dv:∃t,mg "MOST_LETTERS"=some (.int 8 t)
 fG:∃t,mg "FIGURES"=some (.str "0123456789" t)
 dw:∃t,mg "MOST_FIGURES"=some (.int 9 t)
 ak:Addr
 cI:mg "RECKONING_SIGNS"=some (.ref ak)
 cJ:∀H,SqT K H ak [.str "+",.str "-",.str "*"]
 aT:Addr
 dZ:mg "TEST_SIGNS"=some (.ref aT)
 ef:∀H,SqT K H aT [.str "=",.str "<",.str "#"]
 ax:Addr
 c5:mg "BLOCK_KINDS"=some (.ref ax)
 c7:∀H,SqT K H ax [.str "if",.str "while",.str "times",.str "hand"]
 e8:∃t,mg "MOST_BOXES"=some (.int 9 t)
 eM:∃t,mg "MOST_SIZE"=some (.int 9 t)
 dH:∃t,mg "MOST_STATES"=some (.int 1000 t)
 cM:∃t,mg "MOST_NUMBER"=some (.int 999999999 t)
 e7:∃t,mg "MOST_TURNS"=some (.int 60 t)
 d4:∃t,mg "FEWEST_BLOCKS"=some (.int 2 t)
 dJ:∃t,mg "MOST_BLOCKS"=some (.int 8 t)
 cL:∃t,mg "MOST_WITHIN"=some (.int 12 t)
 dI:∃t,mg "MOST_LENGTH"=some (.int 100 t)
local macro_rules | `(tactic| walk_at "q1") => `(tactic| first | exact .inl rfl | exact .inr rfl | assumption)
local macro_rules | `(tactic| walk_at "q2") => `(tactic| ((try simp only [Nat.add_eq]); omega))
local macro_rules | `(tactic| walk_at "q3") => `(tactic| first | with_reducible exact zdO | with_reducible exact zjl | with_reducible exact zlg | with_reducible exact zeS | with_reducible exact zlf | with_reducible exact zdN | with_reducible exact zjk)
local macro_rules | `($f \ ($o,$h,$p,$x)) => `(zkW $o $h rfl ($f).m ($f).F.kp ($f).b .nil $p $x) | `($a \ $b) => `(@yW _ _ _ _ _ $a $b (by walk_at "q3"))
local macro_rules | `($a <|> $b) => `(@ziP _ _ _ _ _ $a $b)
local macro_rules | `(¬$a) => `(@zkP _ _ _ $a)
local macro_rules | `(!$a) => `(@zmR _ _ _ _ $a)
local macro_rules | `(~~~$a) => `(@zm4 _ _ _ _ _ $a)
local macro_rules | `($r % ($a,$b)) => `(@zoM _ _ _ _ _ _ _ $r $a $b fun _ _ => rfl)
local macro_rules | `(tactic| walk_at "re") => `(tactic| repeat first | with_reducible apply zi | with_reducible apply zn | with_reducible apply yV | with_reducible apply zy | with_reducible apply xE | with_reducible apply zW | with_reducible apply yX | with_reducible apply yt | with_reducible apply yZ | with_reducible apply xu | with_reducible apply wP | with_reducible apply Yh | with_reducible apply zbF | with_reducible apply zbD | with_reducible apply xF | with_reducible apply Tj | with_reducible apply WH | with_reducible apply wE | with_reducible apply zay | with_reducible apply UN | with_reducible apply zdT | with_reducible apply UL | with_reducible apply zax | with_reducible apply zbI | with_reducible apply zms | with_reducible apply zbe | with_reducible apply zbd | with_reducible apply zgg | with_reducible apply zhc | with_reducible apply zjp | with_reducible apply znk | with_reducible apply WI | with_reducible apply zmr | with_reducible apply zo1 | with_reducible apply zjx | with_reducible apply wF | with_reducible apply Uz | with_reducible apply zhe | with_reducible apply VE | with_reducible apply vD | with_reducible apply zjv | with_reducible apply zg9 | with_reducible apply zjC | with_reducible apply zhb | with_reducible apply Tk | with_reducible apply zeT | with_reducible apply zjA | with_reducible apply zo9 | with_reducible apply znl | with_reducible apply zjI | with_reducible apply YX | with_reducible apply zii | with_reducible apply Tl | with_reducible apply znu | with_reducible apply zjO | with_reducible apply zhh | with_reducible apply zjr | with_reducible apply zgh | with_reducible apply zgk | with_reducible apply zha | with_reducible apply zdj | with_reducible apply RJ.cons | with_reducible apply zbX | with_reducible apply zd2 | with_reducible apply zbG | with_reducible apply zd3 | with_reducible apply zjH | with_reducible apply zpa | with_reducible apply zo2 | with_reducible apply zjE | with_reducible apply zjD | with_reducible apply zjw | with_reducible apply zgn | with_reducible apply zjG | with_reducible apply zau | with_reducible apply zho | with_reducible apply znY | with_reducible apply zhd | with_reducible apply znZ | with_reducible apply zhx | with_reducible apply zlH | with_reducible apply zfi | with_reducible apply zhn | with_reducible apply znm | with_reducible apply ze1 | with_reducible apply znX | with_reducible apply zj5 | with_reducible apply zo3 | with_reducible apply ziw | with_reducible apply znv | with_reducible apply zhk | with_reducible apply zim | with_reducible apply zlo | with_reducible apply zht | with_reducible apply zfc | with_reducible apply zlK | with_reducible apply RJ.nil | with_reducible apply zjB | with_reducible apply znp | with_reducible apply zhj | with_reducible apply zjt | with_reducible apply zju | with_reducible apply znq | with_reducible apply zjF | exact rfl | exact Nat.le_of_ble_eq_true rfl | exact zbF | exact zay | exact UN | exact zax | exact zhc | exact WI | exact zhe | exact VE | exact vD | exact zjC | exact zhb | exact zjA | exact zjI | exact zhh | exact zjr | exact zdj | exact zd2 | exact zd3 | exact zjH | exact zjE | exact zjD | exact zgn | exact zjG | exact zau | exact zho | exact zhd | exact zhx | exact zfi | exact zhn | exact ze1 | exact zj5 | exact zhk | exact zfc | exact zjB | exact zhj | exact zju | exact zjF | apply Uz | apply zbX | apply zjt)
local macro_rules | `($s ^^^ ($i,$o,$e)) => `(@zmX _ _ $i _ _ _ _ ($s).nd rfl $o $e (by rfl) (by walk_at "q1"))
noncomputable def XC (fu:Nat):TwS:=(zG (zge (eUn (ze2 "int") (za 0)) (eB (XQ (bE (eUn (ze2 "bool") (za 0)))))))
noncomputable def VY (fu:Nat):TwF:=zK 1 0 (XC fu)
theorem zfm (T:Tx K mg):zZ P w K mg base (CXE P w) 1 T.cC.a T.cC.fd ["thing"] (sTw K 1 (VY fu)):=
 T.cC.F.okE zfj (λvs H Q E h=>h.1) (λaH A outer s H vs Q E hr h=>⟨_,(¬(!zbo (zA (Uh (K:=K)) rfl T.bN boot_isinstance (yW (pv 0) (yW (zba (v:= .ty "int") rfl T.gA boot_int rfl) zb))) (zam (zmQ (zA (Uh (K:=K)) rfl T.bN boot_isinstance (yW (pv 0) (yW (zba (v:= .ty "bool") rfl T.gR boot_bool rfl) zb))))))),zV (n:=1) (k:=0) (b:=XC fu) rfl (by unfold XC;walk_at "re") h⟩)
noncomputable def wT (fu:Nat):TwS:=(zG (eFn zbM [(xQ [none,some 1] (iS (za 0)) (gN 0) xR (eOp ziu (za 0) (za 1)))]))
noncomputable def ZJ (fu:Nat):TwF:=zK 2 0 (wT fu)
theorem UF (T:Tx K mg):zZ P w K mg base (CXE P w) 1 T.bz.a T.bz.fd ["text","signs"] (sTw K 2 (ZJ fu)):=
 T.bz.F.okE zcB (λvs H Q E h=>h.1) (λaH A outer s H vs Q E hr h=>⟨_,(¬(!zA (Wn (K:=K) rfl) rfl T.fE PyProof.Rows.Boot.«all» (yW (wC (N':=["sign","signs"]) rfl (blk (osc:=zf YB) rfl (by decide+kernel)) (xt (Ti (i:=1) rfl rfl xD)) (znR (pv 0)) (yy rfl) (λC s₀ H₀ fp=>zL (i:=0) (show (["sign","signs"]:List Str).Nodup from by decide+kernel) rfl (rm rfl)) (λC s₀ H₀ fp=>xC) (λC s₀ H₀ fp=>(Td zhX (pv 0) (pv 1) (by rfl)))) zb))),zV (n:=2) (k:=0) (b:=wT fu) rfl (by unfold wT;walk_at "re") h⟩)
noncomputable def Vc (fu:Nat):TwS:=(zG (zge (UP (λi j=>decide (i<=j)) (λi j=>decide (i<=j)) (eC (.int 1)) (eFn zaV [(za 0)]) (eC (.int 8))) (ze (ZJ fu) [(za 0),(eC (.str "abcdefghijklmnopqrstuvwxyz"))])))
noncomputable def Xh (fu:Nat):TwF:=zK 1 0 (Vc fu)
theorem zb4 (T:Tx K mg):zZ P w K mg base (CXE P w) 2 T.cA.a T.cA.fd ["text"] (sTw K 1 (Xh fu)):=
 T.cA.F.okE zgw (λvs H Q E h=>h.1) (λaH A outer s H vs Q E hr h=>⟨_,(¬(!zbo (zey zaR zaR zc (zA YA rfl T.aJ boot_len (pv 0\zb)) (match T.dv with|⟨t,h⟩=>xc (v:= .int 8) rfl h ⟨t,rfl⟩)) (zam (T.bz\(UF (fu:=fu) T,hr.mono ∅,zj,pv 0\(match T.fF with|⟨t,h⟩=>xc (v:= .str "abcdefghijklmnopqrstuvwxyz") rfl h ⟨t,rfl⟩\zb)))))),zV (n:=1) (k:=0) (b:=Vc fu) rfl (by unfold Vc;walk_at "re") h⟩)
noncomputable def YH (fu:Nat):TwS:=(zk (sIf (bOr (XQ (bE (UP (λi j=>decide (i<=j)) (λi j=>decide (i<=j)) (eC (.int 1)) (eFn zaV [(za 0)]) (eC (.int 9))))) (XQ (bE (ze (ZJ fu) [(za 0),(eC (.str "0123456789"))])))) (zG (eC (.bl false))) zx) (zG (eOr (eOp (yk true) (eOp zbE (za 0) (eC (.int 0))) (eC (.str "0"))) (eOp (yk false) (za 0) (eC (.str "0"))))))
noncomputable def YI (fu:Nat):TwF:=zK 1 0 (YH fu)
theorem TK (T:Tx K mg):zZ P w K mg base (CXE P w) 2 T.bI.a T.bI.fd ["text"] (sTw K 1 (YI fu)):=
 T.bI.F.okE zd6 (λvs H Q E h=>h.1) (λaH A outer s H vs Q E hr h=>⟨_,(zD (PW.pt (Wj (vG (zez zaR zaR zc (zA YA rfl T.aJ boot_len (pv 0\zb)) (match T.dw with|⟨t,h⟩=>xc (v:= .int 9) rfl h ⟨t,rfl⟩))) (Zp (vG (vt (T.bz\(UF (fu:=fu) T,hr.mono ∅,zj,pv 0\(match T.fG with|⟨t,h⟩=>xc (v:= .str "0123456789") rfl h ⟨t,rfl⟩\zb)))))))) (¬(!Vn)) zr<|>¬(!zov (Td ziX (zdC%(pv 0,zc)) zg (by rfl)) (zam (Td yG (pv 0) zg (by rfl))))),zV (n:=1) (k:=0) (b:=YH fu) rfl (by unfold YH;walk_at "re") h⟩)
noncomputable def YJ (fu:Nat):TwS:=(zk (sIf (bE (eOp (yk false) (eOp zM (za 0) (eC (.int 0))) (eC (.str "if")))) (zG (yn [(eOp zM (za 0) (eC (.int 2))),(eOp zM (za 0) (eC (.int 3)))])) zx) (zk (sIf (bOr (bE (eOp (yk false) (eOp zM (za 0) (eC (.int 0))) (eC (.str "while")))) (bE (eOp (yk false) (eOp zM (za 0) (eC (.int 0))) (eC (.str "times"))))) (zG (yn [(eOp zM (za 0) (eC (.int 2)))])) zx) (zk (sIf (bE (eOp (yk false) (eOp zM (za 0) (eC (.int 0))) (eC (.str "hand")))) (zG (eOp zM (za 0) (eC (.int 1)))) zx) (zG (yn [])))))
noncomputable def xK (fu:Nat):TwF:=zK 1 0 (YJ fu)
theorem YK (T:Tx K mg):zZ P w K mg base (CXE P w) 1 T.aZ.a T.aZ.fd ["deed"] (sTw K 1 (xK fu)):=
 T.aZ.F.okE zd7 (λvs H Q E h=>h.1) (λaH A outer s H vs Q E hr h=>⟨_,(zD (zJ yG (zt (K:=K)%(pv 0,zc)) zg (by rfl)) (¬(!(~~~((zt (K:=K)%(pv 0,zc))\((zt (K:=K)%(pv 0,zc))\zb))))) zr<|>zD (PW.pt (Wj (zJ yG (zt (K:=K)%(pv 0,zc)) zg (by rfl)) (Zp (zJ yG (zt (K:=K)%(pv 0,zc)) zg (by rfl))))) (¬(!(~~~((zt (K:=K)%(pv 0,zc))\zb)))) zr<|>zD (zJ yG (zt (K:=K)%(pv 0,zc)) zg (by rfl)) (¬(!(zt (K:=K)%(pv 0,zc)))) zr<|>¬(!(~~~zb))),zV (n:=1) (k:=0) (b:=YJ fu) rfl (by unfold YJ;walk_at "re") h⟩)
noncomputable def vN (fu:Nat) (eI:TwF) (dG:TwF):TwS:=(zG (eFn zgm [(xQ [none] (iT (za 0)) (gN 0) xR (ze dG [(za 0)]))]))
noncomputable def wx (fu:Nat) (eI:TwF) (dG:TwF):TwS:=(zk (zF (eFn zgm [(xQ [none] (iT (ze (xK fu) [(za 0)])) (gN 0) xR (ze eI [(za 0)]))]) (gN 1)) (zk (sIf (bE (eOp (yk false) (eOp zM (za 0) (eC (.int 0))) (eC (.str "times")))) (zG (eOp xj (eC (.int 1)) (eOp Wq (eFn zgl [(eOp zM (za 0) (eC (.int 1))),(eC (.int 1))]) (eOp xj (eC (.int 1)) (za 1))))) zx) (zG (eOp xj (eC (.int 1)) (za 1)))))
mutual
noncomputable def zX (fu:Nat):Nat->TwF
 |0=>λ_ _=>none
 |n+1=>zK 1 0 (vN fu (zX fu n) (yj fu n))
noncomputable def yj (fu:Nat):Nat->TwF
 |0=>λ_ _=>none
 |n+1=>zK 1 1 (wx fu (zX fu n) (yj fu n))
end
theorem XD (fu n:Nat):zX fu (n+1)=zK 1 0 (vN fu (zX fu n) (yj fu n)):=by rw[zX]
theorem TL (fu:Nat):zX fu 0=λ_ _=>none:=by rw[zX]
theorem Yy (fu n:Nat):yj fu (n+1)=zK 1 1 (wx fu (zX fu n) (yj fu n)):=by rw[yj]
theorem Ut (fu:Nat):yj fu 0=λ_ _=>none:=by rw[yj]
theorem zcJ (T:Tx K mg):∀n:Nat,zZ P w K mg base (CXE P w) (1+n) T.aY.a T.aY.fd ["block"] (sTw K 1 (zX fu n))/\zZ P w K mg base (CXE P w) (1+n) T.bH.a T.bH.fd ["deed"] (sTw K 1 (yj fu n)):=by
 intro n
 induction n with
 |zero=>
  refine⟨?_,?_⟩
  .rw[TL];exact xG
  .rw[Ut];exact xG
 |succ n ih=>
  refine⟨?_,?_⟩
  .rw[XD];exact T.aY.F.okE zd8 (λvs H Q E h=>h.1) (λaH A outer s H vs Q E hr h=>⟨_,(¬(!zA (zas (K:=K) rfl) rfl T.fX PyProof.Rows.Boot.«sum» (yW (wC (N':=["deed"]) rfl (blk (osc:=zf Xy) rfl (by decide+kernel)) (xt xD) (xP (K:=K) (pv 0)) (yy rfl) (λC s₀ H₀ fp=>zL (i:=0) (show (["deed"]:List Str).Nodup from by decide+kernel) rfl (rm rfl)) (λC s₀ H₀ fp=>xC) (λC s₀ H₀ fp=>(T.bH\(ih.2,hr.mono (by walk_at "q2"),Uy,pv 0\zb)))) zb))),zV (n:=1) (k:=0) (b:=vN fu (zX fu n) (yj fu n)) rfl (by unfold vN;walk_at "re") h⟩)
  .rw[Yy];exact T.bH.F.okE VU (λvs H Q E h=>h.1) (λaH A outer s H vs Q E hr h=>⟨_,((VU^^^(1,rm rfl,zA (zas (K:=K) rfl) rfl T.fX PyProof.Rows.Boot.«sum» (yW (wC (N':=["block"]) rfl (blk (osc:=zf ZF) rfl (by decide+kernel)) (xt xD) (xP (K:=K) (T.aZ\(YK (fu:=fu) T,hr.mono (by walk_at "q2"),zj,pv 0\zb))) (yy rfl) (λC s₀ H₀ fp=>zL (i:=0) (show (["block"]:List Str).Nodup from by decide+kernel) rfl (rm rfl)) (λC s₀ H₀ fp=>xC) (λC s₀ H₀ fp=>(T.aY\(ih.1,hr.mono (by walk_at "q2"),Uy,pv 0\zb)))) zb)))<|>zD (zJ yG (zt (K:=K)%(pv 0,zc)) zg (by rfl)) (¬(!zE yu zc (zE WG (zA (zc4 rfl) rfl T.fY boot_max ((zt (K:=K)%(pv 0,zc))\(zc\zb))) (zE yu zc (pv 1))))) zr<|>¬(!zE yu zc (pv 1))),zV (n:=1) (k:=1) (b:=wx fu (zX fu n) (yj fu n)) rfl (by unfold wx;walk_at "re") h⟩)
theorem zeb (T:Tx K mg) (n:Nat):zZ P w K mg base (CXE P w) (1+n) T.aY.a T.aY.fd ["block"] (sTw K 1 (zX fu n)):=(zcJ T n).1
noncomputable def xZ (fu:Nat) (eU:TwF):TwS:=(zk (zF (wv []) (gN 1)) (zk (Wp (iT (za 0)) (gN 2) (zk (yJ (eMt yg (za 1) [(za 2)])) (Wp (iT (ze (xK fu) [(za 2)])) (gN 3) (yJ (eMt Xw (za 1) [(ze eU [(za 3)])]))))) (zG (za 1))))
noncomputable def zO (fu:Nat):Nat->TwF
 |0=>λ_ _=>none
 |n+1=>zK 1 3 (xZ fu (zO fu n))
theorem Yn (fu n:Nat):zO fu (n+1)=zK 1 3 (xZ fu (zO fu n)):=by rfl
theorem VZ (fu:Nat):zO fu 0=λ_ _=>none:=by rfl
theorem zaJ (T:Tx K mg):∀n:Nat,zZ P w K mg base (CXE P w) (1+n) T.aG.a T.aG.fd ["block"] (sTw K 1 (zO fu n)):=by
 intro n
 induction n with
 |zero=>
  skip
  .rw[VZ];exact xG
 |succ n ih=>
  .rw[Yn];exact T.aG.F.okE vg (λvs H Q E h=>h.1) (λaH A outer s H vs Q E hr h=>⟨_,((vg^^^(1,rm rfl,@yR _ _ _ _ zb))<|>Zr PassesOwn.leaving rfl (xP (K:=K) (pv 0)) (zL (i:=2) vg.nd rfl (rm rfl)) (yM (xW rH rN rO yH (pv 1) (pv 2\zb))<|>¬Zr PassesOwn.leaving rfl (xP (K:=K) (T.aZ\(YK (fu:=fu) T,hr.mono (by walk_at "q2"),zj,pv 2\zb))) (zL (i:=3) vg.nd rfl (rm rfl)) (¬yM (xW rH uy uz (UJ (K:=K)) (pv 1) ((T.aG\(ih,hr.mono (by walk_at "q2"),zj,pv 3\zb))\zb))))<|>¬(!pv 1)),zV (n:=1) (k:=3) (b:=xZ fu (zO fu n)) rfl (by unfold xZ;walk_at "re") h⟩)
theorem za5 (T:Tx K mg) (n:Nat):zZ P w K mg base (CXE P w) (1+n) T.aG.a T.aG.fd ["block"] (sTw K 1 (zO fu n)):=(zaJ T n)
noncomputable def ZK (fu:Nat):TwS:=(zG (zge (ze (VY fu) [(za 0)]) (UP (λi j=>decide (i<=j)) (λi j=>decide (i<=j)) (za 1) (za 0) (za 2))))
noncomputable def xM (fu:Nat):TwF:=zK 3 0 (ZK fu)
theorem ZL (T:Tx K mg):zZ P w K mg base (CXE P w) 2 T.aQ.a T.aQ.fd ["number","least","most"] (sTw K 3 (xM fu)):=
 T.aQ.F.okE zcC (λvs H Q E h=>h.1) (λaH A outer s H vs Q E hr h=>⟨_,(¬(!zbo (T.cC\(zfm (fu:=fu) T,hr.mono ∅,zj,pv 0\zb)) (zam (zey zaR zaR (pv 1) (pv 0) (pv 2))))),zV (n:=3) (k:=0) (b:=ZK fu) rfl (by unfold ZK;walk_at "re") h⟩)
noncomputable def YL (fu:Nat):TwS:=(zk (zF (xQ [none] (iT (za 0)) (gN 0) xR (eOp zM (za 0) (eC (.int 0)))) (gN 1)) (zk (sIf (bOr (bE (eOp dGt (eFn ww [(za 1)]) (eC (.int 9)))) (bE (eOp zdS (eUn TB (za 1)) (eFn ww [(za 1)])))) (zG (eC (.bl false))) zx) (zk (sIf (XQ (bE (eFn zbM [(xQ [none] (iL (za 1)) (gN 0) xR (ze (Xh fu) [(za 0)]))]))) (zG (eC (.bl false))) zx) (zk (zF (eC (.int 1)) (gN 2)) (zk (Wp (iT (za 0)) (gT 2 (yA (gN 3) (yA (gN 4) Yg))) (zk (sIf (XQ (bE (ze (xM fu) [(za 4),(eC (.int 1)),(eC (.int 9))]))) (zG (eC (.bl false))) zx) (zF (eOp Wq (za 2) (za 4)) (gN 2)))) (zG (eOp dLe (za 2) (eC (.int 1000)))))))))
noncomputable def Vd (fu:Nat):TwF:=zK 1 4 (YL fu)
theorem zec (T:Tx K mg):zZ P w K mg base (CXE P w) 3 T.cw.a T.cw.fd ["boxes"] (sTw K 1 (Vd fu)):=
 T.cw.F.okE wH (λvs H Q E h=>h.1) (λaH A outer s H vs Q E hr h=>⟨_,(WE (i:=1) (N':=["box"]) rfl (blk (osc:=zf Yl) rfl (by decide+kernel)) (xt xD) (xP (K:=K) (pv 0)) (yy rfl) (λC s₀ H₀ fp=>zL (i:=0) (show (["box"]:List Str).Nodup from by decide+kernel) rfl (rm rfl)) (λC s₀ H₀ fp=>xC) (λC s₀ H₀ fp=>(zt (K:=K)%(pv 0,zc))) wH.nd rfl rfl<|>zD (PW.pt (Wj (zN (Zm (zA (zU (K:=K)) rfl T.aJ boot_len (pv 1\zb)) (match T.e8 with|⟨t,h⟩=>xc (v:= .int 9) rfl h ⟨t,rfl⟩))) (Zp (zN (zal (zit (K:=K) rfl rfl T.aJ rfl T.iP (pv 1)) (zA (zU (K:=K)) rfl T.aJ boot_len (pv 1\zb))))))) (¬(!Vn)) zr<|>zD (vG (vt (zA (Wn (K:=K) rfl) rfl T.fE PyProof.Rows.Boot.«all» (yW (wC (N':=["name"]) rfl (blk (osc:=zf Yl) rfl (by decide+kernel)) (xt xD) (VD (K:=K) (pv 1)) (yy rfl) (λC s₀ H₀ fp=>zL (i:=0) (show (["name"]:List Str).Nodup from by decide+kernel) rfl (rm rfl)) (λC s₀ H₀ fp=>xC) (λC s₀ H₀ fp=>(T.cA\(zb4 (fu:=fu) T,hr.mono ∅,Uy,pv 0\zb)))) zb)))) (¬(!Vn)) zr<|>(wH^^^(2,rm rfl,zc))<|>Zr PassesOwn.leaving rfl (xP (K:=K) (pv 0)) (ZE (K:=K) (n:=2) rfl (yF (zL (i:=3) wH.nd rfl (rm rfl)) (yF (zL (i:=4) wH.nd rfl (rm rfl)) ZB))) (zD (vG (vt (T.aQ\(ZL (fu:=fu) T,hr.mono ∅,zj,pv 4\(zc\(match T.eM with|⟨t,h⟩=>xc (v:= .int 9) rfl h ⟨t,rfl⟩\zb)))))) (¬(!Vn)) zr<|>¬(wH^^^(2,rm rfl,zE WG (pv 2) (pv 4))))<|>¬(!UH (ziN (pv 2) (match T.dH with|⟨t,h⟩=>xc (v:= .int 1000) rfl h ⟨t,rfl⟩)))),zV (n:=1) (k:=4) (b:=YL fu) rfl (by unfold YL;walk_at "re") h⟩)
noncomputable def vi (fu:Nat):TwS:=(zk (sIf (bE (eUn (ze2 "str") (za 1))) (zG (zil false (za 1) (za 0))) zx) (zG (ze (xM fu) [(za 1),(eC (.int 0)),(eC (.int 999999999))])))
noncomputable def vj (fu:Nat):TwF:=zK 2 0 (vi fu)
theorem za6 (T:Tx K mg):zZ P w K mg base (CXE P w) 3 T.bj.a T.bj.fd ["sizes","operand"] (sTw K 2 (vj fu)):=
 T.bj.F.okE za3 (λvs H Q E h=>h.1) (λaH A outer s H vs Q E hr h=>⟨_,(zD (vt (zA (Uh (K:=K)) rfl T.bN boot_isinstance (yW (pv 1) (yW (zba (v:= .ty "str") rfl T.eK boot_str rfl) zb)))) (¬(!UH (znd (zja hr) (pv 1) (pv 0)))) zr<|>¬(!(T.aQ\(ZL (fu:=fu) T,hr.mono ∅,zj,pv 1\(zc\(match T.cM with|⟨t,h⟩=>xc (v:= .int 999999999) rfl h ⟨t,rfl⟩\zb)))))),zV (n:=2) (k:=0) (b:=vi fu) rfl (by unfold vi;walk_at "re") h⟩)
noncomputable def vO (fu:Nat):TwS:=(zk (sIf (bE (eOp (yk false) (eOp zM (za 0) (eC (.int 0))) (eC (.str "set")))) (zG (eUn ziv (eOp zM (za 0) (eC (.int 2))))) zx) (zk (sIf (bE (eOp (dIn false) (eOp zM (za 0) (eC (.int 0))) (yn [(eC (.str "look")),(eC (.str "if")),(eC (.str "while"))]))) (zG (eUn ziv (eOp zM (za 0) (eC (.int 1))))) zx) (zk (sIf (bE (eOp (yk false) (eOp zM (za 0) (eC (.int 0))) (eC (.str "gain")))) (zG (yn [(eOp zM (za 0) (eC (.int 1)))])) zx) (zG (yn [])))))
noncomputable def vP (fu:Nat):TwF:=zK 1 0 (vO fu)
theorem zb5 (T:Tx K mg):zZ P w K mg base (CXE P w) 1 T.bD.a T.bD.fd ["deed"] (sTw K 1 (vP fu)):=
 T.bD.F.okE zb0 (λvs H Q E h=>h.1) (λaH A outer s H vs Q E hr h=>⟨_,(zD (zJ yG (zt (K:=K)%(pv 0,zc)) zg (by rfl)) (¬(!zjZ (K:=K) (zt (K:=K)%(pv 0,zc)))) zr<|>zD (zJ (zf6 (K:=K)) (zt (K:=K)%(pv 0,zc)) (~~~(zg\(zg\(zg\zb)))) (by rfl)) (¬(!zjZ (K:=K) (zt (K:=K)%(pv 0,zc)))) zr<|>zD (zJ yG (zt (K:=K)%(pv 0,zc)) zg (by rfl)) (¬(!(~~~((zt (K:=K)%(pv 0,zc))\zb)))) zr<|>¬(!(~~~zb))),zV (n:=1) (k:=0) (b:=vO fu) rfl (by unfold vO;walk_at "re") h⟩)
noncomputable def vQ (fu:Nat):TwS:=(zk (sIf (bOr (bE (eOp zdS (eFn ww [(za 0)]) (za 1))) (XQ (bE (eFn zbM [(xQ [none] (iT (za 0)) (gN 0) xR (ze (xM fu) [(za 0),(eC (.int 0)),(eC (.int 999999999))]))])))) (zG (eC (.bl false))) zx) (zG (eOp dGt (eFn zeY [(za 0)]) (eC (.int 0)))))
noncomputable def vR (fu:Nat):TwF:=zK 2 0 (vQ fu)
theorem zb6 (T:Tx K mg):zZ P w K mg base (CXE P w) 3 T.bC.a T.bC.fd ["weights","size"] (sTw K 2 (vR fu)):=
 T.bC.F.okE zbZ (λvs H Q E h=>h.1) (λaH A outer s H vs Q E hr h=>⟨_,(zD (PW.pt (Wj (zN (zal (zA (zU (K:=K)) rfl T.aJ boot_len (pv 0\zb)) (pv 1))) (Zp (vG (vt (zA (Wn (K:=K) rfl) rfl T.fE PyProof.Rows.Boot.«all» (yW (wC (N':=["weight"]) rfl (blk (osc:=zf ZG) rfl (by decide+kernel)) (xt xD) (xP (K:=K) (pv 0)) (yy rfl) (λC s₀ H₀ fp=>zL (i:=0) (show (["weight"]:List Str).Nodup from by decide+kernel) rfl (rm rfl)) (λC s₀ H₀ fp=>xC) (λC s₀ H₀ fp=>(T.aQ\(ZL (fu:=fu) T,hr.mono ∅,Uy,pv 0\(zc\(match T.cM with|⟨t,h⟩=>xc (v:= .int 999999999) rfl h ⟨t,rfl⟩\zb)))))) zb))))))) (¬(!Vn)) zr<|>¬(!UH (Zm (zA (zgb (K:=K) rfl) rfl T.fX PyProof.Rows.Boot.«sum» (pv 0\zb)) zc))),zV (n:=2) (k:=0) (b:=vQ fu) rfl (by unfold vQ;walk_at "re") h⟩)
noncomputable def YM (fu:Nat):TwS:=(zk (zF (eOp zM (za 1) (eC (.int 0))) (gN 2)) (zk (sIf (XO (bE (eOp (dIn false) (za 2) (yn [(eC (.str "set")),(eC (.str "draw"))]))) (bE (zil true (eOp zM (za 1) (eC (.int 1))) (za 0)))) (zG (eC (.bl false))) zx) (zk (sIf (XO (bE (eOp (yk false) (za 2) (eC (.str "draw")))) (XQ (bE (ze (vR fu) [(eOp zM (za 1) (eC (.int 2))),(ze4 (za 0) (eOp zM (za 1) (eC (.int 1))))])))) (zG (eC (.bl false))) zx) (zk (sIf (XO (bE (eOp (yk false) (za 2) (eC (.str "times")))) (XQ (bE (ze (xM fu) [(eOp zM (za 1) (eC (.int 1))),(eC (.int 0)),(eC (.int 60))])))) (zG (eC (.bl false))) zx) (zk (sIf (XO (bE (eOp (yk false) (za 2) (eC (.str "hand")))) (XQ (bE (UP (λi j=>decide (i<=j)) (λi j=>decide (i<=j)) (eC (.int 2)) (eFn ww [(eOp zM (za 1) (eC (.int 1)))]) (eC (.int 8)))))) (zG (eC (.bl false))) zx) (zG (eFn zbM [(xQ [none,some 0] (iT (ze (vP fu) [(za 1)])) (gN 0) xR (ze (vj fu) [(za 1),(za 0)]))])))))))
noncomputable def vS (fu:Nat):TwF:=zK 2 1 (YM fu)
theorem zed (T:Tx K mg):zZ P w K mg base (CXE P w) 4 T.cu.a T.cu.fd ["sizes","deed"] (sTw K 2 (vS fu)):=
 T.cu.F.okE TD (λvs H Q E h=>h.1) (λaH A outer s H vs Q E hr h=>⟨_,((TD^^^(2,rm rfl,zt (K:=K)%(pv 1,zc)))<|>zD (PW.pt (Zq (zJ (zf6 (K:=K)) (pv 2) (~~~(zg\(zg\zb))) (by rfl)) (wB (zN (zh6 (zja hr) (zt (K:=K)%(pv 1,zc)) (pv 0)))))) (¬(!Vn)) zr<|>zD (PW.pt (Zq (zJ yG (pv 2) zg (by rfl)) (wB (vG (vt (T.bC\(zb6 (fu:=fu) T,hr.mono ∅,zj,(zt (K:=K)%(pv 1,zc))\(zk6 (zja hr) (pv 0) (zt (K:=K)%(pv 1,zc)) (λ_ _=>rfl)\zb)))))))) (¬(!Vn)) zr<|>zD (PW.pt (Zq (zJ yG (pv 2) zg (by rfl)) (wB (vG (vt (T.aQ\(ZL (fu:=fu) T,hr.mono ∅,zj,(zt (K:=K)%(pv 1,zc))\(zc\(match T.e7 with|⟨t,h⟩=>xc (v:= .int 60) rfl h ⟨t,rfl⟩\zb))))))))) (¬(!Vn)) zr<|>zD (PW.pt (Zq (zJ yG (pv 2) zg (by rfl)) (wB (vG (zez zaR zaR (match T.d4 with|⟨t,h⟩=>xc (v:= .int 2) rfl h ⟨t,rfl⟩) (zA (zU (K:=K)) rfl T.aJ boot_len ((zt (K:=K)%(pv 1,zc))\zb)) (match T.dJ with|⟨t,h⟩=>xc (v:= .int 8) rfl h ⟨t,rfl⟩)))))) (¬(!Vn)) zr<|>¬(!zA (Wn (K:=K) rfl) rfl T.fE PyProof.Rows.Boot.«all» (yW (wC (N':=["operand","sizes"]) rfl (blk (osc:=zf Xz) rfl (by decide+kernel)) (xt (Ti (i:=0) rfl rfl xD)) (xP (K:=K) (T.bD\(zb5 (fu:=fu) T,hr.mono ∅,zj,pv 1\zb))) (yy rfl) (λC s₀ H₀ fp=>zL (i:=0) (show (["operand","sizes"]:List Str).Nodup from by decide+kernel) rfl (rm rfl)) (λC s₀ H₀ fp=>xC) (λC s₀ H₀ fp=>(T.bj\(za6 (fu:=fu) T,hr.mono ∅,Uy,pv 1\(pv 0\zb))))) zb))),zV (n:=2) (k:=1) (b:=YM fu) rfl (by unfold YM;walk_at "re") h⟩)
noncomputable def Yo (fu:Nat) (eT:TwF) (dX:TwF):TwS:=(zG (eUn (zbT 0) (xQ [none] (iT (za 0)) (gN 0) xR (ze dX [(za 0)]))))
noncomputable def ZM (fu:Nat) (eT:TwF) (dX:TwF):TwS:=(zk (sIf (bE (eOp (dIn true) (eOp zM (za 0) (eC (.int 0))) (eC (.ct [.str "if",.str "while",.str "times",.str "hand"])))) (zG (eC (.int 0))) zx) (zG (eOp xj (eC (.int 1)) (eUn (zbT 0) (xQ [none] (iT (ze (xK fu) [(za 0)])) (gN 0) xR (ze eT [(za 0)]))))))
mutual
noncomputable def yl (fu:Nat):Nat->TwF
 |0=>λ_ _=>none
 |n+1=>zK 1 0 (Yo fu (yl fu n) (yp fu n))
noncomputable def yp (fu:Nat):Nat->TwF
 |0=>λ_ _=>none
 |n+1=>zK 1 0 (ZM fu (yl fu n) (yp fu n))
end
theorem Ww (fu n:Nat):yl fu (n+1)=zK 1 0 (Yo fu (yl fu n) (yp fu n)):=by rw[yl]
theorem zaK (fu:Nat):yl fu 0=λ_ _=>none:=by rw[yl]
theorem Xi (fu n:Nat):yp fu (n+1)=zK 1 0 (ZM fu (yl fu n) (yp fu n)):=by rw[yp]
theorem UW (fu:Nat):yp fu 0=λ_ _=>none:=by rw[yp]
theorem zee (T:Tx K mg):∀n:Nat,zZ P w K mg base (CXE P w) (1+n) T.bo.a T.bo.fd ["block"] (sTw K 1 (yl fu n))/\zZ P w K mg base (CXE P w) (1+n) T.bU.a T.bU.fd ["deed"] (sTw K 1 (yp fu n)):=by
 intro n
 induction n with
 |zero=>
  refine⟨?_,?_⟩
  .rw[zaK];exact xG
  .rw[UW];exact xG
 |succ n ih=>
  refine⟨?_,?_⟩
  .rw[Ww];exact T.bo.F.okE zfk (λvs H Q E h=>h.1) (λaH A outer s H vs Q E hr h=>⟨_,(¬(!zhr (K:=K) rfl rfl T.fY (wC (N':=["deed"]) rfl (blk (osc:=zf WN) rfl (by decide+kernel)) (xt xD) (xP (K:=K) (pv 0)) (yy rfl) (λC s₀ H₀ fp=>zL (i:=0) (show (["deed"]:List Str).Nodup from by decide+kernel) rfl (rm rfl)) (λC s₀ H₀ fp=>xC) (λC s₀ H₀ fp=>(T.bU\(ih.2,hr.mono (by walk_at "q2"),Uy,pv 0\zb)))))),zV (n:=1) (k:=0) (b:=Yo fu (yl fu n) (yp fu n)) rfl (by unfold Yo;walk_at "re") h⟩)
  .rw[Xi];exact T.bU.F.okE zcD (λvs H Q E h=>h.1) (λaH A outer s H vs Q E hr h=>⟨_,(zD (zJ (Wm (K:=K)) (zt (K:=K)%(pv 0,zc)) (xc (v:= .ref T.ax) rfl T.c5 rfl) (by rfl)) (¬(!zc)) zr<|>¬(!zE yu zc (zhr (K:=K) rfl rfl T.fY (wC (N':=["block"]) rfl (blk (osc:=zf YD) rfl (by decide+kernel)) (xt xD) (xP (K:=K) (T.aZ\(YK (fu:=fu) T,hr.mono (by walk_at "q2"),zj,pv 0\zb))) (yy rfl) (λC s₀ H₀ fp=>zL (i:=0) (show (["block"]:List Str).Nodup from by decide+kernel) rfl (rm rfl)) (λC s₀ H₀ fp=>xC) (λC s₀ H₀ fp=>(T.bo\(ih.1,hr.mono (by walk_at "q2"),Uy,pv 0\zb))))))),zV (n:=1) (k:=0) (b:=ZM fu (yl fu n) (yp fu n)) rfl (zW (Yh (wE (xE zdj (xE zbF (zn 0) (yV _)) (zdP λj H=> .ct (λH=>T.c7 H) (.cons (.str _) (.cons (.str _) (.cons (.str _) (.cons (.str _) .nil))))))) (xu (yV _)) xF) (xu (xE UN (yV _) (zht (zbe (cap:=[none]) (zgg (yt (zi (zn 0) zy))) yX zbd (yt (zi (zn 0) zy))))))) h⟩)
theorem zfn (T:Tx K mg) (n:Nat):zZ P w K mg base (CXE P w) (1+n) T.bo.a T.bo.fd ["block"] (sTw K 1 (yl fu n)):=(zee T n).1
noncomputable def ZN (fu:Nat):TwS:=(zk (zF (eOp zM (za 0) (eC (.int 0))) (gN 1)) (zk (zF (eOp zM (za 0) (eC (.int 1))) (gN 2)) (zk (sIf (XQ (bE (ze (Vd fu) [(za 1)]))) (zG (eC (.bl false))) zx) (zk (zF (eFn zd1 [(za 1)]) (gN 3)) (zk (sIf (XQ (bE (eFn zbM [(xQ [none,some 3] (iL (ze (zO fu 20) [(za 2)])) (gN 0) xR (ze (vS fu) [(za 1),(za 0)]))]))) (zG (eC (.bl false))) zx) (zG (zge (eOp dLe (ze (yl fu 40) [(za 2)]) (eC (.int 12))) (eOp dLe (ze (zX fu 40) [(za 2)]) (eC (.int 100))))))))))
noncomputable def Wb (fu:Nat):TwF:=zK 1 3 (ZN fu)
theorem zcK (T:Tx K mg):zZ P w K mg base (CXE P w) 42 T.bT.a T.bT.fd ["program"] (sTw K 1 (Wb fu)):=
 T.bT.F.okE ZH (λvs H Q E h=>h.1) (λaH A outer s H vs Q E hr h=>⟨_,((ZH^^^(1,rm rfl,zt (K:=K)%(pv 0,zc)))<|>(ZH^^^(2,rm rfl,zt (K:=K)%(pv 0,zc)))<|>zD (vG (vt (T.cw\(zec (fu:=fu) T,hr.mono ∅,zj,pv 1\zb)))) (¬(!Vn)) zr<|>(ZH^^^(3,Or.inr rfl,yi (zgr rfl) rfl T.gQ PyProof.Rows.Boot.«dict» (pv 1\zb)))<|>zD (vG (vt (zA (Wn (K:=K) rfl) rfl T.fE PyProof.Rows.Boot.«all» (yW (wC (N':=["deed","sizes"]) rfl (blk (osc:=zf YC) rfl (by decide+kernel)) (xt (Ti (i:=3) rfl rfl xD)) (VD (K:=K) (T.aG\(za5 (fu:=fu) T 20,hr.mono ∅,zj,pv 2\zb))) (yy rfl) (λC s₀ H₀ fp=>zL (i:=0) (show (["deed","sizes"]:List Str).Nodup from by decide+kernel) rfl (rm rfl)) (λC s₀ H₀ fp=>xC) (λC s₀ H₀ fp=>(T.cu\(zed (fu:=fu) T,hr.mono ∅,Uy,pv 1\(pv 0\zb))))) zb)))) (¬(!Vn)) zr<|>¬(!zbo (UH (ziN (T.bo\(zfn (fu:=fu) T 40,hr.mono ∅,zj,pv 2\zb)) (match T.cL with|⟨t,h⟩=>xc (v:= .int 12) rfl h ⟨t,rfl⟩))) (zam (UH (ziN (T.aY\(zeb (fu:=fu) T 40,hr.mono ∅,zj,pv 2\zb)) (match T.dI with|⟨t,h⟩=>xc (v:= .int 100) rfl h ⟨t,rfl⟩)))))),zV (n:=1) (k:=3) (b:=ZN fu) rfl (by unfold ZN;walk_at "re") h⟩)
noncomputable def wz (fu:Nat):TwS:=(zk (zF (eOp zM (za 0) (eC (.int 0))) (gN 1)) (zk (sIf (bOr (bE (eOp (yk false) (za 1) (eC (.str "set")))) (bE (eOp (yk false) (za 1) (eC (.str "draw"))))) (zG (eOp zdi (yn [(za 1),(eOp zM (za 0) (eC (.int 1)))]) (eOp zM (za 0) (eC (.int 2))))) zx) (zk (sIf (bE (eOp (dIn false) (za 1) (yn [(eC (.str "look")),(eC (.str "if")),(eC (.str "while"))]))) (zG (eOp zdi (yn [(za 1)]) (eOp zM (za 0) (eC (.int 1))))) zx) (zk (sIf (bOr (bE (eOp (yk false) (za 1) (eC (.str "times")))) (bE (eOp (yk false) (za 1) (eC (.str "gain"))))) (zG (yn [(za 1),(eOp zM (za 0) (eC (.int 1)))])) zx) (zG (yn [(za 1)]))))))
noncomputable def vT (fu:Nat):TwF:=zK 1 1 (wz fu)
theorem zb7 (T:Tx K mg):zZ P w K mg base (CXE P w) 1 T.bG.a T.bG.fd ["deed"] (sTw K 1 (vT fu)):=
 T.bG.F.okE VW (λvs H Q E h=>h.1) (λaH A outer s H vs Q E hr h=>⟨_,((VW^^^(1,rm rfl,zt (K:=K)%(pv 0,zc)))<|>zD (PW.pt (Wj (zJ yG (pv 1) zg (by rfl)) (Zp (zJ yG (pv 1) zg (by rfl))))) (¬(!zE (zg6 (K:=K)) (~~~(pv 1\((zt (K:=K)%(pv 0,zc))\zb))) (zt (K:=K)%(pv 0,zc)))) zr<|>zD (zJ (zf6 (K:=K)) (pv 1) (~~~(zg\(zg\(zg\zb)))) (by rfl)) (¬(!zE (zg6 (K:=K)) (~~~(pv 1\zb)) (zt (K:=K)%(pv 0,zc)))) zr<|>zD (PW.pt (Wj (zJ yG (pv 1) zg (by rfl)) (Zp (zJ yG (pv 1) zg (by rfl))))) (¬(!(~~~(pv 1\((zt (K:=K)%(pv 0,zc))\zb))))) zr<|>¬(!(~~~(pv 1\zb)))),zV (n:=1) (k:=1) (b:=wz fu) rfl (by unfold wz;walk_at "re") h⟩)
noncomputable def wU (fu:Nat) (dY:TwF) (eJ:TwF):TwS:=(zk (zF (wv []) (gN 1)) (zk (Wp (iT (za 0)) (gN 2) (yJ (eMt Xw (za 1) [(ze eJ [(za 2)])]))) (zG (za 1))))
noncomputable def vU (fu:Nat) (dY:TwF) (eJ:TwF):TwS:=(zk (zF (wv [(zbW UC (eC (.str " ")) [(xQ [none] (iT (ze (vT fu) [(za 0)])) (gN 0) xR (eFn zaE [(za 0)]))])]) (gN 1)) (zk (sIf (bE (eOp (dIn true) (eOp zM (za 0) (eC (.int 0))) (eC (.ct [.str "if",.str "while",.str "times",.str "hand"])))) (zG (za 1)) zx) (zk (zF (eIf (bE (eOp (yk false) (eOp zM (za 0) (eC (.int 0))) (eC (.str "if")))) (eC (.str "else")) (eC (.str "or"))) (gN 2)) (zk (Wp (zlm (ze (xK fu) [(za 0)])) (gT 2 (yA (gN 3) (yA (gN 4) Yg))) (zk (sIf (bE (eOp dGt (za 3) (eC (.int 0)))) (yJ (eMt yg (za 1) [(za 2)])) zx) (yJ (eMt Xw (za 1) [(ze dY [(za 4)])])))) (zk (yJ (eMt yg (za 1) [(eC (.str "end"))])) (zG (za 1)))))))
mutual
noncomputable def ya (fu:Nat):Nat->TwF
 |0=>λ_ _=>none
 |n+1=>zK 1 2 (wU fu (ya fu n) (yC fu n))
noncomputable def yC (fu:Nat):Nat->TwF
 |0=>λ_ _=>none
 |n+1=>zK 1 4 (vU fu (ya fu n) (yC fu n))
end
theorem Xj (fu n:Nat):ya fu (n+1)=zK 1 2 (wU fu (ya fu n) (yC fu n)):=by rw[ya]
theorem UX (fu:Nat):ya fu 0=λ_ _=>none:=by rw[ya]
theorem vV (fu n:Nat):yC fu (n+1)=zK 1 4 (vU fu (ya fu n) (yC fu n)):=by rw[yC]
theorem TM (fu:Nat):yC fu 0=λ_ _=>none:=by rw[yC]
theorem zb8 (T:Tx K mg):∀n:Nat,zZ P w K mg base (CXE P w) (1+n) T.aR.a T.aR.fd ["block"] (sTw K 1 (ya fu n))/\zZ P w K mg base (CXE P w) (1+n) T.cn.a T.cn.fd ["deed"] (sTw K 1 (yC fu n)):=by
 intro n
 induction n with
 |zero=>
  refine⟨?_,?_⟩
  .rw[UX];exact xG
  .rw[TM];exact xG
 |succ n ih=>
  refine⟨?_,?_⟩
  .rw[Xj];exact T.aR.F.okE XY (λvs H Q E h=>h.1) (λaH A outer s H vs Q E hr h=>⟨_,((XY^^^(1,rm rfl,@yR _ _ _ _ zb))<|>Zr PassesOwn.leaving rfl (xP (K:=K) (pv 0)) (zL (i:=2) XY.nd rfl (rm rfl)) (¬yM (xW rH uy uz (UJ (K:=K)) (pv 1) ((T.cn\(ih.2,hr.mono (by walk_at "q2"),zj,pv 2\zb))\zb)))<|>¬(!pv 1)),zV (n:=1) (k:=2) (b:=wU fu (ya fu n) (yC fu n)) rfl (by unfold wU;walk_at "re") h⟩)
  .rw[vV];exact T.cn.F.okE vM (λvs H Q E h=>h.1) (λaH A outer s H vs Q E hr h=>⟨_,((vM^^^(1,rm rfl,@yR _ _ _ _ (xW t4 tQ tR TC zg (yW (wC (N':=["word"]) rfl (blk (osc:=zf XA) rfl (by decide+kernel)) (xt xD) (xP (K:=K) (T.bG\(zb7 (fu:=fu) T,hr.mono (by walk_at "q2"),zj,pv 0\zb))) (yy rfl) (λC s₀ H₀ fp=>zL (i:=0) (show (["word"]:List Str).Nodup from by decide+kernel) rfl (rm rfl)) (λC s₀ H₀ fp=>xC) (λC s₀ H₀ fp=>(yi Wu rfl T.eK PyProof.Rows.Boot.«str» (pv 0\zb)))) zb)\zb)))<|>zD (zJ (Wm (K:=K)) (zt (K:=K)%(pv 0,zc)) (xc (v:= .ref T.ax) rfl T.c5 rfl) (by rfl)) (¬(!pv 1)) zr<|>(vM^^^(2,rm rfl,ziO (zJ yG (zt (K:=K)%(pv 0,zc)) zg (by rfl)) zg zg))<|>Zr PassesOwn.leaving rfl (zjj (K:=K) rfl T.eL ((T.aZ\(YK (fu:=fu) T,hr.mono (by walk_at "q2"),zj,pv 0\zb))\zb)) (ZE (K:=K) (n:=2) rfl (yF (zL (i:=3) vM.nd rfl (rm rfl)) (yF (zL (i:=4) vM.nd rfl (rm rfl)) ZB))) (zD (zN (Zm (pv 3) zc)) (¬yM (xW rH rN rO yH (pv 1) (pv 2\zb))) zr<|>¬yM (xW rH uy uz (UJ (K:=K)) (pv 1) ((T.aR\(ih.1,hr.mono (by walk_at "q2"),zj,pv 4\zb))\zb)))<|>yM (xW rH rN rO yH (pv 1) (zg\zb))<|>¬(!pv 1)),zV (n:=1) (k:=4) (b:=vU fu (ya fu n) (yC fu n)) rfl (zW (wP (UL (zi (zbX zd2 (yZ _) (zi (zbe (cap:=[none]) (zgg (yt (zi (zn 0) zy))) yX zbd (Tj zd3 (zi (zn 0) zy))) zy)) zy)) yX) (zW (Yh (wE (xE zdj (xE zbF (zn 0) (yV _)) (zdP λj H=> .ct (λH=>T.c7 H) (.cons (.str _) (.cons (.str _) (.cons (.str _) (.cons (.str _) .nil))))))) (xu (zn 1)) xF) (zW (wP (zo4 (wE (xE zay (xE zbF (zn 0) (yV _)) (yZ _))) (yZ _) (yZ _)) yX) (zW (zjx (zjK (yt (zi (zn 0) zy))) (zjv (zbI yX (zbI yX zg9))) (zW (Yh (zbD (zms (zn 3) (yV _))) (wF (Uz vD (zn 1) (zi (zn 2) zy))) xF) (wF (Uz zau (zn 1) (zi (yt (zi (zn 4) zy)) zy))))) (zW (wF (Uz vD (zn 1) (zi (yZ _) zy))) (xu (zn 1))))))) h⟩)
theorem zcL (T:Tx K mg) (n:Nat):zZ P w K mg base (CXE P w) (1+n) T.aR.a T.aR.fd ["block"] (sTw K 1 (ya fu n)):=(zb8 T n).1
noncomputable def TN (fu:Nat):TwS:=(zk (zF (xQ [none,none] (iT (eOp zM (za 0) (eC (.int 0)))) (gT 2 (yA (gN 0) (yA (gN 1) Yg))) xR (eJn [(eC (.str "box ")),(eUn ziy (za 0)),(eC (.str " ")),(eUn ziy (za 1))] Str.empty)) (gN 1)) (zG (zbW UC (eC (.str "\n")) [(eOp wS (za 1) (ze (ya fu 40) [(eOp zM (za 0) (eC (.int 1)))]))])))
noncomputable def TQ (fu:Nat):TwF:=zK 1 1 (TN fu)
theorem zfo (T:Tx K mg):zZ P w K mg base (CXE P w) 42 T.dF.a T.dF.fd ["program"] (sTw K 1 (TQ fu)):=
 T.dF.F.okE zfl (λvs H Q E h=>h.1) (λaH A outer s H vs Q E hr h=>⟨_,(WE (i:=1) (N':=["name","size"]) rfl (blk (osc:=zf zbj) rfl (by decide+kernel)) (xt (xt xD)) (xP (K:=K) (zt (K:=K)%(pv 0,zc))) (zjd (zbv (yy rfl) (zbv (yy rfl) zib zbw) zbw)) (λC s₀ H₀ fp=>ZE (K:=K) (n:=2) rfl (yF (zL (i:=0) (show (["name","size"]:List Str).Nodup from by decide+kernel) rfl (rm rfl)) (yF (zL (i:=1) (show (["name","size"]:List Str).Nodup from by decide+kernel) rfl (rm rfl)) ZB))) (λC s₀ H₀ fp=>xC) (λC s₀ H₀ fp=>(zlI (PJ.cons zg (PJ.cons (zkc (pv 0)) (PJ.cons zg (PJ.cons (zkc (pv 1)) PJ.nil)))))) zfl.nd rfl rfl<|>¬(!xW t4 tQ tR TC zg (zE (vc (K:=K)) (pv 1) (T.aR\(zcL (fu:=fu) T 40,hr.mono ∅,zj,(zt (K:=K)%(pv 0,zc))\zb))\zb))),zV (n:=1) (k:=1) (b:=TN fu) rfl (by unfold TN;walk_at "re") h⟩)
noncomputable def wI (fu:Nat):TwS:=(zk (zfa "Rows" "rows" (za 0) (wv [])) (zk (sIf (bE (eOp (yk true) (za 1) (eC (.str "")))) (zfa "Rows" "rows" (za 0) (xQ [none] (iL (zbW UQ (za 1) [(eC (.str "\n"))])) (gN 0) xR (zbW UQ (za 0) [(eC (.str " "))]))) zx) (zfa "Rows" "place" (za 0) (eC (.int 0)))))
noncomputable def xU (fu:Nat):TwF:=zK 2 0 (wI fu)
theorem zaL (T:Tx K mg):zZ P w K mg base (CXE P w) 1 T.aP.a T.aP.fd ["self","text"] (sTw K 2 (xU fu)):=
 T.aP.F.okE zaI (λvs H Q E h=>h.1) (λaH A outer s H vs Q E hr h=>⟨_,(zfU (pv 0) (@yR _ _ _ _ zb) rfl<|>zD (zJ ziX (pv 1) zg (by rfl)) (¬zfU (pv 0) (wC (N':=["row"]) rfl (blk (osc:=zf ve) rfl (by decide+kernel)) (xt xD) (VD (K:=K) (xW t4 A9 Aa zfd (pv 1) (zg\zb))) (yy rfl) (λC s₀ H₀ fp=>zL (i:=0) (show (["row"]:List Str).Nodup from by decide+kernel) rfl (rm rfl)) (λC s₀ H₀ fp=>xC) (λC s₀ H₀ fp=>(xW t4 A9 Aa zfd (pv 0) (zg\zb)))) rfl) zr<|>¬zfU (pv 0) zc rfl),zV (n:=2) (k:=0) (b:=wI fu) rfl (zW (zd0 T.aq T.aw T.aK (zn 0) (UL zy)) (zW (Yh (wE (xE zgn (zn 1) (yZ _))) (zd0 T.aq T.aw T.aK (zn 0) (zbe (cap:=[none]) (zha (zbX zfg (zn 1) (zi (yZ _) zy))) yX zbd (zbX zfg (zn 0) (zi (yZ _) zy)))) xF) (zd0 T.aq T.aw T.aB (zn 0) (yV _)))) h⟩)
noncomputable def vz (fu:Nat):TwS:=(zk (sIf (bE (eOp wQ (zaX "Rows" "place" (za 0)) (eFn ww [(zaX "Rows" "rows" (za 0))]))) (zG (eC .non)) zx) (zG (eOp Ye (eOp Ye (zaX "Rows" "rows" (za 0)) (zaX "Rows" "place" (za 0))) (eC (.int 0)))))
noncomputable def zR (fu:Nat):TwF:=zK 1 0 (vz fu)
theorem xo (T:Tx K mg):zZ P w K mg base (CXE P w) 1 T.ah.a T.ah.fd ["self"] (sTw K 1 (zR fu)):=
 T.ah.F.okE UU (λvs H Q E h=>h.1) (λaH A outer s H vs Q E hr h=>⟨_,(zD (zN (yT (zaq (pv 0) rfl) (zA (zU (K:=K)) rfl T.aJ boot_len (zaq (pv 0) rfl\zb)))) (¬(!ziM)) zr<|>¬(!(yI (K:=K)%(yI (K:=K)%(zaq (pv 0) rfl,zaq (pv 0) rfl),zc)))),zV (n:=1) (k:=0) (b:=vz fu) rfl (zW (Yh (zbD (zdT (Ul T.aq T.aw T.aB (zn 0)) (Tj zax (zi (Ul T.aq T.aw T.aK (zn 0)) zy)))) (xu zjo) xF) (xu (xE WI (xE WI (Ul T.aq T.aw T.aK (zn 0)) (Ul T.aq T.aw T.aB (zn 0))) (yV _)))) h⟩)
noncomputable def Wc (fu:Nat):TwS:=(zk (zF (eOp Ye (zaX "Rows" "rows" (za 0)) (zaX "Rows" "place" (za 0))) (gN 1)) (zk (zj4 "Rows" "place" (za 0) (eC (.int 1))) (zG (za 1))))
noncomputable def xN (fu:Nat):TwF:=zK 1 1 (Wc fu)
theorem Wd (T:Tx K mg):zZ P w K mg base (CXE P w) 1 T.aC.a T.aC.fd ["self"] (sTw K 1 (xN fu)):=
 T.aC.F.okE UD (λvs H Q E h=>h.1) (λaH A outer s H vs Q E hr h=>⟨_,((UD^^^(1,rm rfl,yI (K:=K)%(zaq (pv 0) rfl,zaq (pv 0) rfl)))<|>zh1 (pv 0) zc zm3<|>¬(!pv 1)),zV (n:=1) (k:=1) (b:=Wc fu) rfl (zW (wP (xE WI (Ul T.aq T.aw T.aK (zn 0)) (Ul T.aq T.aw T.aB (zn 0))) yX) (zW (zlE T.aq T.aw T.aB (zn 0) (yV _)) (xu (zn 1)))) h⟩)
noncomputable def vA (fu:Nat):TwS:=(sIf (bOr (bE (eUn znn (xS "Rows" "first_word" (zR fu) (za 0) []))) (bE (eOp (zj2 true) (xS "Rows" "taken" (xN fu) (za 0) []) (wv [(za 1)])))) Zu zx)
noncomputable def yw (fu:Nat):TwF:=zK 2 0 (vA fu)
theorem xp (T:Tx K mg):zZ P w K mg base (CXE P w) 2 T.ag.a T.ag.fd ["self","word"] (sTw K 2 (yw fu)):=
 T.ag.F.okE UV (λvs H Q E h=>h.1) (λaH A outer s H vs Q E hr h=>⟨_,(¬zD (PW.pt (Wj (zN (zmP (Yb (pv 0) T.aw T.ah.mt (xo (fu:=fu) T) (hr.mono ∅) T.ah.b .nil zj))) (Zp (zJ (znO (K:=K) hr) (Yb (pv 0) T.aw T.aC.mt (Wd (fu:=fu) T) (hr.mono ∅) T.aC.b .nil zj) (@yR _ _ _ _ (pv 1\zb)) (by rfl))))) (¬wo) zr),zV (n:=2) (k:=0) (b:=vA fu) rfl (Yh (zmr (zbD (zno (xT T.aq (zn 0) zy))) (wE (xE znU (xT T.aq (zn 0) zy) (UL (zi (zn 1) zy))))) YX xF) h⟩)
noncomputable def YN (fu:Nat):TwS:=(zk (sIf (XQ (bE (ze (Xh fu) [(za 0)]))) Zu zx) (zG (za 0)))
noncomputable def xL (fu:Nat):TwF:=zK 1 0 (YN fu)
theorem YO (T:Tx K mg):zZ P w K mg base (CXE P w) 3 T.aX.a T.aX.fd ["word"] (sTw K 1 (xL fu)):=
 T.aX.F.okE zea (λvs H Q E h=>h.1) (λaH A outer s H vs Q E hr h=>⟨_,(zD (vG (vt (T.cA\(zb4 (fu:=fu) T,hr.mono ∅,zj,pv 0\zb)))) (¬wo) zr<|>¬(!pv 0)),zV (n:=1) (k:=0) (b:=YN fu) rfl (by unfold YN;walk_at "re") h⟩)
noncomputable def vW (fu:Nat):TwS:=(zk (sIf (XQ (bE (ze (YI fu) [(za 0)]))) Zu zx) (zG (eFn zdt [(za 0)])))
noncomputable def xq (fu:Nat):TwF:=zK 1 0 (vW fu)
theorem Xk (T:Tx K mg):zZ P w K mg base (CXE P w) 3 T.aU.a T.aU.fd ["word"] (sTw K 1 (xq fu)):=
 T.aU.F.okE zb3 (λvs H Q E h=>h.1) (λaH A outer s H vs Q E hr h=>⟨_,(zD (vG (vt (T.bI\(TK (fu:=fu) T,hr.mono ∅,zj,pv 0\zb)))) (¬wo) zr<|>¬(!yi zds rfl T.gA boot_int (pv 0\zb))),zV (n:=1) (k:=0) (b:=vW fu) rfl (by unfold vW;walk_at "re") h⟩)
noncomputable def vk (fu:Nat):TwS:=(zk (sIf (bE (ze (YI fu) [(za 0)])) (zG (eFn zdt [(za 0)])) zx) (zG (ze (xL fu) [(za 0)])))
noncomputable def xy (fu:Nat):TwF:=zK 1 0 (vk fu)
theorem vm (T:Tx K mg):zZ P w K mg base (CXE P w) 4 T.aF.a T.aF.fd ["word"] (sTw K 1 (xy fu)):=
 T.aF.F.okE za4 (λvs H Q E h=>h.1) (λaH A outer s H vs Q E hr h=>⟨_,(zD (vt (T.bI\(TK (fu:=fu) T,hr.mono ∅,zj,pv 0\zb))) (¬(!yi zds rfl T.gA boot_int (pv 0\zb))) zr<|>¬(!(T.aX\(YO (fu:=fu) T,hr.mono ∅,zj,pv 0\zb)))),zV (n:=1) (k:=0) (b:=vk fu) rfl (by unfold vk;walk_at "re") h⟩)
noncomputable def vX (fu:Nat):TwS:=(zk (sIf (bOr (bE (eOp zdS (eFn ww [(za 0)]) (eC (.int 3)))) (bE (eOp (dIn true) (eOp Ye (za 0) (eC (.int 1))) (za 1)))) Zu zx) (zG (yn [(ze (xy fu) [(eOp Ye (za 0) (eC (.int 0)))]),(eOp Ye (za 0) (eC (.int 1))),(ze (xy fu) [(eOp Ye (za 0) (eC (.int 2)))])])))
noncomputable def vY (fu:Nat):TwF:=zK 2 0 (vX fu)
theorem Ua (T:Tx K mg):zZ P w K mg base (CXE P w) 5 T.b8.a T.b8.fd ["words","signs"] (sTw K 2 (vY fu)):=
 T.b8.F.okE zb2 (λvs H Q E h=>h.1) (λaH A outer s H vs Q E hr h=>⟨_,(zD (PW.pt (Wj (zN (zal (zA (zU (K:=K)) rfl T.aJ boot_len (pv 0\zb)) zc)) (Zp (zJ (Wm (K:=K)) (yI (K:=K)%(pv 0,zc)) (pv 1) (by rfl))))) (¬wo) zr<|>¬(!(~~~((T.aF\(vm (fu:=fu) T,hr.mono ∅,zj,(yI (K:=K)%(pv 0,zc))\zb))\((yI (K:=K)%(pv 0,zc))\((T.aF\(vm (fu:=fu) T,hr.mono ∅,zj,(yI (K:=K)%(pv 0,zc))\zb))\zb)))))),zV (n:=2) (k:=0) (b:=vX fu) rfl (by unfold vX;walk_at "re") h⟩)
noncomputable def we (fu:Nat):TwS:=(zk (sIf (bE (eOp wQ (eFn ww [(za 0)]) (eC (.int 1)))) (zG (yn [(ze (xy fu) [(eOp Ye (za 0) (eC (.int 0)))])])) zx) (zG (ze (vY fu) [(za 0),(eC (.ct [.str "+",.str "-",.str "*"]))])))
noncomputable def wf (fu:Nat):TwF:=zK 1 0 (we fu)
theorem TR (T:Tx K mg):zZ P w K mg base (CXE P w) 6 T.aV.a T.aV.fd ["words"] (sTw K 1 (wf fu)):=
 T.aV.F.okE TH (λvs H Q E h=>h.1) (λaH A outer s H vs Q E hr h=>⟨_,(zD (zN (yT (zA (zU (K:=K)) rfl T.aJ boot_len (pv 0\zb)) zc)) (¬(!(~~~((T.aF\(vm (fu:=fu) T,hr.mono ∅,zj,(yI (K:=K)%(pv 0,zc))\zb))\zb)))) zr<|>¬(!(T.b8\(Ua (fu:=fu) T,hr.mono ∅,zj,pv 0\(xc (v:= .ref T.ak) rfl T.cI rfl\zb))))),zV (n:=1) (k:=0) (b:=we fu) rfl (zW (Yh (zbD (zdT (Tj zax (zi (zn 0) zy)) (yV _))) (xu (WH (zi (yt (zi (xE WI (zn 0) (yV _)) zy)) zy))) xF) (xu (yt (zi (zn 0) (zi (zdP λj H=> .ct (λH=>T.cJ H) (.cons (.str _) (.cons (.str _) (.cons (.str _) .nil)))) zy))))) h⟩)
noncomputable def Ve (fu:Nat):TwS:=(zG (ze (vY fu) [(za 0),(eC (.ct [.str "=",.str "<",.str "#"]))]))
noncomputable def vZ (fu:Nat):TwF:=zK 1 0 (Ve fu)
theorem Vf (T:Tx K mg):zZ P w K mg base (CXE P w) 6 T.bh.a T.bh.fd ["words"] (sTw K 1 (vZ fu)):=
 T.bh.F.okE zd9 (λvs H Q E h=>h.1) (λaH A outer s H vs Q E hr h=>⟨_,(¬(!(T.b8\(Ua (fu:=fu) T,hr.mono ∅,zj,pv 0\(xc (v:= .ref T.aT) rfl T.dZ rfl\zb))))),zV (n:=1) (k:=0) (b:=Ve fu) rfl (xu (yt (zi (zn 0) (zi (zdP λj H=> .ct (λH=>T.ef H) (.cons (.str _) (.cons (.str _) (.cons (.str _) .nil)))) zy)))) h⟩)
noncomputable def ZO (fu:Nat):TwS:=(zk (sIf (XO (bE (eOp (yk false) (za 0) (eC (.str "pass")))) (bE (eOp wQ (eFn ww [(za 1)]) (eC (.int 0))))) (zG (yn [(eC (.str "pass"))])) zx) (zk (sIf (XO (bE (eOp (yk false) (za 0) (eC (.str "set")))) (bE (eOp dGt (eFn ww [(za 1)]) (eC (.int 1))))) (zG (yn [(eC (.str "set")),(ze (xL fu) [(eOp Ye (za 1) (eC (.int 0)))]),(ze (wf fu) [(eSl Wo (za 1) (Yf (eC (.int 1))) oNo)])])) zx) (zk (sIf (XO (bE (eOp (yk false) (za 0) (eC (.str "draw")))) (bE (eOp dGt (eFn ww [(za 1)]) (eC (.int 1))))) (zG (yn [(eC (.str "draw")),(ze (xL fu) [(eOp Ye (za 1) (eC (.int 0)))]),(eFn wb [(xQ [none] (iL (eSl Wo (za 1) (Yf (eC (.int 1))) oNo)) (gN 0) xR (ze (xq fu) [(za 0)]))])])) zx) (zk (sIf (XO (bE (eOp (yk false) (za 0) (eC (.str "gain")))) (bE (eOp wQ (eFn ww [(za 1)]) (eC (.int 1))))) (zG (yn [(eC (.str "gain")),(ze (xy fu) [(eOp Ye (za 1) (eC (.int 0)))])])) zx) (zk (sIf (bE (eOp (yk false) (za 0) (eC (.str "look")))) (zG (yn [(eC (.str "look")),(ze (vZ fu) [(za 1)])])) zx) Zu)))))
noncomputable def We (fu:Nat):TwF:=zK 2 0 (ZO fu)
theorem zcM (T:Tx K mg):zZ P w K mg base (CXE P w) 7 T.bS.a T.bS.fd ["kind","words"] (sTw K 2 (We fu)):=
 T.bS.F.okE zcE (λvs H Q E h=>h.1) (λaH A outer s H vs Q E hr h=>⟨_,(zD (PW.pt (Zq (zJ yG (pv 0) zg (by rfl)) (wB (zN (yT (zA (zU (K:=K)) rfl T.aJ boot_len (pv 1\zb)) zc))))) (¬(!(~~~(zg\zb)))) zr<|>zD (PW.pt (Zq (zJ yG (pv 0) zg (by rfl)) (wB (zN (Zm (zA (zU (K:=K)) rfl T.aJ boot_len (pv 1\zb)) zc))))) (¬(!(~~~(zg\((T.aX\(YO (fu:=fu) T,hr.mono ∅,zj,(yI (K:=K)%(pv 1,zc))\zb))\((T.aV\(TR (fu:=fu) T,hr.mono ∅,zj,wR (Yd (K:=K)) (pv 1) (ZD zc) ZC\zb))\zb)))))) zr<|>zD (PW.pt (Zq (zJ yG (pv 0) zg (by rfl)) (wB (zN (Zm (zA (zU (K:=K)) rfl T.aJ boot_len (pv 1\zb)) zc))))) (¬(!(~~~(zg\((T.aX\(YO (fu:=fu) T,hr.mono ∅,zj,(yI (K:=K)%(pv 1,zc))\zb))\(yi (yx (K:=K)) rfl T.b5 boot_tuple (yW (wC (N':=["word"]) rfl (blk (osc:=zf YE) rfl (by decide+kernel)) (xt xD) (VD (K:=K) (wR (Yd (K:=K)) (pv 1) (ZD zc) ZC)) (yy rfl) (λC s₀ H₀ fp=>zL (i:=0) (show (["word"]:List Str).Nodup from by decide+kernel) rfl (rm rfl)) (λC s₀ H₀ fp=>xC) (λC s₀ H₀ fp=>(T.aU\(Xk (fu:=fu) T,hr.mono ∅,Uy,pv 0\zb)))) zb)\zb)))))) zr<|>zD (PW.pt (Zq (zJ yG (pv 0) zg (by rfl)) (wB (zN (yT (zA (zU (K:=K)) rfl T.aJ boot_len (pv 1\zb)) zc))))) (¬(!(~~~(zg\((T.aF\(vm (fu:=fu) T,hr.mono ∅,zj,(yI (K:=K)%(pv 1,zc))\zb))\zb))))) zr<|>zD (zJ yG (pv 0) zg (by rfl)) (¬(!(~~~(zg\((T.bh\(Vf (fu:=fu) T,hr.mono ∅,zj,pv 1\zb))\zb))))) zr<|>¬wo),zV (n:=2) (k:=0) (b:=ZO fu) rfl (by unfold ZO;walk_at "re") h⟩)
noncomputable def ZP (fu:Nat):TwS:=(zk (sIf (bE (eOp zdS (eFn ww [(za 0)]) (eC (.int 1)))) Zu zx) (zG (ze (xq fu) [(eOp Ye (za 0) (eC (.int 0)))])))
noncomputable def Wf (fu:Nat):TwF:=zK 1 0 (ZP fu)
theorem zcN (T:Tx K mg):zZ P w K mg base (CXE P w) 4 T.bR.a T.bR.fd ["words"] (sTw K 1 (Wf fu)):=
 T.bR.F.okE zcF (λvs H Q E h=>h.1) (λaH A outer s H vs Q E hr h=>⟨_,(zD (zN (zal (zA (zU (K:=K)) rfl T.aJ boot_len (pv 0\zb)) zc)) (¬wo) zr<|>¬(!(T.aU\(Xk (fu:=fu) T,hr.mono ∅,zj,(yI (K:=K)%(pv 0,zc))\zb)))),zV (n:=1) (k:=0) (b:=ZP fu) rfl (by unfold ZP;walk_at "re") h⟩)
noncomputable def ZQ (fu:Nat) (aI:TwF) (cm:TwF) (aL:TwF) (cT:TwF) (bB:TwF):TwS:=(zk (zF (wv []) (gN 2)) (zk (sWh fu (bE (eOp (dIn true) (xS "Rows" "first_word" (zR fu) (za 0) []) (yn [(eC .non),(eC (.str "else")),(eC (.str "or")),(eC (.str "end"))]))) (yJ (eMt yg (za 2) [(ze cm [(za 0),(za 1)])]))) (zG (eFn wb [(za 2)]))))
noncomputable def Za (fu:Nat) (aI:TwF) (cm:TwF) (aL:TwF) (cT:TwF) (bB:TwF):TwS:=(zk (zF (xS "Rows" "taken" (xN fu) (za 0) []) (gN 2)) (zk (zF (eOp Ye (za 2) (eC (.int 0))) (gN 3)) (zk (sIf (bE (eOp (dIn true) (za 3) (eC (.ct [.str "if",.str "while",.str "times",.str "hand"])))) (zG (ze (We fu) [(za 3),(eSl Wo (za 2) (Yf (eC (.int 1))) oNo)])) zx) (zk (sIf (bE (eOp wQ (za 1) (eC (.int 12)))) Zu zx) (zk (sIf (bE (eOp (yk false) (za 3) (eC (.str "if")))) (zG (ze cT [(za 0),(ze (vZ fu) [(eSl Wo (za 2) (Yf (eC (.int 1))) oNo)]),(eOp xj (za 1) (eC (.int 1)))])) zx) (zk (sIf (bE (eOp (yk false) (za 3) (eC (.str "while")))) (zG (yn [(eC (.str "while")),(ze (vZ fu) [(eSl Wo (za 2) (Yf (eC (.int 1))) oNo)]),(ze aL [(za 0),(eOp xj (za 1) (eC (.int 1)))])])) zx) (zk (sIf (bE (eOp (yk false) (za 3) (eC (.str "times")))) (zG (yn [(eC (.str "times")),(ze (Wf fu) [(eSl Wo (za 2) (Yf (eC (.int 1))) oNo)]),(ze aL [(za 0),(eOp xj (za 1) (eC (.int 1)))])])) zx) (zk (sIf (bE (eOp zdS (eFn ww [(za 2)]) (eC (.int 1)))) Zu zx) (zG (yn [(eC (.str "hand")),(ze bB [(za 0),(eOp xj (za 1) (eC (.int 1)))])]))))))))))
noncomputable def vn (fu:Nat) (aI:TwF) (cm:TwF) (aL:TwF) (cT:TwF) (bB:TwF):TwS:=(zk (zF (ze aI [(za 0),(za 1)]) (gN 2)) (zk (yJ (xS "Rows" "take_alone" (yw fu) (za 0) [(eC (.str "end"))])) (zG (za 2))))
noncomputable def Vg (fu:Nat) (aI:TwF) (cm:TwF) (aL:TwF) (cT:TwF) (bB:TwF):TwS:=(zk (zF (ze aI [(za 0),(za 2)]) (gN 3)) (zk (yJ (xS "Rows" "take_alone" (yw fu) (za 0) [(eC (.str "else"))])) (zG (yn [(eC (.str "if")),(za 1),(za 3),(ze aL [(za 0),(za 2)])]))))
noncomputable def Zb (fu:Nat) (aI:TwF) (cm:TwF) (aL:TwF) (cT:TwF) (bB:TwF):TwS:=(zk (zF (wv [(ze aI [(za 0),(za 1)])]) (gN 2)) (zk (yJ (xS "Rows" "take_alone" (yw fu) (za 0) [(eC (.str "or"))])) (zk (yJ (eMt yg (za 2) [(ze aI [(za 0),(za 1)])])) (zk (sWh fu (bE (eOp zd4 (xS "Rows" "first_word" (zR fu) (za 0) []) (eC (.str "or")))) (zk (yJ (xS "Rows" "take_alone" (yw fu) (za 0) [(eC (.str "or"))])) (yJ (eMt yg (za 2) [(ze aI [(za 0),(za 1)])])))) (zk (yJ (xS "Rows" "take_alone" (yw fu) (za 0) [(eC (.str "end"))])) (zG (eFn wb [(za 2)])))))))
mutual
noncomputable def zB (fu:Nat):Nat->TwF
 |0=>λ_ _=>none
 |n+1=>zK 2 1 (ZQ fu (zB fu n) (zP fu n) (zC fu n) (yb fu n) (zH fu n))
noncomputable def zP (fu:Nat):Nat->TwF
 |0=>λ_ _=>none
 |n+1=>zK 2 2 (Za fu (zB fu n) (zP fu n) (zC fu n) (yb fu n) (zH fu n))
noncomputable def zC (fu:Nat):Nat->TwF
 |0=>λ_ _=>none
 |n+1=>zK 2 1 (vn fu (zB fu n) (zP fu n) (zC fu n) (yb fu n) (zH fu n))
noncomputable def yb (fu:Nat):Nat->TwF
 |0=>λ_ _=>none
 |n+1=>zK 3 1 (Vg fu (zB fu n) (zP fu n) (zC fu n) (yb fu n) (zH fu n))
noncomputable def zH (fu:Nat):Nat->TwF
 |0=>λ_ _=>none
 |n+1=>zK 2 1 (Zb fu (zB fu n) (zP fu n) (zC fu n) (yb fu n) (zH fu n))
end
theorem Xl (fu n:Nat):zB fu (n+1)=zK 2 1 (ZQ fu (zB fu n) (zP fu n) (zC fu n) (yb fu n) (zH fu n)):=by rw[zB]
theorem UY (fu:Nat):zB fu 0=λ_ _=>none:=by rw[zB]
theorem Zc (fu n:Nat):zP fu (n+1)=zK 2 2 (Za fu (zB fu n) (zP fu n) (zC fu n) (yb fu n) (zH fu n)):=by rw[zP]
theorem TU (fu:Nat):zP fu 0=λ_ _=>none:=by rw[zP]
theorem Yp (fu n:Nat):zC fu (n+1)=zK 2 1 (vn fu (zB fu n) (zP fu n) (zC fu n) (yb fu n) (zH fu n)):=by rw[zC]
theorem Ub (fu:Nat):zC fu 0=λ_ _=>none:=by rw[zC]
theorem Vq (fu n:Nat):yb fu (n+1)=zK 3 1 (Vg fu (zB fu n) (zP fu n) (zC fu n) (yb fu n) (zH fu n)):=by rw[yb]
theorem za7 (fu:Nat):yb fu 0=λ_ _=>none:=by rw[yb]
theorem Yz (fu n:Nat):zH fu (n+1)=zK 2 1 (Zb fu (zB fu n) (zP fu n) (zC fu n) (yb fu n) (zH fu n)):=by rw[zH]
theorem Uu (fu:Nat):zH fu 0=λ_ _=>none:=by rw[zH]
theorem zb9 (T:Tx K mg):∀n:Nat,zZ P w K mg base (CXE P w) (7+n) T.au.a T.au.fd ["rows","opened"] (sTw K 2 (zB fu n))/\zZ P w K mg base (CXE P w) (7+n) T.cq.a T.cq.fd ["rows","opened"] (sTw K 2 (zP fu n))/\zZ P w K mg base (CXE P w) (7+n) T.aM.a T.aM.fd ["rows","opened"] (sTw K 2 (zC fu n))/\zZ P w K mg base (CXE P w) (7+n) T.cU.a T.cU.fd ["rows","test","opened"] (sTw K 3 (yb fu n))/\zZ P w K mg base (CXE P w) (7+n) T.bF.a T.bF.fd ["rows","opened"] (sTw K 2 (zH fu n)):=by
 intro n
 induction n with
 |zero=>
  refine⟨?_,?_,?_,?_,?_⟩
  .rw[UY];exact xG
  .rw[TU];exact xG
  .rw[Ub];exact xG
  .rw[za7];exact xG
  .rw[Uu];exact xG
 |succ n ih=>
  refine⟨?_,?_,?_,?_,?_⟩
  .rw[Xl];exact T.au.F.okE UE (λvs H Q E h=>h.1) (λaH A outer s H vs Q E hr h=>⟨_,((UE^^^(2,rm rfl,@yR _ _ _ _ zb))<|>Ya PassesOwn.leaving (zJ (Wm (K:=K)) (Yb (pv 0) T.aw T.ah.mt (xo (fu:=fu) T) (hr.mono (by walk_at "q2")) T.ah.b .nil zj) (~~~(ziM\(zg\(zg\(zg\zb))))) (by rfl)) (¬yM (xW rH rN rO yH (pv 2) ((T.cq\(ih.2.1,hr.mono (by walk_at "q2"),zj,pv 0\(pv 1\zb)))\zb)))<|>¬(!yi (yx (K:=K)) rfl T.b5 boot_tuple (pv 2\zb))),zV (n:=2) (k:=1) (b:=ZQ fu (zB fu n) (zP fu n) (zC fu n) (yb fu n) (zH fu n)) rfl (zW (wP (UL zy) yX) (zW (Tl (wE (xE zdj (xT T.aq (zn 0) zy) (WH (zi zjo (zi (yZ _) (zi (yZ _) (zi (yZ _) zy))))))) (wF (Uz vD (zn 2) (zi (yt (zi (zn 0) (zi (zn 1) zy))) zy)))) (xu (Tj VE (zi (zn 2) zy))))) h⟩)
  .rw[Zc];exact T.cq.F.okE Va (λvs H Q E h=>h.1) (λaH A outer s H vs Q E hr h=>⟨_,((Va^^^(2,rm rfl,Yb (pv 0) T.aw T.aC.mt (Wd (fu:=fu) T) (hr.mono (by walk_at "q2")) T.aC.b .nil zj))<|>(Va^^^(3,rm rfl,yI (K:=K)%(pv 2,zc)))<|>zD (zJ (Wm (K:=K)) (pv 3) (xc (v:= .ref T.ax) rfl T.c5 rfl) (by rfl)) (¬(!(T.bS\(zcM (fu:=fu) T,hr.mono (by walk_at "q2"),zj,pv 3\(wR (Yd (K:=K)) (pv 2) (ZD zc) ZC\zb))))) zr<|>zD (zN (yT (pv 1) (match T.cL with|⟨t,h⟩=>xc (v:= .int 12) rfl h ⟨t,rfl⟩))) (¬wo) zr<|>zD (zJ yG (pv 3) zg (by rfl)) (¬(!(T.cU\(ih.2.2.2.1,hr.mono (by walk_at "q2"),zj,pv 0\((T.bh\(Vf (fu:=fu) T,hr.mono (by walk_at "q2"),zj,wR (Yd (K:=K)) (pv 2) (ZD zc) ZC\zb))\(zE yu (pv 1) zc\zb)))))) zr<|>zD (zJ yG (pv 3) zg (by rfl)) (¬(!(~~~(zg\((T.bh\(Vf (fu:=fu) T,hr.mono (by walk_at "q2"),zj,wR (Yd (K:=K)) (pv 2) (ZD zc) ZC\zb))\((T.aM\(ih.2.2.1,hr.mono (by walk_at "q2"),zj,pv 0\(zE yu (pv 1) zc\zb)))\zb)))))) zr<|>zD (zJ yG (pv 3) zg (by rfl)) (¬(!(~~~(zg\((T.bR\(zcN (fu:=fu) T,hr.mono (by walk_at "q2"),zj,wR (Yd (K:=K)) (pv 2) (ZD zc) ZC\zb))\((T.aM\(ih.2.2.1,hr.mono (by walk_at "q2"),zj,pv 0\(zE yu (pv 1) zc\zb)))\zb)))))) zr<|>zD (zN (zal (zA (zU (K:=K)) rfl T.aJ boot_len (pv 2\zb)) zc)) (¬wo) zr<|>¬(!(~~~(zg\((T.bF\(ih.2.2.2.2,hr.mono (by walk_at "q2"),zj,pv 0\(zE yu (pv 1) zc\zb)))\zb))))),zV (n:=2) (k:=2) (b:=Za fu (zB fu n) (zP fu n) (zC fu n) (yb fu n) (zH fu n)) rfl (zW (wP (xT T.aq (zn 0) zy) yX) (zW (wP (xE WI (zn 2) (yV _)) yX) (zW (Yh (wE (xE zdj (zn 3) (zdP λj H=> .ct (λH=>T.c7 H) (.cons (.str _) (.cons (.str _) (.cons (.str _) (.cons (.str _) .nil))))))) (xu (yt (zi (zn 3) (zi (zbG (zn 2) (Tk (yV _)) zeT) zy)))) xF) (zW (Yh (zbD (zdT (zn 1) (yV _))) YX xF) (zW (Yh (wE (xE zay (zn 3) (yZ _))) (xu (yt (zi (zn 0) (zi (yt (zi (zbG (zn 2) (Tk (yV _)) zeT) zy)) (zi (xE UN (zn 1) (yV _)) zy))))) xF) (zW (Yh (wE (xE zay (zn 3) (yZ _))) (xu (WH (zi (yZ _) (zi (yt (zi (zbG (zn 2) (Tk (yV _)) zeT) zy)) (zi (yt (zi (zn 0) (zi (xE UN (zn 1) (yV _)) zy))) zy))))) xF) (zW (Yh (wE (xE zay (zn 3) (yZ _))) (xu (WH (zi (yZ _) (zi (yt (zi (zbG (zn 2) (Tk (yV _)) zeT) zy)) (zi (yt (zi (zn 0) (zi (xE UN (zn 1) (yV _)) zy))) zy))))) xF) (zW (Yh (zbD (zgk (Tj zax (zi (zn 2) zy)) (yV _))) YX xF) (xu (WH (zi (yZ _) (zi (yt (zi (zn 0) (zi (xE UN (zn 1) (yV _)) zy))) zy)))))))))))) h⟩)
  .rw[Yp];exact T.aM.F.okE Vp (λvs H Q E h=>h.1) (λaH A outer s H vs Q E hr h=>⟨_,((Vp^^^(2,rm rfl,T.au\(ih.1,hr.mono (by walk_at "q2"),zj,pv 0\(pv 1\zb))))<|>yM (Te (pv 0) T.aw T.ag.mt (xp (fu:=fu) T) (hr.mono (by walk_at "q2")) T.ag.b .nil zj (zg\zb))<|>¬(!pv 2)),zV (n:=2) (k:=1) (b:=vn fu (zB fu n) (zP fu n) (zC fu n) (yb fu n) (zH fu n)) rfl (zW (wP (yt (zi (zn 0) (zi (zn 1) zy))) yX) (zW (wF (xT T.aq (zn 0) (zi (yZ _) zy))) (xu (zn 2)))) h⟩)
  .rw[Vq];exact T.cU.F.okE zb1 (λvs H Q E h=>h.1) (λaH A outer s H vs Q E hr h=>⟨_,((zb1^^^(3,rm rfl,T.au\(ih.1,hr.mono (by walk_at "q2"),zj,pv 0\(pv 2\zb))))<|>yM (Te (pv 0) T.aw T.ag.mt (xp (fu:=fu) T) (hr.mono (by walk_at "q2")) T.ag.b .nil zj (zg\zb))<|>¬(!(~~~(zg\(pv 1\(pv 3\((T.aM\(ih.2.2.1,hr.mono (by walk_at "q2"),zj,pv 0\(pv 2\zb)))\zb))))))),zV (n:=3) (k:=1) (b:=Vg fu (zB fu n) (zP fu n) (zC fu n) (yb fu n) (zH fu n)) rfl (zW (wP (yt (zi (zn 0) (zi (zn 2) zy))) yX) (zW (wF (xT T.aq (zn 0) (zi (yZ _) zy))) (xu (WH (zi (yZ _) (zi (zn 1) (zi (zn 3) (zi (yt (zi (zn 0) (zi (zn 2) zy))) zy)))))))) h⟩)
  .rw[Yz];exact T.bF.F.okE VX (λvs H Q E h=>h.1) (λaH A outer s H vs Q E hr h=>⟨_,((VX^^^(2,rm rfl,@yR _ _ _ _ ((T.au\(ih.1,hr.mono (by walk_at "q2"),zj,pv 0\(pv 1\zb)))\zb)))<|>yM (Te (pv 0) T.aw T.ag.mt (xp (fu:=fu) T) (hr.mono (by walk_at "q2")) T.ag.b .nil zj (zg\zb))<|>yM (xW rH rN rO yH (pv 2) ((T.au\(ih.1,hr.mono (by walk_at "q2"),zj,pv 0\(pv 1\zb)))\zb))<|>Ya PassesOwn.leaving (zJ yG (Yb (pv 0) T.aw T.ah.mt (xo (fu:=fu) T) (hr.mono (by walk_at "q2")) T.ah.b .nil zj) zg (by rfl)) (yM (Te (pv 0) T.aw T.ag.mt (xp (fu:=fu) T) (hr.mono (by walk_at "q2")) T.ag.b .nil zj (zg\zb))<|>¬yM (xW rH rN rO yH (pv 2) ((T.au\(ih.1,hr.mono (by walk_at "q2"),zj,pv 0\(pv 1\zb)))\zb)))<|>yM (Te (pv 0) T.aw T.ag.mt (xp (fu:=fu) T) (hr.mono (by walk_at "q2")) T.ag.b .nil zj (zg\zb))<|>¬(!yi (yx (K:=K)) rfl T.b5 boot_tuple (pv 2\zb))),zV (n:=2) (k:=1) (b:=Zb fu (zB fu n) (zP fu n) (zC fu n) (yb fu n) (zH fu n)) rfl (zW (wP (UL (zi (yt (zi (zn 0) (zi (zn 1) zy))) zy)) yX) (zW (wF (xT T.aq (zn 0) (zi (yZ _) zy))) (zW (wF (Uz vD (zn 2) (zi (yt (zi (zn 0) (zi (zn 1) zy))) zy))) (zW (Tl (wE (xE zkd (xT T.aq (zn 0) zy) (yZ _))) (zW (wF (xT T.aq (zn 0) (zi (yZ _) zy))) (wF (Uz vD (zn 2) (zi (yt (zi (zn 0) (zi (zn 1) zy))) zy))))) (zW (wF (xT T.aq (zn 0) (zi (yZ _) zy))) (xu (Tj VE (zi (zn 2) zy)))))))) h⟩)
theorem zcO (T:Tx K mg) (n:Nat):zZ P w K mg base (CXE P w) (7+n) T.au.a T.au.fd ["rows","opened"] (sTw K 2 (zB fu n)):=(zb9 T n).1
noncomputable def Wg (fu:Nat):TwS:=(zk (zF (wv []) (gN 1)) (zk (sWh fu (bE (eOp zd4 (xS "Rows" "first_word" (zR fu) (za 0) []) (eC (.str "box")))) (zk (zF (xS "Rows" "taken" (xN fu) (za 0) []) (gN 2)) (zk (sIf (bE (eOp zdS (eFn ww [(za 2)]) (eC (.int 3)))) Zu zx) (yJ (eMt yg (za 1) [(yn [(ze (xL fu) [(eOp Ye (za 2) (eC (.int 1)))]),(ze (xq fu) [(eOp Ye (za 2) (eC (.int 2)))])])]))))) (zG (eFn wb [(za 1)]))))
noncomputable def ZR (fu:Nat):TwF:=zK 1 2 (Wg fu)
theorem zcP (T:Tx K mg):zZ P w K mg base (CXE P w) 4 T.bV.a T.bV.fd ["rows"] (sTw K 1 (ZR fu)):=
 T.bV.F.okE XZ (λvs H Q E h=>h.1) (λaH A outer s H vs Q E hr h=>⟨_,((XZ^^^(1,rm rfl,@yR _ _ _ _ zb))<|>Ya PassesOwn.leaving (zJ yG (Yb (pv 0) T.aw T.ah.mt (xo (fu:=fu) T) (hr.mono ∅) T.ah.b .nil zj) zg (by rfl)) ((XZ^^^(2,rm rfl,Yb (pv 0) T.aw T.aC.mt (Wd (fu:=fu) T) (hr.mono ∅) T.aC.b .nil zj))<|>zD (zN (zal (zA (zU (K:=K)) rfl T.aJ boot_len (pv 2\zb)) zc)) (¬wo) zr<|>¬yM (xW rH rN rO yH (pv 1) ((~~~((T.aX\(YO (fu:=fu) T,hr.mono ∅,zj,(yI (K:=K)%(pv 2,zc))\zb))\((T.aU\(Xk (fu:=fu) T,hr.mono ∅,zj,(yI (K:=K)%(pv 2,zc))\zb))\zb)))\zb)))<|>¬(!yi (yx (K:=K)) rfl T.b5 boot_tuple (pv 1\zb))),zV (n:=1) (k:=2) (b:=Wg fu) rfl (zW (wP (UL zy) yX) (zW (Tl (wE (xE zkd (xT T.aq (zn 0) zy) (yZ _))) (zW (wP (xT T.aq (zn 0) zy) yX) (zW (Yh (zbD (zgk (Tj zax (zi (zn 2) zy)) (yV _))) YX xF) (wF (Uz vD (zn 1) (zi (WH (zi (yt (zi (xE WI (zn 2) (yV _)) zy)) (zi (yt (zi (xE WI (zn 2) (yV _)) zy)) zy))) zy)))))) (xu (Tj VE (zi (zn 1) zy))))) h⟩)
noncomputable def zef (fu:Nat):TwS:=(zk (zF (zgt "Rows" (xU fu) [(za 0)]) (gN 1)) (zk (zF (ze (ZR fu) [(za 1)]) (gN 2)) (zk (zF (ze (zB fu 60) [(za 1),(eC (.int 0))]) (gN 3)) (zk (sIf (bE (eUn zjq (xS "Rows" "first_word" (zR fu) (za 1) []))) Zu zx) (zk (zF (yn [(za 2),(za 3)]) (gN 4)) (zk (sIf (XQ (bE (ze (Wb fu) [(za 4)]))) Zu zx) (zG (za 4))))))))
noncomputable def zeg (fu:Nat):TwF:=zK 1 4 (zef fu)
theorem zlO (T:Tx K mg):zZ P w K mg base (CXE P w) 68 T.fk.a T.fk.fd ["text"] (sTw K 1 (zeg fu)):=
 T.fk.F.okE TF (λvs H Q E h=>h.1) (λaH A outer s H vs Q E hr h=>⟨_,((TF^^^(1,rm rfl,zkX T.gC (zaL (fu:=fu) T) (hr.mono ∅) rfl T.gS T.aP.b .nil zj (pv 0\zb)))<|>(TF^^^(2,rm rfl,T.bV\(zcP (fu:=fu) T,hr.mono ∅,zj,pv 1\zb)))<|>(TF^^^(3,rm rfl,T.au\(zcO (fu:=fu) T 60,hr.mono ∅,zj,pv 1\(zc\zb))))<|>zD (zN (zkO (Yb (pv 1) T.aw T.ah.mt (xo (fu:=fu) T) (hr.mono ∅) T.ah.b .nil zj))) (¬wo) zr<|>(TF^^^(4,rm rfl,~~~(pv 2\(pv 3\zb))))<|>zD (vG (vt (T.bT\(zcK (fu:=fu) T,hr.mono ∅,zj,pv 4\zb)))) (¬wo) zr<|>¬(!pv 4)),zV (n:=1) (k:=4) (b:=zef fu) rfl (zW (wP (zj3 T.aq (zi (zn 0) zy)) yX) (zW (wP (yt (zi (zn 1) zy)) yX) (zW (wP (yt (zi (zn 1) (zi (yV _) zy))) yX) (zW (Yh (zbD (zli (xT T.aq (zn 1) zy))) YX xF) (zW (wP (WH (zi (zn 2) (zi (zn 3) zy))) yX) (zW (Yh (zjp (zbD (yt (zi (zn 4) zy)))) YX xF) (xu (zn 4)))))))) h⟩)
noncomputable def YQ (fu:Nat):TwS:=(zk (zF (eC (.int 0)) (gN 4)) (zk (sIf (bE (eOp dGt (eFn ww [(za 0)]) (eC (.int 0)))) (zF (eOp Ye (za 0) (eOp zaw (za 1) (eFn ww [(za 0)]))) (gN 4)) zx) (zG (eOp zaw (eOp zaw (eOp xj (eOp zlj (eOp xj (za 4) (eOp Wq (za 1) (za 1))) (eC (.int 48271))) (eC (.int 11))) (za 2)) (za 3)))))
noncomputable def zp (fu:Nat):TwF:=zK 4 1 (YQ fu)
theorem zu (T:Tx K mg):zZ P w K mg base (CXE P w) 1 T.ae.a T.ae.fd ["_law_script","_law_k","_law_prime","_law_many"] (sTw K 4 (zp fu)):=
 T.ae.F.okE Vb (λvs H Q E h=>h.1) (λaH A outer s H vs Q E hr h=>⟨_,((Vb^^^(4,rm rfl,zc))<|>zD (zN (Zm (zA (zU (K:=K)) rfl T.aJ boot_len (pv 0\zb)) zc)) (¬(Vb^^^(4,rm rfl,yI (K:=K)%(pv 0,zE WC (pv 1) (zA (zU (K:=K)) rfl T.aJ boot_len (pv 0\zb)))))) zr<|>¬(!zE WC (zE WC (zE yu (zE zm2 (zE yu (pv 4) (zE WG (pv 1) (pv 1))) zc) zc) (pv 2)) (pv 3))),zV (n:=4) (k:=1) (b:=YQ fu) rfl (by unfold YQ;walk_at "re") h⟩)
noncomputable def YR (fu:Nat):TwS:=(zk (zF (eC (.str "abcdefghijklmnopqrstuvwxyz")) (gN 3)) (zk (zF (eOp xj (za 2) (eC (.int 1))) (gN 4)) (zk (sIf (bE (eOp wQ (ze (zp fu) [(za 0),(eC (.int 1)),(eC (.int 10009)),(eC (.int 2))]) (eC (.int 0)))) (zF (eOp xj (za 4) (ze (zp fu) [(za 0),(eOp xj (eC (.int 20)) (za 1)),(eC (.int 10037)),(eOp zeW (eC (.int 8)) (za 2))])) (gN 4)) zx) (zk (zF (eC (.str "")) (gN 5)) (zk (Wp (iR1 (za 4)) (gN 6) (zk (zF (eOp xj (eOp Wq (za 6) (za 6)) (ze (zp fu) [(za 0),(eC (.int 2)),(eC (.int 10039)),(eC (.int 26))])) (gN 7)) (zk (sIf (bE (eOp wQ (ze (zp fu) [(za 0),(eC (.int 3)),(eC (.int 10061)),(eC (.int 2))]) (eC (.int 0)))) (zF (eOp xj (za 7) (ze (zp fu) [(za 0),(eOp xj (eC (.int 30)) (za 1)),(eC (.int 10067)),(eC (.int 26))])) (gN 7)) zx) (zk (sIf (bE (eOp wQ (za 6) (za 2))) (zF (eOp xj (za 1) (ze (zp fu) [(za 0),(eC (.int 4)),(eC (.int 10069)),(eC (.int 26))])) (gN 7)) zx) (zF (eOp xf (za 5) (eOp zbE (za 3) (eOp zaw (za 7) (eC (.int 26))))) (gN 5)))))) (zG (za 5)))))))
noncomputable def Vh (fu:Nat):TwF:=zK 3 5 (YR fu)
theorem zeh (T:Tx K mg):zZ P w K mg base (CXE P w) 2 T.cx.a T.cx.fd ["_law_script","_law_k","_law_at"] (sTw K 3 (Vh fu)):=
 T.cx.F.okE yY (λvs H Q E h=>h.1) (λaH A outer s H vs Q E hr h=>⟨_,((yY^^^(3,rm rfl,zg))<|>(yY^^^(4,rm rfl,zE yu (pv 2) zc))<|>zD (zN (yT (T.ae\(zu (fu:=fu) T,hr.mono ∅,zj,pv 0\(zc\(zc\(zc\zb))))) zc)) (¬(yY^^^(4,rm rfl,zE yu (pv 4) (T.ae\(zu (fu:=fu) T,hr.mono ∅,zj,pv 0\(zE yu zc (pv 1)\(zc\(zE zan zc (pv 2)\zb)))))))) zr<|>(yY^^^(5,rm rfl,zg))<|>Zr PassesOwn.leaving rfl (Wk rfl T.dE (pv 4\zb)) (zL (i:=6) yY.nd rfl (rm rfl)) ((yY^^^(7,rm rfl,zE yu (zE WG (pv 6) (pv 6)) (T.ae\(zu (fu:=fu) T,hr.mono ∅,zj,pv 0\(zc\(zc\(zc\zb)))))))<|>zD (zN (yT (T.ae\(zu (fu:=fu) T,hr.mono ∅,zj,pv 0\(zc\(zc\(zc\zb))))) zc)) (¬(yY^^^(7,rm rfl,zE yu (pv 7) (T.ae\(zu (fu:=fu) T,hr.mono ∅,zj,pv 0\(zE yu zc (pv 1)\(zc\(zc\zb)))))))) zr<|>zD (zN (yT (pv 6) (pv 2))) (¬(yY^^^(7,rm rfl,zE yu (pv 1) (T.ae\(zu (fu:=fu) T,hr.mono ∅,zj,pv 0\(zc\(zc\(zc\zb)))))))) zr<|>¬(yY^^^(5,rm rfl,zE yQ (pv 5) (zdC%(pv 3,zE WC (pv 7) zc)))))<|>¬(!pv 5)),zV (n:=3) (k:=5) (b:=YR fu) rfl (by unfold YR;walk_at "re") h⟩)
noncomputable def ZS (fu:Nat):TwS:=(zk (zF (ze (zp fu) [(za 0),(eC (.int 5)),(eC (.int 10079)),(eC (.int 8))]) (gN 3)) (zk (zF (wv []) (gN 4)) (zk (zF (eC (.int 1)) (gN 5)) (zk (Wp (iR1 (za 1)) (gN 6) (zk (zF (eOp xj (eC (.int 1)) (ze (zp fu) [(za 0),(eOp xj (eC (.int 6)) (za 6)),(eC (.int 10091)),(eC (.int 9))])) (gN 7)) (zk (sIf (bE (eOp dGt (eOp Wq (za 5) (za 7)) (za 2))) (zF (eC (.int 1)) (gN 7)) zx) (zk (zF (eOp Wq (za 5) (za 7)) (gN 5)) (zk (zF (ze (Vh fu) [(za 0),(za 6),(za 3)]) (gN 8)) (zk (sIf (XO (bE (eOp wQ (za 6) (eC (.int 1)))) (bE (eOp wQ (ze (zp fu) [(za 0),(eC (.int 9)),(eC (.int 10369)),(eC (.int 3))]) (eC (.int 0))))) (zk (zF (eSl zeU (eOp zM (eOp Ye (za 4) (eC (.int 0))) (eC (.int 0))) oNo (Yf (eUn zbK (eC (.int 1))))) (gN 8)) (sIf (bE (eOp dLt (eFn zaV [(za 8)]) (eC (.int 7)))) (zF (eOp xf (eOp zM (eOp Ye (za 4) (eC (.int 0))) (eC (.int 0))) (eC (.str "e"))) (gN 8)) zx)) zx) (yJ (eMt yg (za 4) [(yn [(za 8),(za 7)])])))))))) (zG (eFn wb [(za 4)]))))))
noncomputable def Wh (fu:Nat):TwF:=zK 3 6 (ZS fu)
theorem zcQ (T:Tx K mg):zZ P w K mg base (CXE P w) 3 T.bZ.a T.bZ.fd ["_law_script","_law_count","_law_most"] (sTw K 3 (Wh fu)):=
 T.bZ.F.okE yB (λvs H Q E h=>h.1) (λaH A outer s H vs Q E hr h=>⟨_,((yB^^^(3,rm rfl,T.ae\(zu (fu:=fu) T,hr.mono ∅,zj,pv 0\(zc\(zc\(zc\zb))))))<|>(yB^^^(4,rm rfl,@yR _ _ _ _ zb))<|>(yB^^^(5,rm rfl,zc))<|>Zr PassesOwn.leaving rfl (Wk rfl T.dE (pv 1\zb)) (zL (i:=6) yB.nd rfl (rm rfl)) ((yB^^^(7,rm rfl,zE yu zc (T.ae\(zu (fu:=fu) T,hr.mono ∅,zj,pv 0\(zE yu zc (pv 6)\(zc\(zc\zb)))))))<|>zD (zN (Zm (zE WG (pv 5) (pv 7)) (pv 2))) (¬(yB^^^(7,rm rfl,zc))) zr<|>(yB^^^(5,rm rfl,zE WG (pv 5) (pv 7)))<|>(yB^^^(8,rm rfl,T.cx\(zeh (fu:=fu) T,hr.mono ∅,zj,pv 0\(pv 6\(pv 3\zb)))))<|>zD (PW.pt (Zq (zN (yT (pv 6) zc)) (wB (zN (yT (T.ae\(zu (fu:=fu) T,hr.mono ∅,zj,pv 0\(zc\(zc\(zc\zb))))) zc))))) ((yB^^^(8,rm rfl,wR znf (zt (K:=K)%(yI (K:=K)%(pv 4,zc),zc)) ZC (ZD (ziU zfR zc))))<|>¬zD (zN (zc1 (zA YA rfl T.aJ boot_len (pv 8\zb)) zc)) (¬(yB^^^(8,rm rfl,zE yQ (zt (K:=K)%(yI (K:=K)%(pv 4,zc),zc)) zg))) zr) zr<|>¬yM (xW rH rN rO yH (pv 4) ((~~~(pv 8\(pv 7\zb)))\zb)))<|>¬(!yi (yx (K:=K)) rfl T.b5 boot_tuple (pv 4\zb))),zV (n:=3) (k:=6) (b:=ZS fu) rfl (by unfold ZS;walk_at "re") h⟩)
noncomputable def vo (fu:Nat):TwS:=(zk (zF (eC (.int 0)) (gN 3)) (zk (sIf (bE (eOp dGt (eFn ww [(za 0)]) (eC (.int 0)))) (zF (eOp Ye (za 0) (eOp zaw (za 1) (eFn ww [(za 0)]))) (gN 3)) zx) (zk (zF (ze (zp fu) [(za 0),(za 1),(eC (.int 10103)),(eC (.int 4))]) (gN 4)) (zk (sIf (XO (bE (eOp dLt (za 4) (eC (.int 2)))) (bE (eOp dGt (eFn ww [(za 2)]) (eC (.int 0))))) (zG (eOp zM (eOp zM (za 2) (ze (zp fu) [(za 0),(za 1),(eC (.int 10111)),(eFn ww [(za 2)])])) (eC (.int 0)))) zx) (zk (sIf (bE (eOp wQ (za 4) (eC (.int 2)))) (zG (eOp zaw (za 3) (eOp zgj (eC (.int 10)) (eC (.int 9))))) zx) (zG (ze (zp fu) [(za 0),(za 1),(eC (.int 10133)),(eC (.int 10))])))))))
noncomputable def yD (fu:Nat):TwF:=zK 3 2 (vo fu)
theorem xz (T:Tx K mg):zZ P w K mg base (CXE P w) 2 T.ao.a T.ao.fd ["_law_script","_law_k","_law_boxes_here"] (sTw K 3 (yD fu)):=
 T.ao.F.okE vh (λvs H Q E h=>h.1) (λaH A outer s H vs Q E hr h=>⟨_,((vh^^^(3,rm rfl,zc))<|>zD (zN (Zm (zA (zU (K:=K)) rfl T.aJ boot_len (pv 0\zb)) zc)) (¬(vh^^^(3,rm rfl,yI (K:=K)%(pv 0,zE WC (pv 1) (zA (zU (K:=K)) rfl T.aJ boot_len (pv 0\zb)))))) zr<|>(vh^^^(4,rm rfl,T.ae\(zu (fu:=fu) T,hr.mono ∅,zj,pv 0\(pv 1\(zc\(zc\zb))))))<|>zD (PW.pt (Zq (zN (zc1 (pv 4) zc)) (wB (zN (Zm (zA (zU (K:=K)) rfl T.aJ boot_len (pv 2\zb)) zc))))) (¬(!(zt (K:=K)%(zt (K:=K)%(pv 2,T.ae\(zu (fu:=fu) T,hr.mono ∅,zj,pv 0\(pv 1\(zc\(zA (zU (K:=K)) rfl T.aJ boot_len (pv 2\zb)\zb))))),zc)))) zr<|>zD (zN (yT (pv 4) zc)) (¬(!zE WC (pv 3) (zE zfQ zc zc))) zr<|>¬(!(T.ae\(zu (fu:=fu) T,hr.mono ∅,zj,pv 0\(pv 1\(zc\(zc\zb))))))),zV (n:=3) (k:=2) (b:=vo fu) rfl (by unfold vo;walk_at "re") h⟩)
noncomputable def YS (fu:Nat):TwS:=(zk (zF (eOp zbE (eC (.str "=<#")) (ze (zp fu) [(za 0),(za 1),(eC (.int 10139)),(eC (.int 3))])) (gN 3)) (zG (yn [(ze (yD fu) [(za 0),(eOp xj (za 1) (eC (.int 1))),(za 2)]),(za 3),(ze (yD fu) [(za 0),(eOp xj (za 1) (eC (.int 2))),(za 2)])])))
noncomputable def wJ (fu:Nat):TwF:=zK 3 1 (YS fu)
theorem Vi (T:Tx K mg):zZ P w K mg base (CXE P w) 3 T.bu.a T.bu.fd ["_law_script","_law_k","_law_boxes_here"] (sTw K 3 (wJ fu)):=
 T.bu.F.okE TJ (λvs H Q E h=>h.1) (λaH A outer s H vs Q E hr h=>⟨_,((TJ^^^(3,rm rfl,zdC%(zg,T.ae\(zu (fu:=fu) T,hr.mono ∅,zj,pv 0\(pv 1\(zc\(zc\zb)))))))<|>¬(!(~~~((T.ao\(xz (fu:=fu) T,hr.mono ∅,zj,pv 0\(zE yu (pv 1) zc\(pv 2\zb))))\(pv 3\((T.ao\(xz (fu:=fu) T,hr.mono ∅,zj,pv 0\(zE yu (pv 1) zc\(pv 2\zb))))\zb)))))),zV (n:=3) (k:=1) (b:=YS fu) rfl (by unfold YS;walk_at "re") h⟩)
noncomputable def wg (fu:Nat):TwS:=(zk (sIf (bE (eOp wQ (ze (zp fu) [(za 0),(za 1),(eC (.int 10141)),(eC (.int 3))]) (eC (.int 0)))) (zG (yn [(ze (yD fu) [(za 0),(eOp xj (za 1) (eC (.int 1))),(za 2)])])) zx) (zk (zF (eOp zbE (eC (.str "+-*")) (ze (zp fu) [(za 0),(za 1),(eC (.int 10151)),(eC (.int 3))])) (gN 3)) (zG (yn [(ze (yD fu) [(za 0),(eOp xj (za 1) (eC (.int 1))),(za 2)]),(za 3),(ze (yD fu) [(za 0),(eOp xj (za 1) (eC (.int 2))),(za 2)])]))))
noncomputable def Zd (fu:Nat):TwF:=zK 3 1 (wg fu)
theorem TV (T:Tx K mg):zZ P w K mg base (CXE P w) 3 T.aW.a T.aW.fd ["_law_script","_law_k","_law_boxes_here"] (sTw K 3 (Zd fu)):=
 T.aW.F.okE XB (λvs H Q E h=>h.1) (λaH A outer s H vs Q E hr h=>⟨_,(zD (zN (yT (T.ae\(zu (fu:=fu) T,hr.mono ∅,zj,pv 0\(pv 1\(zc\(zc\zb))))) zc)) (¬(!(~~~((T.ao\(xz (fu:=fu) T,hr.mono ∅,zj,pv 0\(zE yu (pv 1) zc\(pv 2\zb))))\zb)))) zr<|>(XB^^^(3,rm rfl,zdC%(zg,T.ae\(zu (fu:=fu) T,hr.mono ∅,zj,pv 0\(pv 1\(zc\(zc\zb)))))))<|>¬(!(~~~((T.ao\(xz (fu:=fu) T,hr.mono ∅,zj,pv 0\(zE yu (pv 1) zc\(pv 2\zb))))\(pv 3\((T.ao\(xz (fu:=fu) T,hr.mono ∅,zj,pv 0\(zE yu (pv 1) zc\(pv 2\zb))))\zb)))))),zV (n:=3) (k:=1) (b:=wg fu) rfl (by unfold wg;walk_at "re") h⟩)
noncomputable def vp (fu:Nat):TwS:=(zk (zF (xQ [none,some 0,some 1] (iR1 (za 2)) (gN 0) xR (ze (zp fu) [(za 1),(eOp xj (za 2) (za 0)),(eC (.int 10159)),(eC (.int 4))])) (gN 3)) (zk (zF (ze (zp fu) [(za 0),(za 1),(eC (.int 10163)),(za 2)]) (gN 4)) (zk (sIf (bE (eOp wQ (eFn zgm [(za 3)]) (eC (.int 0)))) (zF (eC (.int 1)) (zbH (za 3) (za 4))) zx) (zk (sIf (bE (eOp wQ (ze (zp fu) [(za 0),(za 1),(eC (.int 10169)),(eC (.int 6))]) (eC (.int 0)))) (zF (eOp zeW (eOp zgj (eC (.int 10)) (eC (.int 9))) (eC (.int 1))) (zbH (za 3) (za 4))) (sIf (XO (bE (eOp dGt (eFn ww [(za 0)]) (eC (.int 0)))) (bE (eOp wQ (ze (zp fu) [(za 0),(za 1),(eC (.int 10463)),(eC (.int 3))]) (eC (.int 0))))) (zF (eOp xj (eC (.int 1)) (eOp zaw (eOp Ye (za 0) (eOp zaw (za 1) (eFn ww [(za 0)]))) (eOp zeW (eOp zgj (eC (.int 10)) (eC (.int 9))) (eC (.int 1))))) (zbH (za 3) (za 4))) zx)) (zG (eFn wb [(za 3)]))))))
noncomputable def Yu (fu:Nat):TwF:=zK 3 2 (vp fu)
theorem za8 (T:Tx K mg):zZ P w K mg base (CXE P w) 2 T.bq.a T.bq.fd ["_law_script","_law_k","_law_size"] (sTw K 3 (Yu fu)):=
 T.bq.F.okE Yt (λvs H Q E h=>h.1) (λaH A outer s H vs Q E hr h=>⟨_,(WE (i:=3) (N':=["_law_at","_law_script","_law_k"]) rfl (blk (osc:=zf vL) rfl (by decide+kernel)) (xt (Ti (i:=0) rfl rfl (Ti (i:=1) rfl rfl xD))) (Wk rfl T.dE (pv 2\zb)) (yy rfl) (λC s₀ H₀ fp=>zL (i:=0) (show (["_law_at","_law_script","_law_k"]:List Str).Nodup from by decide+kernel) rfl (rm rfl)) (λC s₀ H₀ fp=>xC) (λC s₀ H₀ fp=>(T.ae\(zu (fu:=fu) T,hr.mono ∅,Uy,pv 1\(zE yu (pv 2) (pv 0)\(zc\(zc\zb)))))) Yt.nd rfl rfl<|>(Yt^^^(4,rm rfl,T.ae\(zu (fu:=fu) T,hr.mono ∅,zj,pv 0\(pv 1\(zc\(pv 2\zb))))))<|>zD (zN (yT (zA (zas (K:=K) rfl) rfl T.fX PyProof.Rows.Boot.«sum» (pv 3\zb)) zc)) (¬XJ zc (zfO (pv 3) (pv 4) zbu)) zr<|>zD (zN (yT (T.ae\(zu (fu:=fu) T,hr.mono ∅,zj,pv 0\(pv 1\(zc\(zc\zb))))) zc)) (¬XJ (zE zan (zE zfQ zc zc) zc) (zfO (pv 3) (pv 4) zbu)) (¬zD (PW.pt (Zq (zN (Zm (zA (zU (K:=K)) rfl T.aJ boot_len (pv 0\zb)) zc)) (wB (zN (yT (T.ae\(zu (fu:=fu) T,hr.mono ∅,zj,pv 0\(pv 1\(zc\(zc\zb))))) zc))))) (¬XJ (zE yu zc (zE WC (yI (K:=K)%(pv 0,zE WC (pv 1) (zA (zU (K:=K)) rfl T.aJ boot_len (pv 0\zb)))) (zE zan (zE zfQ zc zc) zc))) (zfO (pv 3) (pv 4) zbu)) zr)<|>¬(!yi (yx (K:=K)) rfl T.b5 boot_tuple (pv 3\zb))),zV (n:=3) (k:=2) (b:=vp fu) rfl (by unfold vp;walk_at "re") h⟩)
noncomputable def ZT (fu:Nat):TwS:=(zk (zF (ze (zp fu) [(za 0),(za 1),(eC (.int 10177)),(eC (.int 8))]) (gN 3)) (zk (sIf (XO (bE (eOp dLt (za 3) (eC (.int 5)))) (bE (eOp dGt (eFn ww [(za 2)]) (eC (.int 0))))) (zk (zF (eOp zM (za 2) (ze (zp fu) [(za 0),(za 1),(eC (.int 10181)),(eFn ww [(za 2)])])) (gT 2 (yA (gN 4) (yA (gN 5) Yg)))) (zk (sIf (bE (eOp dLt (za 3) (eC (.int 3)))) (zG (yn [(eC (.str "set")),(za 4),(ze (Zd fu) [(za 0),(za 1),(za 2)])])) zx) (zG (yn [(eC (.str "draw")),(za 4),(ze (Yu fu) [(za 0),(za 1),(za 5)])])))) zx) (zk (sIf (bE (eOp wQ (za 3) (eC (.int 5)))) (zG (yn [(eC (.str "pass"))])) zx) (zk (sIf (bE (eOp wQ (za 3) (eC (.int 6)))) (zG (yn [(eC (.str "look")),(ze (wJ fu) [(za 0),(za 1),(za 2)])])) zx) (zG (yn [(eC (.str "gain")),(ze (yD fu) [(za 0),(eOp xj (za 1) (eC (.int 1))),(za 2)])]))))))
noncomputable def wV (fu:Nat):TwF:=zK 3 3 (ZT fu)
theorem zcR (T:Tx K mg):zZ P w K mg base (CXE P w) 4 T.bX.a T.bX.fd ["_law_script","_law_k","_law_boxes_here"] (sTw K 3 (wV fu)):=
 T.bX.F.okE ZI (λvs H Q E h=>h.1) (λaH A outer s H vs Q E hr h=>⟨_,((ZI^^^(3,rm rfl,T.ae\(zu (fu:=fu) T,hr.mono ∅,zj,pv 0\(pv 1\(zc\(zc\zb))))))<|>zD (PW.pt (Zq (zN (zc1 (pv 3) zc)) (wB (zN (Zm (zA (zU (K:=K)) rfl T.aJ boot_len (pv 2\zb)) zc))))) (XJ (zt (K:=K)%(pv 2,T.ae\(zu (fu:=fu) T,hr.mono ∅,zj,pv 0\(pv 1\(zc\(zA (zU (K:=K)) rfl T.aJ boot_len (pv 2\zb)\zb)))))) (ZE (K:=K) (n:=2) rfl (yF (zL (i:=4) ZI.nd rfl (rm rfl)) (yF (zL (i:=5) ZI.nd rfl (rm rfl)) ZB)))<|>zD (zN (zc1 (pv 3) zc)) (¬(!(~~~(zg\(pv 4\((T.aW\(TV (fu:=fu) T,hr.mono ∅,zj,pv 0\(pv 1\(pv 2\zb))))\zb)))))) zr<|>¬(!(~~~(zg\(pv 4\((T.bq\(za8 (fu:=fu) T,hr.mono ∅,zj,pv 0\(pv 1\(pv 5\zb))))\zb)))))) zr<|>zD (zN (yT (pv 3) zc)) (¬(!(~~~(zg\zb)))) zr<|>zD (zN (yT (pv 3) zc)) (¬(!(~~~(zg\((T.bu\(Vi (fu:=fu) T,hr.mono ∅,zj,pv 0\(pv 1\(pv 2\zb))))\zb))))) zr<|>¬(!(~~~(zg\((T.ao\(xz (fu:=fu) T,hr.mono ∅,zj,pv 0\(zE yu (pv 1) zc\(pv 2\zb))))\zb))))),zV (n:=3) (k:=3) (b:=ZT fu) rfl (by unfold ZT;walk_at "re") h⟩)
noncomputable def Ze (fu:Nat) (da:TwF) (d9:TwF) (bL:TwF):TwS:=(zk (zF (ze (zp fu) [(za 0),(za 1),(eC (.int 10187)),(eC (.int 11))]) (gN 5)) (zk (sIf (bOr (bE (eOp dGt (za 5) (eC (.int 3)))) (bE (eOp wQ (za 3) (eC (.int 0))))) (zG (yn [(ze (wV fu) [(za 0),(za 1),(za 2)]),(eOp xj (za 1) (eC (.int 1)))])) zx) (zk (sIf (bE (eOp wQ (za 5) (eC (.int 3)))) (zG (ze d9 [(za 0),(za 1),(za 2),(za 3),(za 4)])) zx) (zk (zF (ze bL [(za 0),(eOp xj (za 1) (eC (.int 1))),(za 2),(eOp zeW (za 3) (eC (.int 1))),(za 4)]) (gT 2 (yA (gN 6) (yA (gN 7) Yg)))) (zk (sIf (bE (eOp wQ (za 5) (eC (.int 0)))) (zG (yn [(yn [(eC (.str "while")),(ze (wJ fu) [(za 0),(za 1),(za 2)]),(za 6)]),(za 7)])) zx) (zk (sIf (bE (eOp wQ (za 5) (eC (.int 1)))) (zk (zF (ze (zp fu) [(za 0),(za 1),(eC (.int 10193)),(eC (.int 4))]) (gN 8)) (zk (sIf (bE (eOp wQ (ze (zp fu) [(za 0),(za 1),(eC (.int 10211)),(eC (.int 8))]) (eC (.int 0)))) (zF (ze (zp fu) [(za 0),(za 1),(eC (.int 10223)),(eC (.int 61))]) (gN 8)) zx) (zG (yn [(yn [(eC (.str "times")),(za 8),(za 6)]),(za 7)])))) zx) (zk (zF (ze bL [(za 0),(za 7),(za 2),(eOp zeW (za 3) (eC (.int 1))),(za 4)]) (gT 2 (yA (gN 9) (yA (gN 7) Yg)))) (zG (yn [(yn [(eC (.str "if")),(ze (wJ fu) [(za 0),(za 1),(za 2)]),(za 6),(za 9)]),(za 7)])))))))))
noncomputable def Zf (fu:Nat) (da:TwF) (d9:TwF) (bL:TwF):TwS:=(zk (zF (eOp xj (eC (.int 2)) (ze (zp fu) [(za 0),(za 1),(eC (.int 10193)),(eC (.int 3))])) (gN 5)) (zk (sIf (bE (eOp wQ (ze (zp fu) [(za 0),(za 1),(eC (.int 10211)),(eC (.int 8))]) (eC (.int 0)))) (zF (eC (.int 8)) (gN 5)) zx) (zk (zF (wv []) (gN 6)) (zk (zF (eOp xj (za 1) (eC (.int 1))) (gN 7)) (zk (Wp (iR1 (za 5)) (gN 8) (zk (zF (ze bL [(za 0),(za 7),(za 2),(eOp zeW (za 3) (eC (.int 1))),(za 4)]) (gT 2 (yA (gN 9) (yA (gN 7) Yg)))) (yJ (eMt yg (za 6) [(za 9)])))) (zG (yn [(yn [(eC (.str "hand")),(eFn wb [(za 6)])]),(za 7)])))))))
noncomputable def wW (fu:Nat) (da:TwF) (d9:TwF) (bL:TwF):TwS:=(zk (zF (wv []) (gN 5)) (zk (zF (eOp dGt (ze (zp fu) [(za 0),(za 1),(eC (.int 10243)),(eC (.int 6))]) (eC (.int 0))) (gN 6)) (zk (sWh fu (XO (bE (za 6)) (bE (eOp dLt (za 1) (za 4)))) (zk (zF (eOp dGt (ze (zp fu) [(za 0),(za 1),(eC (.int 10247)),(eC (.int 3))]) (eC (.int 0))) (gN 6)) (zk (zF (ze da [(za 0),(za 1),(za 2),(za 3),(za 4)]) (gT 2 (yA (gN 7) (yA (gN 1) Yg)))) (yJ (eMt yg (za 5) [(za 7)]))))) (zG (yn [(eFn wb [(za 5)]),(za 1)])))))
mutual
noncomputable def zT (fu:Nat):Nat->TwF
 |0=>λ_ _=>none
 |n+1=>zK 5 5 (Ze fu (zT fu n) (ym fu n) (yc fu n))
noncomputable def ym (fu:Nat):Nat->TwF
 |0=>λ_ _=>none
 |n+1=>zK 5 5 (Zf fu (zT fu n) (ym fu n) (yc fu n))
noncomputable def yc (fu:Nat):Nat->TwF
 |0=>λ_ _=>none
 |n+1=>zK 5 3 (wW fu (zT fu n) (ym fu n) (yc fu n))
end
theorem XE (fu n:Nat):zT fu (n+1)=zK 5 5 (Ze fu (zT fu n) (ym fu n) (yc fu n)):=by rw[zT]
theorem TW (fu:Nat):zT fu 0=λ_ _=>none:=by rw[zT]
theorem XF (fu n:Nat):ym fu (n+1)=zK 5 5 (Zf fu (zT fu n) (ym fu n) (yc fu n)):=by rw[ym]
theorem TX (fu:Nat):ym fu 0=λ_ _=>none:=by rw[ym]
theorem Xm (fu n:Nat):yc fu (n+1)=zK 5 3 (wW fu (zT fu n) (ym fu n) (yc fu n)):=by rw[yc]
theorem UZ (fu:Nat):yc fu 0=λ_ _=>none:=by rw[yc]
theorem zcS (T:Tx K mg):∀n:Nat,zZ P w K mg base (CXE P w) (4+n) T.b4.a T.b4.fd ["_law_script","_law_k","_law_boxes_here","_law_nested","_law_stop"] (sTw K 5 (zT fu n))/\zZ P w K mg base (CXE P w) (4+n) T.cy.a T.cy.fd ["_law_script","_law_k","_law_boxes_here","_law_nested","_law_stop"] (sTw K 5 (ym fu n))/\zZ P w K mg base (CXE P w) (4+n) T.b6.a T.b6.fd ["_law_script","_law_k","_law_boxes_here","_law_nested","_law_stop"] (sTw K 5 (yc fu n)):=by
 intro n
 induction n with
 |zero=>
  refine⟨?_,?_,?_⟩
  .rw[TW];exact xG
  .rw[TX];exact xG
  .rw[UZ];exact xG
 |succ n ih=>
  refine⟨?_,?_,?_⟩
  .rw[XE];exact T.b4.F.okE xH (λvs H Q E h=>h.1) (λaH A outer s H vs Q E hr h=>⟨_,((xH^^^(5,rm rfl,T.ae\(zu (fu:=fu) T,hr.mono (by walk_at "q2"),zj,pv 0\(pv 1\(zc\(zc\zb))))))<|>zD (PW.pt (Wj (zN (Zm (pv 5) zc)) (Zp (zN (yT (pv 3) zc))))) (¬(!(~~~((T.bX\(zcR (fu:=fu) T,hr.mono (by walk_at "q2"),zj,pv 0\(pv 1\(pv 2\zb))))\(zE yu (pv 1) zc\zb))))) zr<|>zD (zN (yT (pv 5) zc)) (¬(!(T.cy\(ih.2.1,hr.mono (by walk_at "q2"),zj,pv 0\(pv 1\(pv 2\(pv 3\(pv 4\zb)))))))) zr<|>XJ (T.b6\(ih.2.2,hr.mono (by walk_at "q2"),zj,pv 0\(zE yu (pv 1) zc\(pv 2\(zE zan (pv 3) zc\(pv 4\zb)))))) (ZE (K:=K) (n:=2) rfl (yF (zL (i:=6) xH.nd rfl (rm rfl)) (yF (zL (i:=7) xH.nd rfl (rm rfl)) ZB)))<|>zD (zN (yT (pv 5) zc)) (¬(!(~~~((~~~(zg\((T.bu\(Vi (fu:=fu) T,hr.mono (by walk_at "q2"),zj,pv 0\(pv 1\(pv 2\zb))))\(pv 6\zb))))\(pv 7\zb))))) zr<|>zD (zN (yT (pv 5) zc)) ((xH^^^(8,rm rfl,T.ae\(zu (fu:=fu) T,hr.mono (by walk_at "q2"),zj,pv 0\(pv 1\(zc\(zc\zb))))))<|>zD (zN (yT (T.ae\(zu (fu:=fu) T,hr.mono (by walk_at "q2"),zj,pv 0\(pv 1\(zc\(zc\zb))))) zc)) (¬(xH^^^(8,rm rfl,T.ae\(zu (fu:=fu) T,hr.mono (by walk_at "q2"),zj,pv 0\(pv 1\(zc\(zc\zb))))))) zr<|>¬(!(~~~((~~~(zg\(pv 8\(pv 6\zb))))\(pv 7\zb))))) zr<|>XJ (T.b6\(ih.2.2,hr.mono (by walk_at "q2"),zj,pv 0\(pv 7\(pv 2\(zE zan (pv 3) zc\(pv 4\zb)))))) (ZE (K:=K) (n:=2) rfl (yF (zL (i:=9) xH.nd rfl (rm rfl)) (yF (zL (i:=7) xH.nd rfl (rm rfl)) ZB)))<|>¬(!(~~~((~~~(zg\((T.bu\(Vi (fu:=fu) T,hr.mono (by walk_at "q2"),zj,pv 0\(pv 1\(pv 2\zb))))\(pv 6\(pv 9\zb)))))\(pv 7\zb))))),zV (n:=5) (k:=5) (b:=Ze fu (zT fu n) (ym fu n) (yc fu n)) rfl (by unfold Ze;walk_at "re") h⟩)
  .rw[XF];exact T.cy.F.okE xJ (λvs H Q E h=>h.1) (λaH A outer s H vs Q E hr h=>⟨_,((xJ^^^(5,rm rfl,zE yu zc (T.ae\(zu (fu:=fu) T,hr.mono (by walk_at "q2"),zj,pv 0\(pv 1\(zc\(zc\zb)))))))<|>zD (zN (yT (T.ae\(zu (fu:=fu) T,hr.mono (by walk_at "q2"),zj,pv 0\(pv 1\(zc\(zc\zb))))) zc)) (¬(xJ^^^(5,rm rfl,zc))) zr<|>(xJ^^^(6,rm rfl,@yR _ _ _ _ zb))<|>(xJ^^^(7,rm rfl,zE yu (pv 1) zc))<|>Zr PassesOwn.leaving rfl (Wk rfl T.dE (pv 5\zb)) (zL (i:=8) xJ.nd rfl (rm rfl)) (XJ (T.b6\(ih.2.2,hr.mono (by walk_at "q2"),zj,pv 0\(pv 7\(pv 2\(zE zan (pv 3) zc\(pv 4\zb)))))) (ZE (K:=K) (n:=2) rfl (yF (zL (i:=9) xJ.nd rfl (rm rfl)) (yF (zL (i:=7) xJ.nd rfl (rm rfl)) ZB)))<|>¬yM (xW rH rN rO yH (pv 6) (pv 9\zb)))<|>¬(!(~~~((~~~(zg\(yi (yx (K:=K)) rfl T.b5 boot_tuple (pv 6\zb)\zb)))\(pv 7\zb))))),zV (n:=5) (k:=5) (b:=Zf fu (zT fu n) (ym fu n) (yc fu n)) rfl (by unfold Zf;walk_at "re") h⟩)
  .rw[Xm];exact T.b6.F.okE wa (λvs H Q E h=>h.1) (λaH A outer s H vs Q E hr h=>⟨_,((wa^^^(5,rm rfl,@yR _ _ _ _ zb))<|>(wa^^^(6,rm rfl,UH (Zm (T.ae\(zu (fu:=fu) T,hr.mono (by walk_at "q2"),zj,pv 0\(pv 1\(zc\(zc\zb))))) zc)))<|>Ya PassesOwn.leaving (PW.pt (Zq (vt (pv 6)) (wB (zN (zc1 (pv 1) (pv 4)))))) ((wa^^^(6,rm rfl,UH (Zm (T.ae\(zu (fu:=fu) T,hr.mono (by walk_at "q2"),zj,pv 0\(pv 1\(zc\(zc\zb))))) zc)))<|>XJ (T.b4\(ih.1,hr.mono (by walk_at "q2"),zj,pv 0\(pv 1\(pv 2\(pv 3\(pv 4\zb)))))) (ZE (K:=K) (n:=2) rfl (yF (zL (i:=7) wa.nd rfl (rm rfl)) (yF (zL (i:=1) wa.nd rfl (rm rfl)) ZB)))<|>¬yM (xW rH rN rO yH (pv 5) (pv 7\zb)))<|>¬(!(~~~(yi (yx (K:=K)) rfl T.b5 boot_tuple (pv 5\zb)\(pv 1\zb))))),zV (n:=5) (k:=3) (b:=wW fu (zT fu n) (ym fu n) (yc fu n)) rfl (by unfold wW;walk_at "re") h⟩)
theorem zei (T:Tx K mg) (n:Nat):zZ P w K mg base (CXE P w) (4+n) T.b4.a T.b4.fd ["_law_script","_law_k","_law_boxes_here","_law_nested","_law_stop"] (sTw K 5 (zT fu n)):=(zcS T n).1
noncomputable def XG (fu:Nat):TwS:=(zk (zF (wv []) (gN 4)) (zk (zF (eC (.int 0)) (gN 5)) (zk (sWh fu (bE (eOp dLt (za 5) (za 3))) (zk (zF (ze (zT fu 20) [(za 0),(za 5),(za 1),(za 2),(za 3)]) (gT 2 (yA (gN 6) (yA (gN 5) Yg)))) (yJ (eMt yg (za 4) [(za 6)])))) (zG (za 4)))))
noncomputable def Uc (fu:Nat):TwF:=zK 4 3 (XG fu)
theorem zfp (T:Tx K mg):zZ P w K mg base (CXE P w) 25 T.cD.a T.cD.fd ["_law_script","_law_boxes_here","_law_nested","_law_stop"] (sTw K 4 (Uc fu)):=
 T.cD.F.okE Ym (λvs H Q E h=>h.1) (λaH A outer s H vs Q E hr h=>⟨_,((Ym^^^(4,rm rfl,@yR _ _ _ _ zb))<|>(Ym^^^(5,rm rfl,zc))<|>Ya PassesOwn.leaving (zN (zc1 (pv 5) (pv 3))) (XJ (T.b4\(zei (fu:=fu) T 20,hr.mono ∅,zj,pv 0\(pv 5\(pv 1\(pv 2\(pv 3\zb)))))) (ZE (K:=K) (n:=2) rfl (yF (zL (i:=6) Ym.nd rfl (rm rfl)) (yF (zL (i:=5) Ym.nd rfl (rm rfl)) ZB)))<|>¬yM (xW rH rN rO yH (pv 4) (pv 6\zb)))<|>¬(!pv 4)),zV (n:=4) (k:=3) (b:=XG fu) rfl (by unfold XG;walk_at "re") h⟩)
noncomputable def ZU (fu:Nat):TwS:=(zk (sIf (bE (eOp (yk false) (eOp zM (za 0) (eC (.int 0))) (eC (.str "if")))) (zG (wv [(eOp zM (za 0) (eC (.int 2))),(eOp zM (za 0) (eC (.int 3)))])) zx) (zk (sIf (bOr (bE (eOp (yk false) (eOp zM (za 0) (eC (.int 0))) (eC (.str "while")))) (bE (eOp (yk false) (eOp zM (za 0) (eC (.int 0))) (eC (.str "times"))))) (zG (wv [(eOp zM (za 0) (eC (.int 2)))])) zx) (zk (sIf (bE (eOp (yk false) (eOp zM (za 0) (eC (.int 0))) (eC (.str "hand")))) (zG (eFn zhi [(eOp zM (za 0) (eC (.int 1)))])) zx) (zG (wv [])))))
noncomputable def ZV (fu:Nat):TwF:=zK 1 0 (ZU fu)
theorem zcT (T:Tx K mg):zZ P w K mg base (CXE P w) 1 T.bY.a T.bY.fd ["_law_deed_here"] (sTw K 1 (ZV fu)):=
 T.bY.F.okE zcG (λvs H Q E h=>h.1) (λaH A outer s H vs Q E hr h=>⟨_,(zD (zJ yG (zt (K:=K)%(pv 0,zc)) zg (by rfl)) (¬(!@yR _ _ _ _ ((zt (K:=K)%(pv 0,zc))\((zt (K:=K)%(pv 0,zc))\zb)))) zr<|>zD (PW.pt (Wj (zJ yG (zt (K:=K)%(pv 0,zc)) zg (by rfl)) (Zp (zJ yG (zt (K:=K)%(pv 0,zc)) zg (by rfl))))) (¬(!@yR _ _ _ _ ((zt (K:=K)%(pv 0,zc))\zb))) zr<|>zD (zJ yG (zt (K:=K)%(pv 0,zc)) zg (by rfl)) (¬(!yi (zf5 (K:=K)) rfl T.gP boot_list ((zt (K:=K)%(pv 0,zc))\zb))) zr<|>¬(!@yR _ _ _ _ zb)),zV (n:=1) (k:=0) (b:=ZU fu) rfl (by unfold ZU;walk_at "re") h⟩)
noncomputable def Zg (fu:Nat):TwS:=(zk (zF (eC (.int 0)) (gN 1)) (zk (zF (wv [(yn [(za 0),(eC (.int 1))])]) (gN 2)) (zk (sWh fu (bE (eOp dGt (eFn ww [(za 2)]) (eC (.int 0)))) (zk (zF (eMt zih (za 2) []) (gT 2 (yA (gN 3) (yA (gN 4) Yg)))) (Wp (iA (za 3)) (gN 5) (zk (zF (eOp xj (za 1) (za 4)) (gN 1)) (zk (zF (za 4) (gN 6)) (zk (sIf (bE (eOp (yk false) (eOp zM (za 5) (eC (.int 0))) (eC (.str "times")))) (zk (zF (eOp Wq (za 4) (eFn zgl [(eC (.int 1)),(eOp zM (za 5) (eC (.int 1)))])) (gN 6)) (zF (eOp xj (za 1) (za 6)) (gN 1))) zx) (Wp (iL (ze (ZV fu) [(za 5)])) (gN 7) (yJ (eMt yg (za 2) [(yn [(za 7),(za 6)])]))))))))) (zG (za 1)))))
noncomputable def xr (fu:Nat):TwF:=zK 1 7 (Zg fu)
theorem Ud (T:Tx K mg):zZ P w K mg base (CXE P w) 2 T.b9.a T.b9.fd ["_law_block_here"] (sTw K 1 (xr fu)):=
 T.b9.F.okE yv (λvs H Q E h=>h.1) (λaH A outer s H vs Q E hr h=>⟨_,((yv^^^(1,rm rfl,zc))<|>(yv^^^(2,rm rfl,@yR _ _ _ _ ((~~~(pv 0\(zc\zb)))\zb)))<|>Ya PassesOwn.leaving (zN (Zm (zA (zU (K:=K)) rfl T.aJ boot_len (pv 2\zb)) zc)) (XJ (znb rH PySem.F.slot_list_pop PySem.F.type_list_pop znc (pv 2)) (ZE (K:=K) (n:=2) rfl (yF (zL (i:=3) yv.nd rfl (rm rfl)) (yF (zL (i:=4) yv.nd rfl (rm rfl)) ZB)))<|>¬Zr PassesOwn.leaving rfl (zhv (K:=K) (pv 3)) (zL (i:=5) yv.nd rfl (rm rfl)) ((yv^^^(1,rm rfl,zE yu (pv 1) (pv 4)))<|>(yv^^^(6,rm rfl,pv 4))<|>zD (zJ yG (zt (K:=K)%(pv 5,zc)) zg (by rfl)) ((yv^^^(6,rm rfl,zE WG (pv 4) (zA (zc4 rfl) rfl T.fY boot_max (zc\((zt (K:=K)%(pv 5,zc))\zb)))))<|>¬(yv^^^(1,rm rfl,zE yu (pv 1) (pv 6)))) zr<|>¬Zr PassesOwn.leaving rfl (VD (K:=K) (T.bY\(zcT (fu:=fu) T,hr.mono ∅,zj,pv 5\zb))) (zL (i:=7) yv.nd rfl (rm rfl)) (¬yM (xW rH rN rO yH (pv 2) ((~~~(pv 7\(pv 6\zb)))\zb)))))<|>¬(!pv 1)),zV (n:=1) (k:=7) (b:=Zg fu) rfl (by unfold Zg;walk_at "re") h⟩)
noncomputable def ZW (fu:Nat):TwS:=(zG (zbW UC (eC (.str " ")) [(xQ [none] (iT (za 0)) (gN 0) xR (eFn zaE [(za 0)]))]))
noncomputable def yO (fu:Nat):TwF:=zK 1 0 (ZW fu)
theorem ZX (T:Tx K mg):zZ P w K mg base (CXE P w) 1 T.aS.a T.aS.fd ["_law_some"] (sTw K 1 (yO fu)):=
 T.aS.F.okE zcH (λvs H Q E h=>h.1) (λaH A outer s H vs Q E hr h=>⟨_,(¬(!xW t4 tQ tR TC zg (yW (wC (N':=["_law_one"]) rfl (blk (osc:=zf YF) rfl (by decide+kernel)) (xt xD) (xP (K:=K) (pv 0)) (yy rfl) (λC s₀ H₀ fp=>zL (i:=0) (show (["_law_one"]:List Str).Nodup from by decide+kernel) rfl (rm rfl)) (λC s₀ H₀ fp=>xC) (λC s₀ H₀ fp=>(yi Wu rfl T.eK PyProof.Rows.Boot.«str» (pv 0\zb)))) zb))),zV (n:=1) (k:=0) (b:=ZW fu) rfl (by unfold ZW;walk_at "re") h⟩)
noncomputable def Zh (fu:Nat) (bb:TwF) (cB:TwF):TwS:=(zk (zF (wv []) (gN 1)) (zk (Wp (iA (za 0)) (gN 2) (sIf (bE (eOp (yk false) (eOp zM (za 2) (eC (.int 0))) (eC (.str "pass")))) (yJ (eMt yg (za 1) [(eC (.str "pass"))])) (sIf (bE (eOp (yk false) (eOp zM (za 2) (eC (.int 0))) (eC (.str "gain")))) (yJ (eMt yg (za 1) [(eOp xf (eC (.str "gain ")) (eFn zaE [(eOp zM (za 2) (eC (.int 1)))]))])) (sIf (bOr (bE (eOp (yk false) (eOp zM (za 2) (eC (.int 0))) (eC (.str "set")))) (bE (eOp (yk false) (eOp zM (za 2) (eC (.int 0))) (eC (.str "draw"))))) (yJ (eMt yg (za 1) [(eOp xf (eOp xf (eOp xf (eOp xf (eOp zM (za 2) (eC (.int 0))) (eC (.str " "))) (eOp zM (za 2) (eC (.int 1)))) (eC (.str " "))) (ze (yO fu) [(eOp zM (za 2) (eC (.int 2)))]))])) (sIf (bE (eOp (yk false) (eOp zM (za 2) (eC (.int 0))) (eC (.str "look")))) (yJ (eMt yg (za 1) [(eOp xf (eC (.str "look ")) (ze (yO fu) [(eOp zM (za 2) (eC (.int 1)))]))])) (zF (eOp wS (za 1) (ze cB [(za 2)])) (gN 1))))))) (zG (za 1))))
noncomputable def xh (fu:Nat) (bb:TwF) (cB:TwF):TwS:=(zk (sIf (bE (eOp (yk false) (eOp zM (za 0) (eC (.int 0))) (eC (.str "if")))) (zk (zF (eOp wS (wv [(eOp xf (eC (.str "if ")) (ze (yO fu) [(eOp zM (za 0) (eC (.int 1)))]))]) (ze bb [(eOp zM (za 0) (eC (.int 2)))])) (gN 1)) (zF (eOp wS (eOp wS (za 1) (wv [(eC (.str "else"))])) (ze bb [(eOp zM (za 0) (eC (.int 3)))])) (gN 1))) (sIf (bE (eOp (yk false) (eOp zM (za 0) (eC (.int 0))) (eC (.str "while")))) (zF (eOp wS (wv [(eOp xf (eC (.str "while ")) (ze (yO fu) [(eOp zM (za 0) (eC (.int 1)))]))]) (ze bb [(eOp zM (za 0) (eC (.int 2)))])) (gN 1)) (sIf (bE (eOp (yk false) (eOp zM (za 0) (eC (.int 0))) (eC (.str "times")))) (zF (eOp wS (wv [(eOp xf (eC (.str "times ")) (eFn zaE [(eOp zM (za 0) (eC (.int 1)))]))]) (ze bb [(eOp zM (za 0) (eC (.int 2)))])) (gN 1)) (zk (zF (eOp wS (wv [(eC (.str "hand"))]) (ze bb [(eOp zM (eOp zM (za 0) (eC (.int 1))) (eC (.int 0)))])) (gN 1)) (Wp (iT (eSl zgf (eOp zM (za 0) (eC (.int 1))) (Yf (eC (.int 1))) oNo)) (gN 2) (zF (eOp wS (eOp wS (za 1) (wv [(eC (.str "or"))])) (ze bb [(za 2)])) (gN 1))))))) (zG (eOp wS (za 1) (wv [(eC (.str "end"))]))))
mutual
noncomputable def yh (fu:Nat):Nat->TwF
 |0=>λ_ _=>none
 |n+1=>zK 1 2 (Zh fu (yh fu n) (zI fu n))
noncomputable def zI (fu:Nat):Nat->TwF
 |0=>λ_ _=>none
 |n+1=>zK 1 2 (xh fu (yh fu n) (zI fu n))
end
theorem XH (fu n:Nat):yh fu (n+1)=zK 1 2 (Zh fu (yh fu n) (zI fu n)):=by rw[yh]
theorem TY (fu:Nat):yh fu 0=λ_ _=>none:=by rw[yh]
theorem wX (fu n:Nat):zI fu (n+1)=zK 1 2 (xh fu (yh fu n) (zI fu n)):=by rw[zI]
theorem Wi (fu:Nat):zI fu 0=λ_ _=>none:=by rw[zI]
theorem zcU (T:Tx K mg):∀n:Nat,zZ P w K mg base (CXE P w) (1+n) T.av.a T.av.fd ["_law_block_here"] (sTw K 1 (yh fu n))/\zZ P w K mg base (CXE P w) (1+n) T.aN.a T.aN.fd ["_law_deed_here"] (sTw K 1 (zI fu n)):=by
 intro n
 induction n with
 |zero=>
  refine⟨?_,?_⟩
  .rw[TY];exact xG
  .rw[Wi];exact xG
 |succ n ih=>
  refine⟨?_,?_⟩
  .rw[XH];exact T.av.F.okE YG (λvs H Q E h=>h.1) (λaH A outer s H vs Q E hr h=>⟨_,((YG^^^(1,rm rfl,@yR _ _ _ _ zb))<|>Zr PassesOwn.leaving rfl (zhv (K:=K) (pv 0)) (zL (i:=2) YG.nd rfl (rm rfl)) (¬zD (zJ yG (zt (K:=K)%(pv 2,zc)) zg (by rfl)) (¬yM (xW rH rN rO yH (pv 1) (zg\zb))) (¬zD (zJ yG (zt (K:=K)%(pv 2,zc)) zg (by rfl)) (¬yM (xW rH rN rO yH (pv 1) (zE yQ zg (yi Wu rfl T.eK PyProof.Rows.Boot.«str» ((zt (K:=K)%(pv 2,zc))\zb))\zb))) (¬zD (PW.pt (Wj (zJ yG (zt (K:=K)%(pv 2,zc)) zg (by rfl)) (Zp (zJ yG (zt (K:=K)%(pv 2,zc)) zg (by rfl))))) (¬yM (xW rH rN rO yH (pv 1) (zE yQ (zE yQ (zE yQ (zE yQ (zt (K:=K)%(pv 2,zc)) zg) (zt (K:=K)%(pv 2,zc))) zg) (T.aS\(ZX (fu:=fu) T,hr.mono (by walk_at "q2"),zj,(zt (K:=K)%(pv 2,zc))\zb))\zb))) (¬zD (zJ yG (zt (K:=K)%(pv 2,zc)) zg (by rfl)) (¬yM (xW rH rN rO yH (pv 1) (zE yQ zg (T.aS\(ZX (fu:=fu) T,hr.mono (by walk_at "q2"),zj,(zt (K:=K)%(pv 2,zc))\zb))\zb))) (¬(YG^^^(1,rm rfl,zE (vc (K:=K)) (pv 1) (T.aN\(ih.2,hr.mono (by walk_at "q2"),zj,pv 2\zb)))))))))<|>¬(!pv 1)),zV (n:=1) (k:=2) (b:=Zh fu (yh fu n) (zI fu n)) rfl (by unfold Zh;walk_at "re") h⟩)
  .rw[wX];exact T.aN.F.okE yq (λvs H Q E h=>h.1) (λaH A outer s H vs Q E hr h=>⟨_,(zD (zJ yG (zt (K:=K)%(pv 0,zc)) zg (by rfl)) ((yq^^^(1,rm rfl,zE (vc (K:=K)) (@yR _ _ _ _ (zE yQ zg (T.aS\(ZX (fu:=fu) T,hr.mono (by walk_at "q2"),zj,(zt (K:=K)%(pv 0,zc))\zb))\zb)) (T.av\(ih.1,hr.mono (by walk_at "q2"),zj,(zt (K:=K)%(pv 0,zc))\zb))))<|>¬(yq^^^(1,rm rfl,zE (vc (K:=K)) (zE (vc (K:=K)) (pv 1) (@yR _ _ _ _ (zg\zb))) (T.av\(ih.1,hr.mono (by walk_at "q2"),zj,(zt (K:=K)%(pv 0,zc))\zb))))) (¬zD (zJ yG (zt (K:=K)%(pv 0,zc)) zg (by rfl)) (¬(yq^^^(1,rm rfl,zE (vc (K:=K)) (@yR _ _ _ _ (zE yQ zg (T.aS\(ZX (fu:=fu) T,hr.mono (by walk_at "q2"),zj,(zt (K:=K)%(pv 0,zc))\zb))\zb)) (T.av\(ih.1,hr.mono (by walk_at "q2"),zj,(zt (K:=K)%(pv 0,zc))\zb))))) (¬zD (zJ yG (zt (K:=K)%(pv 0,zc)) zg (by rfl)) (¬(yq^^^(1,rm rfl,zE (vc (K:=K)) (@yR _ _ _ _ (zE yQ zg (yi Wu rfl T.eK PyProof.Rows.Boot.«str» ((zt (K:=K)%(pv 0,zc))\zb))\zb)) (T.av\(ih.1,hr.mono (by walk_at "q2"),zj,(zt (K:=K)%(pv 0,zc))\zb))))) ((yq^^^(1,rm rfl,zE (vc (K:=K)) (@yR _ _ _ _ (zg\zb)) (T.av\(ih.1,hr.mono (by walk_at "q2"),zj,(zt (K:=K)%(zt (K:=K)%(pv 0,zc),zc))\zb))))<|>¬Zr PassesOwn.leaving rfl (xP (K:=K) (wR (zle (K:=K)) (zt (K:=K)%(pv 0,zc)) (ZD zc) ZC)) (zL (i:=2) yq.nd rfl (rm rfl)) (¬(yq^^^(1,rm rfl,zE (vc (K:=K)) (zE (vc (K:=K)) (pv 1) (@yR _ _ _ _ (zg\zb))) (T.av\(ih.1,hr.mono (by walk_at "q2"),zj,pv 2\zb))))))))<|>¬(!zE (vc (K:=K)) (pv 1) (@yR _ _ _ _ (zg\zb)))),zV (n:=1) (k:=2) (b:=xh fu (yh fu n) (zI fu n)) rfl (by unfold xh;walk_at "re") h⟩)
theorem zej (T:Tx K mg) (n:Nat):zZ P w K mg base (CXE P w) (1+n) T.av.a T.av.fd ["_law_block_here"] (sTw K 1 (yh fu n)):=(zcU T n).1
noncomputable def wK (fu:Nat):TwS:=(zk (zF (xQ [none] (iT (za 0)) (gN 0) xR (eOp xf (eOp xf (eOp xf (eC (.str "box ")) (eOp zM (za 0) (eC (.int 0)))) (eC (.str " "))) (eFn zaE [(eOp zM (za 0) (eC (.int 1)))]))) (gN 2)) (zG (eOp wS (za 2) (ze (yh fu 40) [(za 1)]))))
noncomputable def wL (fu:Nat):TwF:=zK 2 1 (wK fu)
theorem Wx (T:Tx K mg):zZ P w K mg base (CXE P w) 42 T.aO.a T.aO.fd ["_law_boxes_here","_law_block_here"] (sTw K 2 (wL fu)):=
 T.aO.F.okE Wv (λvs H Q E h=>h.1) (λaH A outer s H vs Q E hr h=>⟨_,(WE (i:=2) (N':=["_law_one"]) rfl (blk (osc:=zf vf) rfl (by decide+kernel)) (xt xD) (xP (K:=K) (pv 0)) (yy rfl) (λC s₀ H₀ fp=>zL (i:=0) (show (["_law_one"]:List Str).Nodup from by decide+kernel) rfl (rm rfl)) (λC s₀ H₀ fp=>xC) (λC s₀ H₀ fp=>(zE yQ (zE yQ (zE yQ zg (zt (K:=K)%(pv 0,zc))) zg) (yi Wu rfl T.eK PyProof.Rows.Boot.«str» ((zt (K:=K)%(pv 0,zc))\zb)))) Wv.nd rfl rfl<|>¬(!zE (vc (K:=K)) (pv 2) (T.av\(zej (fu:=fu) T 40,hr.mono ∅,zj,pv 1\zb)))),zV (n:=2) (k:=1) (b:=wK fu) rfl (by unfold wK;walk_at "re") h⟩)
noncomputable def ZY (fu:Nat):TwS:=(zG (eFn zaV [(zbW UC (eC (.str "\n")) [(ze (wL fu) [(za 0),(za 1)])])]))
noncomputable def wY (fu:Nat):TwF:=zK 2 0 (ZY fu)
theorem zcV (T:Tx K mg):zZ P w K mg base (CXE P w) 43 T.bW.a T.bW.fd ["_law_boxes_here","_law_block_here"] (sTw K 2 (wY fu)):=
 T.bW.F.okE zcI (λvs H Q E h=>h.1) (λaH A outer s H vs Q E hr h=>⟨_,(¬(!zA YA rfl T.aJ boot_len (xW t4 tQ tR TC zg ((T.aO\(Wx (fu:=fu) T,hr.mono ∅,zj,pv 0\(pv 1\zb)))\zb)\zb))),zV (n:=2) (k:=0) (b:=ZY fu) rfl (by unfold ZY;walk_at "re") h⟩)
noncomputable def vq (fu:Nat):TwS:=(zk (Wp (iR1 (eOp xj (eC (.int 1)) (ze (zp fu) [(za 0),(eC (.int 8)),(eC (.int 10253)),(eC (.int 8))]))) (gN 2) (zk (zF (ze (zp fu) [(za 0),(eOp xj (eC (.int 40)) (za 2)),(eC (.int 10259)),(eC (.int 5))]) (gN 3)) (sIf (bE (eOp wQ (za 3) (eC (.int 0)))) (zF (wv [(yn [(eC (.str "if")),(yn [(za 2),(eC (.str "<")),(eC (.int 999999999))]),(eFn wb [(za 1)]),(yn [(yn [(eC (.str "pass"))])])])]) (gN 1)) (sIf (bE (eOp wQ (za 3) (eC (.int 1)))) (zF (wv [(yn [(eC (.str "if")),(yn [(eC (.int 0)),(eC (.str "#")),(za 2)]),(yn []),(eFn wb [(za 1)])]),(yn [(eC (.str "pass"))])]) (gN 1)) (sIf (bE (eOp wQ (za 3) (eC (.int 2)))) (zF (wv [(yn [(eC (.str "pass"))]),(yn [(eC (.str "while")),(yn [(za 2),(eC (.str "=")),(eC (.int 0))]),(eFn wb [(za 1)])])]) (gN 1)) (sIf (bE (eOp wQ (za 3) (eC (.int 3)))) (zF (wv [(yn [(eC (.str "times")),(eOp zaw (za 2) (eC (.int 2))),(eFn wb [(za 1)])])]) (gN 1)) (zF (wv [(yn [(eC (.str "hand")),(yn [(yn []),(eFn wb [(za 1)]),(yn [])])])]) (gN 1)))))))) (zG (za 1)))
noncomputable def Yv (fu:Nat):TwF:=zK 2 2 (vq fu)
theorem za9 (T:Tx K mg):zZ P w K mg base (CXE P w) 2 T.bp.a T.bp.fd ["_law_script","_law_block_here"] (sTw K 2 (Yv fu)):=
 T.bp.F.okE yS (λvs H Q E h=>h.1) (λaH A outer s H vs Q E hr h=>⟨_,(Zr PassesOwn.leaving rfl (Wk rfl T.dE (zE yu zc (T.ae\(zu (fu:=fu) T,hr.mono ∅,zj,pv 0\(zc\(zc\(zc\zb)))))\zb)) (zL (i:=2) yS.nd rfl (rm rfl)) ((yS^^^(3,rm rfl,T.ae\(zu (fu:=fu) T,hr.mono ∅,zj,pv 0\(zE yu zc (pv 2)\(zc\(zc\zb))))))<|>¬zD (zN (yT (pv 3) zc)) (¬(yS^^^(1,rm rfl,@yR _ _ _ _ ((~~~(zg\((~~~(pv 2\(zg\(zc\zb))))\(yi (yx (K:=K)) rfl T.b5 boot_tuple (pv 1\zb)\((~~~((~~~(zg\zb))\zb))\zb)))))\zb)))) (¬zD (zN (yT (pv 3) zc)) (¬(yS^^^(1,rm rfl,@yR _ _ _ _ ((~~~(zg\((~~~(zc\(zg\(pv 2\zb))))\((~~~zb)\(yi (yx (K:=K)) rfl T.b5 boot_tuple (pv 1\zb)\zb)))))\((~~~(zg\zb))\zb))))) (¬zD (zN (yT (pv 3) zc)) (¬(yS^^^(1,rm rfl,@yR _ _ _ _ ((~~~(zg\zb))\((~~~(zg\((~~~(pv 2\(zg\(zc\zb))))\(yi (yx (K:=K)) rfl T.b5 boot_tuple (pv 1\zb)\zb))))\zb))))) (¬zD (zN (yT (pv 3) zc)) (¬(yS^^^(1,rm rfl,@yR _ _ _ _ ((~~~(zg\(zE WC (pv 2) zc\(yi (yx (K:=K)) rfl T.b5 boot_tuple (pv 1\zb)\zb))))\zb)))) (¬(yS^^^(1,rm rfl,@yR _ _ _ _ ((~~~(zg\((~~~((~~~zb)\(yi (yx (K:=K)) rfl T.b5 boot_tuple (pv 1\zb)\((~~~zb)\zb))))\zb)))\zb))))))))<|>¬(!pv 1)),zV (n:=2) (k:=2) (b:=vq fu) rfl (by unfold vq;walk_at "re") h⟩)
noncomputable def zek (fu:Nat):TwS:=(zk (zF (ze (Wh fu) [(za 0),(ze (zp fu) [(za 0),(eC (.int 7)),(eC (.int 10093)),(eC (.int 10))]),(eC (.int 1000))]) (gN 1)) (zk (zF (ze (Uc fu) [(za 0),(za 1),(eC (.int 4)),(eFn zns [(eC (.int 63)),(eFn ww [(za 0)])])]) (gN 2)) (zk (sWh fu (bOr (bE (eOp dGt (ze (xr fu) [(za 2)]) (eC (.int 80)))) (bE (eOp dGt (ze (wY fu) [(za 1),(za 2)]) (eC (.int 3000))))) (zF (eSl Wo (za 2) oNo (Yf (eUn zbK (eC (.int 1))))) (gN 2))) (zk (sIf (bE (eOp wQ (ze (zp fu) [(za 0),(eC (.int 9)),(eC (.int 10267)),(eC (.int 3))]) (eC (.int 0)))) (zF (ze (Yv fu) [(za 0),(za 2)]) (gN 2)) zx) (zk (sWh fu (bE (eOp dGt (ze (xr fu) [(za 2)]) (eC (.int 100)))) (zF (eSl Wo (za 2) oNo (Yf (eUn zbK (eC (.int 1))))) (gN 2))) (zk (zF (yn [(za 1),(eFn wb [(za 2)])]) (gN 3)) (zk (zF (zbW UC (eC (.str "\n")) [(ze (wL fu) [(za 1),(za 2)])]) (gN 4)) (zk (zF (ze (TQ fu) [(za 3)]) (gN 5)) (zk (sIf (bOr (XQ (bE (eUn (ze2 "str") (za 5)))) (bE (eOp (yk true) (za 5) (za 4)))) (zG (eC (.bl false))) zx) (zk (zF (ze (zeg fu) [(za 4)]) (gN 6)) (zG (zge (eOp (yk false) (eFn UR [(za 6)]) (eFn UR [(za 3)])) (eOp (yk false) (ze (TQ fu) [(za 6)]) (za 4))))))))))))))
noncomputable def zgx (fu:Nat):TwF:=zK 1 6 (zek fu)
theorem zlP (T:Tx K mg):zZ P w K mg base (CXE P w) 69 T.eN.a T.eN.fd ["_law_script"] (sTw K 1 (zgx fu)):=
 T.eN.F.okE Wa (λvs H Q E h=>h.1) (λaH A outer s H vs Q E hr h=>⟨_,((Wa^^^(1,rm rfl,T.bZ\(zcQ (fu:=fu) T,hr.mono ∅,zj,pv 0\((T.ae\(zu (fu:=fu) T,hr.mono ∅,zj,pv 0\(zc\(zc\(zc\zb)))))\(zc\zb)))))<|>(Wa^^^(2,rm rfl,T.cD\(zfp (fu:=fu) T,hr.mono ∅,zj,pv 0\(pv 1\(zc\(zA (zhY rfl) rfl T.iQ boot_min (zc\(zA (zU (K:=K)) rfl T.aJ boot_len (pv 0\zb)\zb))\zb))))))<|>Ya PassesOwn.leaving (PW.pt (Wj (zN (Zm (T.b9\(Ud (fu:=fu) T,hr.mono ∅,zj,pv 2\zb)) zc)) (Zp (zN (Zm (T.bW\(zcV (fu:=fu) T,hr.mono ∅,zj,pv 1\(pv 2\zb))) zc))))) (¬(Wa^^^(2,rm rfl,wR (Yd (K:=K)) (pv 2) ZC (ZD (ziU zfR zc)))))<|>zD (zN (yT (T.ae\(zu (fu:=fu) T,hr.mono ∅,zj,pv 0\(zc\(zc\(zc\zb))))) zc)) (¬(Wa^^^(2,rm rfl,T.bp\(za9 (fu:=fu) T,hr.mono ∅,zj,pv 0\(pv 2\zb))))) zr<|>Ya PassesOwn.leaving (zN (Zm (T.b9\(Ud (fu:=fu) T,hr.mono ∅,zj,pv 2\zb)) zc)) (¬(Wa^^^(2,rm rfl,wR (Yd (K:=K)) (pv 2) ZC (ZD (ziU zfR zc)))))<|>(Wa^^^(3,rm rfl,~~~(pv 1\(yi (yx (K:=K)) rfl T.b5 boot_tuple (pv 2\zb)\zb))))<|>(Wa^^^(4,rm rfl,xW t4 tQ tR TC zg ((T.aO\(Wx (fu:=fu) T,hr.mono ∅,zj,pv 1\(pv 2\zb)))\zb)))<|>(Wa^^^(5,rm rfl,T.dF\(zfo (fu:=fu) T,hr.mono ∅,zj,pv 3\zb)))<|>zD (PW.pt (Wj (vG (vt (zA (Uh (K:=K)) rfl T.bN boot_isinstance (yW (pv 5) (yW (zba (v:= .ty "str") rfl T.eK boot_str rfl) zb))))) (Zp (zJ ziX (pv 5) (pv 4) (by rfl))))) (¬(!Vn)) zr<|>(Wa^^^(6,rm rfl,T.fk\(zlO (fu:=fu) T,hr.mono ∅,zj,pv 4\zb)))<|>¬(!zbo (Td yG (zA (zbY (K:=K) hr) rfl T.gn boot_repr (pv 6\zb)) (zA (zbY (K:=K) hr) rfl T.gn boot_repr (pv 3\zb)) (by rfl)) (zam (Td yG (T.dF\(zfo (fu:=fu) T,hr.mono ∅,zj,pv 6\zb)) (pv 4) (by rfl))))),zV (n:=1) (k:=6) (b:=zek fu) rfl (by unfold zek;walk_at "re") h⟩)
end
section
open Mth
def Big (fu:Nat):Prop:=2^9000<=fu
theorem Big.le {fu:Nat} (h:Big fu):1000000<=fu:=si (show 1000000<=2^20 by decide) (si (sJ ∅ ∅) h)
local macro_rules | `(tactic| walk_at "w1") => `(tactic| first
 | with_reducible apply zpU | ((with_reducible apply znw); exact rfl) | with_reducible apply znz | with_reducible apply znC | with_reducible apply zq | with_reducible apply zlt
 | with_reducible apply zh | ((with_reducible apply zbN); try dsimp only[sM]) | with_reducible apply zls | with_reducible apply YZ | with_reducible apply lF
 | with_reducible apply zpb | with_reducible apply zpc | with_reducible apply Zn | with_reducible apply zpd | with_reducible apply Zv
 | with_reducible apply zlp | with_reducible apply znA | with_reducible apply znB | with_reducible apply zpe | with_reducible apply zlq
 | with_reducible apply zjL | with_reducible apply zpf | with_reducible apply jN
 | with_reducible apply znD | with_reducible apply znE | with_reducible apply znF | with_reducible apply zpg | with_reducible apply zph | with_reducible apply zpi | with_reducible apply nh | with_reducible apply znG | with_reducible apply znH
 | with_reducible apply znK | with_reducible apply znL | with_reducible apply znM | with_reducible apply znN
 | ((with_reducible apply znJ); exact⟨∅, by decide, by decide⟩)
 | ((with_reducible apply znI); first | exact .inl ∅ | exact .inr ∅)
 | with_reducible refine Exists.intro _ (And.intro rfl ?_))
local macro_rules | `(tactic| walk_at "w") => `(tactic| repeat walk_at "w1")
local macro_rules|`(tactic|ext)=>`(tactic|walk_at "w")
local macro_rules | `(tactic| walk_at "wr") => `(tactic| (refine VF rfl rfl ?_; dsimp only [List.map, HAppend.hAppend, Append.append, List.append, List.replicate]))
section
variable {fu:Nat} {S S' S2:Sto} {x y:Xv}
theorem yd {c:Prop} [Decidable c] {A B:Prop} (h:c->A) (g:¬c->B):(decide c=true->A)/\(decide c=false->B):=⟨λe=>h (of_decide_eq_true e),λe=>g (of_decide_eq_false e)⟩
def Kp (w:Nat->Prop) (S S':Sto):Prop:=S.length<=S'.length/\∀(n:Nat) c,S[n]? =some c->¬w n->S'[n]? =some c
theorem Kp.refl (w:Nat->Prop):Kp w S S:=⟨rj _,λ_ _ e _=>e⟩
theorem Kp.trans {w:Nat->Prop} (a:Kp w S S') (b:Kp w S' S2):Kp w S S2:=⟨si a.1 b.1,λn c e z=>b.2 n c (a.2 n c e z) z⟩
theorem Kp.mono {w w':Nat->Prop} (a:Kp w S S') (h:∀n,w n->w' n):Kp w' S S':=⟨a.1,λn c e z=>a.2 n c e λq=>z (h n q)⟩
theorem Kp.pre {w:Nat->Prop} (p:S<+:S'):Kp w S S':=⟨p.length_le,λn c e _=>by
 obtain⟨T,rfl⟩:=p;rw[rB (rg.1 e).1]
 exact e⟩
theorem Kp.app {w:Nat->Prop} {T:Sto} (a:Kp w S S'):Kp w S (S'++T):=a.trans (Kp.pre (List.prefix_append _ _))
theorem Kp.set {w:Nat->Prop} {n:Nat} {c:Ce} (a:Kp w S S') (h:w n\/S.length<=n):Kp w S (S'.set n c):=⟨by simpa using a.1,λm d e z=>by
 rw[tG];have hm:=(rg.1 e).1
 rw[if_neg λq=>by
  subst q;rcases h with h|h
  .exact z h
  .omega]
 exact a.2 m d e z⟩
theorem zQ {c:Ce}:(S++[c])[S.length]? =some c:=by simp
theorem xa {n:Nat} {c c':Ce} (h:S[n]? =some c):(S.set n c')[n]? =some c':=by rw[tG,if_pos rfl,if_pos (rg.1 h).1]
theorem zgy {n m:Nat} {c c':Ce} (h:S[m]? =some c) (q:n≠m):(S.set n c')[m]? =some c:=by rw[tG,if_neg q];exact h
theorem zaY {n:Nat} (h:n<=100):n<sizeLine:=sx h ∅
noncomputable abbrev Kn (S S':Sto):Prop:=Kp (λ_=>False) S S'
theorem Kn.at {n:Nat} {c:Ce} (k:Kn S S') (h:S[n]? =some c):S'[n]? =some c:=k.2 n c h (λz=>z)
theorem Kn.lst {n:Nat} {l:List Xv} (k:Kn S S') (h:zY S (.ref n)=some l):zY S' (.ref n)=some l:=by
 unfold zY at h ⊢;dsimp only at h ⊢;cases e:S[n]? with
 |none=>rw[e] at h;cases h
 |some c=>rw[e] at h;rw[k.at e];exact h
def Sc (ns:List Int) (S:Sto):Prop:=zY S (.ref 0)=some (ns.map Xv.int)
theorem Sc.keep {ns:List Int} (h:Sc ns S) (k:Kn S S'):Sc ns S':=Kn.lst k h
theorem zn2 {ns:List Int} {k p m:Int} (hs:Sc ns S) (hk:0<=k/\k<=1000) (hp:0<p) (hm:0<m):W (zp fu [.ref 0,.int k,.int p,.int m] S) λv S'=>∃c,v= .int c/\0<=c/\c<m/\c=(((if 0<ns.length then ns.getD (k % ns.length).toNat 0 else 0)+k*k)*48271+11) % p % m/\S=S':=by
 have hb:intBits k+intBits k<=134217728:=by
  have:intBits k<=10:=sO.mpr ⋯;omega
 walk_at "wr";unfold YQ;ext;refine xm (λρ S2=>ρ=[some (.ref 0),some (.int k),some (.int p),some (.int m),some (.int (if 0<ns.length then ns.getD (k % ns.length).toNat 0 else 0))]/\S2=S) (zo ?_) ?_
 .ext;refine xw hs ?_;ext;rw[rh];refine yd (λh=> ?_) (λh=> ?_)
  .have h:0<ns.length:=by omega
   ext;refine xw hs ?_;ext;rw[rh];refine WK ⋯ ?_;have h1:=sV k (show (ns.length:Int)≠0 by omega);have h2:=sW k (show (0:Int)<ns.length by omega);have h3:(k % (ns.length:Int)).toNat<ns.length:=by omega
   refine xx hs (Zx h1 (by rw[rq,r9 h3];rfl)) ?_;ext;refine⟨?_,rfl⟩;rw[if_pos h,rp,r9 h3];rfl
  .ext;refine⟨?_,rfl⟩;rw[if_neg ⋯]
 .rintro ρ S2 ⟨rfl,rfl⟩;ext;refine WL hb ?_;ext;refine WK hp ?_;ext;refine WK hm ?_;exact⟨_,rfl,sV _ ⋯,sW _ hm,rfl,rfl⟩
end
section
variable {fu:Nat} {S S' S2:Sto} {x y:Xv} {ns:List Int}
noncomputable def wA (ns:List Int) (k p m:Int):Int:=(((if 0<ns.length then ns.getD (k % ns.length).toNat 0 else 0)+k*k)*48271+11) % p % m
theorem xi {k p m:Int} (hs:Sc ns S) (hk:0<=k/\k<=1000) (hp:0<p) (hm:0<m):W (zp fu [.ref 0,.int k,.int p,.int m] S) λv S'=>v= .int (wA ns k p m)/\0<=wA ns k p m/\wA ns k p m<m/\S=S':=by
 refine (zn2 hs hk hp hm).imp ?_;rintro _ _ ⟨c,rfl,h1,h2,rfl,rfl⟩;exact⟨rfl,h1,h2,rfl⟩
theorem wM {P:Xv->Sto->Prop} {a b:Str} (h:a.length+b.length<=sizeLine) (k:P (.str (a++b)) S):WO (xf (.str a) (.str b) S) P:= .of (by unfold xf;exact if_pos h) k
theorem zn3 {P:Xv->Sto->Prop} {a:Str} {lo hi:Option Int} (h:a.length<=sizeLine) (k:P (.str (Txt.slice a lo hi)) S):WO (zeU (.str a) lo hi S) P:= .of (by unfold zeU;exact if_pos h) k
theorem yU {n:Nat} (h:n<=100):n<=sizeLine:=sD (zaY h)
theorem zn4 {v:Int} (h0:0<=v) (h1:v<26):zbE (.str "abcdefghijklmnopqrstuvwxyz") (.int v) S=some (.str ⟨#[97+v.toNat]⟩,S):=by
 have all:∀n:Fin 26,(Str.ofString "abcdefghijklmnopqrstuvwxyz").cps.toList[n.1]? =some (97+n.1):=by decide
 obtain⟨n,rfl⟩:∃n:Nat,v=n:=⟨v.toNat,⋯⟩;have e:=all ⟨n,⋯⟩;unfold zbE znj;dsimp only;rw[if_pos ∅,Zx ⋯ (by rw[sH];exact e)];rfl
def AZ (z:Str):Prop:=∀c∈z.cps.toList,97<=c/\c<=122
theorem zel (a b:Str):(a++b).cps.toList=a.cps.toList++b.cps.toList:=by
 show (a.cps++b.cps).toList=_;simp
theorem AZ.app {a b:Str} (h:AZ a) (g:AZ b):AZ (a++b):=λc hc=>by
 rw[zel,sA] at hc;exact hc.elim (h c) (g c)
theorem AZ.one {n:Nat} (h:n<26):AZ ⟨#[97+n]⟩:=λc hc=>by
 have:c=97+n:=by simpa using hc
 omega
theorem Zi (z:Str):z.cps.toList.length=z.length:=by simp[Str.length]
noncomputable def sg (z:Str) (n:Nat):Option Nat:=z.cps.toList[n]?
theorem zmB {a b:Str} {n:Nat} (h:n<a.length):sg (a++b) n=sg a n:=by
 unfold sg;rw[zel,rB (by rw[Zi];exact h)]
theorem zn5 {a:Str} {c:Nat}:sg (a++⟨#[c]⟩) a.length=some c:=by
 unfold sg;rw[zel,rL (by rw[Zi];exact rj _),Zi,tY];rfl
noncomputable def ltr (ns:List Int) (k:Int):Nat:=97+((k+wA ns 4 10069 26) % 26).toNat
structure Nm (ns:List Int) (k:Int) (a:Nat) (z:Str):Prop where
 le:z.length<=8
 lt:a<z.length
 az:AZ z
 at_:sg z a=some (ltr ns k)
theorem zn6 {k:Int} {a:Nat} (hs:Sc ns S) (hk:0<=k/\k<10) (ha:a<8):W (Vh fu [.ref 0,.int k,.int (a:Int)] S) λv S'=>∃z,v= .str z/\Nm ns k a z/\S=S':=by
 walk_at "wr";unfold YR;ext;refine xm (λρ S2=>∃n:Nat,ρ=[some (.ref 0),some (.int k),some (.int (a:Int)),some (.str "abcdefghijklmnopqrstuvwxyz"),some (.int (n:Int)),none,none,none]/\a<n/\n<=8/\S2=S) (zo ?_) ?_
 .ext;refine (xi hs ∅ ∅ ∅).imp ?_;rintro _ _ ⟨rfl,_,_,rfl⟩;ext;refine yd (λh=> ?_) (λh=> ?_)
  .ext;refine (xi hs ⟨⋯,⋯⟩ ∅ ⋯).imp ?_;rintro _ _ ⟨rfl,h0,h1,rfl⟩;ext;obtain⟨c,hc⟩:∃c:Nat,wA ns (20+k) 10037 (8-(a:Int))=c:=⟨(wA ns (20+k) 10037 (8-(a:Int))).toNat,⋯⟩;rw[hc] at h0 h1 ⊢;exact⟨a+1+c,by rw[show ((a+1+c:Nat):Int)=(a:Int)+1+c by omega],⋯,⋯,rfl⟩
  .ext;exact⟨sP a,ha,rfl⟩
 .rintro ρ S2 ⟨n,rfl,h1,h8,rfl⟩;ext;refine vw (zbP ?_);ext;refine⟨⟨⋯,⋯⟩,_,rfl,?_⟩;refine wG (λi ρ S3=>∃(z:Str) (a6 a7:Option Xv),ρ=[some (.ref 0),some (.int k),some (.int (a:Int)),some (.str "abcdefghijklmnopqrstuvwxyz"),some (.int (n:Int)),some (.str z),a6,a7]/\z.length=i/\AZ z/\(a<i->sg z a=some (ltr ns k))/\S3=S2) (λ_ _ _ _ _=>rfl) ?_ ?_ ?_
  .rintro i w ρ S3 hw ⟨z,a6,a7,rfl,hz,az,ai,rfl⟩;obtain⟨hi,rfl⟩:=Wt hw;rw[uA];refine .of rfl ?_;dsimp only[sM];have qO:(i:Int)<8:=by omega
   ext;refine WL (by have:intBits (i:Int)<=10:=sO.mpr ⋯;omega) ?_;ext;refine (xi hs ∅ ∅ ∅).imp ?_;rintro _ _ ⟨rfl,_,_,rfl⟩;ext;refine xm (λρ S4=>∃c:Int,ρ=[some (.ref 0),some (.int k),some (.int (a:Int)),some (.str "abcdefghijklmnopqrstuvwxyz"),some (.int (n:Int)),some (.str z),some (.int (i:Int)),some (.int c)]/\S4=S3) (zo ?_) ?_
   .ext;refine (xi hs ∅ ∅ ∅).imp ?_;rintro _ _ ⟨rfl,_,_,rfl⟩;ext;refine yd (λh=> ?_) (λh=> ?_)
    .ext;refine (xi hs ⟨⋯,⋯⟩ ∅ ∅).imp ?_;rintro _ _ ⟨rfl,_,_,rfl⟩;ext;exact rfl
    .ext;exact rfl
   .rintro ρ S4 ⟨c,rfl,rfl⟩;ext;refine xm (λρ S5=>∃c:Int,ρ=[some (.ref 0),some (.int k),some (.int (a:Int)),some (.str "abcdefghijklmnopqrstuvwxyz"),some (.int (n:Int)),some (.str z),some (.int (i:Int)),some (.int c)]/\(i=a->c=k+wA ns 4 10069 26)/\S5=S4) (zo ?_) ?_
    .ext;refine yd (λh=> ?_) (λh=> ?_)
     .ext;refine (xi hs ∅ ∅ ∅).imp ?_;rintro _ _ ⟨rfl,_,_,rfl⟩;ext;exact⟨λ_=>rfl,rfl⟩
     .ext;exact⟨λz=>absurd (by rw[z]) h,rfl⟩
    .rintro ρ S5 ⟨c2,rfl,gb,rfl⟩;ext;refine WK ∅ ?_;have e0:=sV c2 (show (26:Int)≠0 by decide);have e1:=sW c2 (show (0:Int)<26 by decide);refine WO.of (zn4 (S:=S5) e0 e1) ?_;have hc:(⟨#[97+(c2 % 26).toNat]⟩:Str).length=1:=rfl;refine wM (yU ⋯) ?_;ext;refine⟨_,_,_,rfl,by rw[Str.length_append];omega,az.app (AZ.one ⋯),λh=> ?_,rfl⟩;by_cases pT:a<i
     .rw[zmB ⋯];exact ai pT
     .obtain rfl:i=a:=by omega
      rw[gb rfl];have:=zn5 (a:=z) (c:=ltr ns k);rw[hz] at this;exact this
  .exact⟨_,none,none,rfl,rfl,(λc hc=>by cases hc),(λh=>by omega),rfl⟩
  .rintro ρ S3 ⟨z,a6,a7,rfl,hz,az,ai,rfl⟩;rw[Zw,sH] at hz ai;ext;exact⟨⟨⋯,⋯,az,ai h1⟩,rfl⟩
noncomputable def yK (b:Str×Int):Xv:= .tup [.str b.1,.int b.2]
noncomputable def wj:List (Str×Int)->Int
 |[]=>1
 |b::r=>b.2*wj r
theorem Xn (b:Str×Int):∀l:List (Str×Int),wj (l++[b])=wj l*b.2
 |[]=>by simp[wj]
 |c::r=>by
  show c.2*wj (r++[b])=c.2*wj r*b.2;rw[Xn b r,x8]
structure Nm1 (ns:List Int) (a:Nat) (z0 z:Str):Prop where
 le:z.length<=8
 pos:1<=z.length
 az:AZ z
 ne:z.length≠z0.length
 at_:a<z.length->sg z a=some (ltr ns 0)
def NmB (ns:List Int) (a:Nat) (bs:List (Str×Int)) (m:Nat) (z:Str):Prop:=Nm ns m a z\/(m=1/\∃b0,bs[0]? =some b0/\Nm1 ns a b0.1 z)
theorem zkg {i j:Nat} (hi:i<10) (hj:j<10) (h:ltr ns i=ltr ns j):i=j:=by
 unfold ltr at h;have h1:=sV ((i:Int)+wA ns 4 10069 26) (show (26:Int)≠0 by decide);have h2:=sV ((j:Int)+wA ns 4 10069 26) (show (26:Int)≠0 by decide);omega
theorem NmB.ok {a m:Nat} {bs:List (Str×Int)} {z:Str} (h:NmB ns a bs m z):1<=z.length/\z.length<=8/\AZ z:=by
 rcases h with h|⟨_,_,_,h⟩
 .exact⟨by have:=h.lt;omega,h.le,h.az⟩
 .exact⟨h.pos,h.le,h.az⟩
theorem zn7 {a:Nat} {bs:List (Str×Int)} (h:∀(m:Nat) b,bs[m]? =some b->NmB ns a bs m b.1) (hl:bs.length<=10) {i j:Nat} {b c:Str×Int} (hi:bs[i]? =some b) (hj:bs[j]? =some c) (gG:i<j):b.1≠c.1:=by
 have li:=(rg.1 hi).1;have lj:=(rg.1 hj).1;intro e;have nb:=h i b hi;have nc:=h j c hj;rw[e] at nb;rcases nc with nc|⟨rfl,b0,h0,nc⟩
 .rcases nb with nb|⟨rfl,b0,h0,nb⟩
  .have:=nb.at_.symm.trans nc.at_;have:=zkg ⋯ ⋯ (su this);omega
  .have:=(nb.at_ nc.lt).symm.trans nc.at_;have:=zkg (i:=0) (j:=j) ⋯ ⋯ (su this);omega
 .obtain rfl:i=0:=by omega
  rw[h0] at hi;cases hi;exact nc.ne (by rw[e])
structure Vs (most:Int) (bs:List (Str×Int)):Prop where
 len:bs.length<=10
 nm:∀b∈bs,1<=b.1.length/\b.1.length<=8/\AZ b.1
 sz:∀b∈bs,1<=b.2/\b.2<=9
 nd:(bs.map (·.1)).Nodup
 pr:wj bs<=most
 p0:1<=wj bs
theorem zbk {P:Xv->Sto->Prop} {u:Str} (h:u.length<=sizeLine) (k:P (.int u.length) S):WO (zaV [.str u] S) P:= .of (by unfold zaV;exact if_pos h) k
theorem TZ {p:Int} (h:0<=p) (h1:p<=100000):intBits p<=20:=sO.mpr ⋯
theorem xg {P:Xv->Sto->Prop} {n:Nat} {l:List Xv} (h:S[n]? =some (.lst l)) (k:P (.tup l) S):WO (wb [.ref n] S) P:= .of (by unfold wb;dsimp only;rw[zm h];rfl) k
theorem zlQ {cnt most:Int} (hs:Sc ns S) (hc:0<=cnt/\cnt<=10) (hm:1<=most/\most<=1000):W (Wh fu [.ref 0,.int cnt,.int most] S) λv S'=>∃bs,v= .tup (bs.map yK)/\Vs most bs/\(bs.length:Int)=cnt/\Kn S S':=by
 walk_at "wr";unfold ZS;ext;refine (xi hs ∅ ∅ ∅).imp ?_;rintro _ _ ⟨rfl,a0,a1,rfl⟩;obtain⟨a,ha⟩:∃a:Nat,wA ns 5 10079 8=a:=⟨(wA ns 5 10079 8).toNat,⋯⟩;rw[ha] at a0 a1 ⊢;ext;refine vw (zbP ?_);ext;refine⟨⟨⋯,⋯⟩,_,rfl,?_⟩;refine wG (λi ρ S3=>∃(bs:List (Str×Int)) (a6 a7 a8:Option Xv),ρ=[some (.ref 0),some (.int cnt),some (.int most),some (.int (a:Int)),some (.ref S.length),some (.int (wj bs)),a6,a7,a8]/\bs.length=i/\wj bs<=most/\1<=wj bs/\(∀b∈bs,1<=b.2/\b.2<=9)/\(∀(m:Nat) b,bs[m]? =some b->NmB ns a bs m b.1)/\S3[S.length]? =some (.lst (bs.map yK))/\Kn S S3) (λ_ _ _ _ _=>rfl) ?_ ?_ ?_
 .rintro i w ρ S3 hw ⟨bs,a6,a7,a8,rfl,jA,hp,mn,g7,kj,ai,kn⟩;obtain⟨hi,rfl⟩:=Wt hw;rw[uA];have ig:=hs.keep kn;refine .of rfl ?_;dsimp only[sM];ext;refine (xi ig ⟨⋯,⋯⟩ ∅ ∅).imp ?_;rintro _ _ ⟨rfl,d0,d1,rfl⟩;ext;generalize wA ns (6+(i:Int)) 10091 9=sz at d0 d1;refine xm (λρ S4=>∃s:Int,ρ=[some (.ref 0),some (.int cnt),some (.int most),some (.int (a:Int)),some (.ref S.length),some (.int (wj bs)),some (.int (i:Int)),some (.int s),a8]/\1<=s/\s<=9/\wj bs*s<=most/\S4=S3) (zo ?_) ?_
  .ext;refine WL (by have:=TZ (p:=wj bs) ⋯ ⋯;have:=TZ (p:=1+sz) ⋯ ⋯;omega) ?_;ext;refine yd (λh=> ?_) (λh=> ?_)
   .ext;exact⟨⋯,⋯,⋯,rfl⟩
   .ext;exact⟨⋯,⋯,⋯,rfl⟩
  rintro ρ S4 ⟨s,rfl,s1,s9,fN,rfl⟩;have mm:1<=wj bs*s:=by
   have:=uf mn s1 ⋯ ⋯;omega
  ext;refine WL (by have:=TZ (p:=wj bs) ⋯ ⋯;have:=TZ (p:=s) ⋯ ⋯;omega) ?_;ext;refine (zn6 ig ⟨⋯,⋯⟩ ⋯).imp ?_;rintro _ _ ⟨z,rfl,hz,rfl⟩;ext;refine xm (λρ S5=>∃z:Str,ρ=[some (.ref 0),some (.int cnt),some (.int most),some (.int (a:Int)),some (.ref S.length),some (.int (wj bs*s)),some (.int (i:Int)),some (.int s),some (.str z)]/\NmB ns a bs i z/\S5=S4) (zo (xl ?_)) ?_
  .ext;refine yd (λh=> ?_) (λh=> ?_)
   .obtain rfl:i=1:=by omega
    ext;refine (xi ig ∅ ∅ ∅).imp ?_;rintro _ _ ⟨rfl,_,_,rfl⟩;ext;refine yd (λh=> ?_) (λh=> ?_)
    .match bs,jA with
     |[(z0,s0)],_=>
      have n0:Nm ns 0 a z0:=by
       rcases kj 0 (z0,s0) rfl with n0|⟨e,_⟩
       .exact n0
       .cases e
      have l0:=n0.le;have oG:=n0.lt;ext;refine xx (zm ai) (z:=yK (z0,s0)) rfl ?_;unfold yK;ext;show WO (zeU (.str z0) none (some (-1)) _) _;refine zn3 (yU ⋯) ?_;have ka:(Txt.slice z0 none (some (-1))).length=z0.length-1:=by
       rw[<-Zi,zat ⋯,sL,Zi];omega
      ext;refine zo ?_;ext;refine zbk (by rw[ka];exact yU ⋯) ?_;ext;rw[ka];refine yd (λh=> ?_) (λh=> ?_)
      .ext;refine xx (zm ai) (z:=yK (z0,s0)) rfl ?_;unfold yK;ext;have h1:(("e":Str)).length=1:=rfl;show WO (xf (.str z0) (.str "e") _) _;refine wM (yU ⋯) ?_;ext;refine⟨.inr ⟨rfl,_,rfl,⟨by rw[Str.length_append];omega,by rw[Str.length_append];omega,n0.az.app (AZ.one (n:=4) ∅),by rw[Str.length_append];show z0.length+1≠z0.length;omega,λ_=>by rw[zmB oG];exact n0.at_⟩⟩,rfl⟩
      .ext;refine⟨.inr ⟨rfl,_,rfl,⟨⋯,⋯,λc hc=> ?_,by show _≠z0.length;omega,λhh=> ?_⟩⟩,rfl⟩
       .rw[zat ⋯] at hc;exact n0.az c (List.mem_of_mem_take hc)
       .have:=n0.at_;unfold sg at this ⊢;rw[zat ⋯,List.getElem?_take,if_pos ⋯];exact this
    .ext;exact⟨.inl hz,rfl⟩
   .refine⟨nofun,λ_=> ?_⟩;ext;exact⟨.inl hz,rfl⟩
  rintro ρ S5 ⟨z,rfl,hz,rfl⟩;ext;refine Yj ?_;ext;refine⟨⟨_,zm ai⟩,?_⟩;ext;refine xk (yN ai) (by rw[rh];exact zaY ⋯) ?_;ext;refine⟨bs++[(z,s)],some (.int (i:Int)),some (.int s),some (.str z),?_,by rw[rk,jA];rfl,by rw[Xn];exact fN,by rw[Xn];exact mm,?_,?_,?_,kn.set (.inr (rj _))⟩
  .rw[Xn]
  .intro b hb;rw[sA,sG] at hb;rcases hb with hb|rfl
   .exact g7 b hb
   .exact⟨s1,s9⟩
  .intro m b hb;have up:∀{m' z'},NmB ns a bs m' z'->NmB ns a (bs++[(z,s)]) m' z':=by
    rintro m' z' (h|⟨e,b0,e0,h⟩)
    .exact .inl h
    .exact .inr ⟨e,b0,by rw[rB (rg.1 e0).1];exact e0,h⟩
   by_cases pH:m<bs.length
   .rw[rB pH] at hb;exact up (kj m b hb)
   .have ik:=(rg.1 hb).1;rw[rk,rC] at ik;obtain rfl:m=bs.length:=by omega
    rw[rL (rj _),tY] at hb;cases hb;rw[jA];exact up hz
  .rw[xa ai,rW];rfl
 .exact⟨[],none,none,none,rfl,rfl,hm.1,∅,(λb hb=>by cases hb),(λm b hb=>by simp at hb),zQ,Kp.app (Kp.refl _)⟩
 .rintro ρ S3 ⟨bs,a6,a7,a8,rfl,jA,hp,mn,g7,kj,ai,kn⟩;rw[Zw] at jA;ext;refine xg ai ?_;refine⟨bs,rfl,⟨⋯,λb hb=> ?_,g7,?_,hp,mn⟩,⋯,kn⟩
  .obtain⟨m,mz,rfl⟩:=tV.1 hb;exact (kj m _ (r9 mz)).ok
  .rw[List.nodup_iff_pairwise_ne,List.pairwise_iff_getElem];intro i j hi hj mH;rw[rh] at hi hj;rw[sZ,sZ];exact zn7 kj ⋯ (r9 hi) (r9 hj) mH
theorem Kn.refl:Kn S S:=Kp.refl _
theorem Kn.app {T:Sto} (k:Kn S S'):Kn S (S'++T):=Kp.app k
theorem Xo {P:Xv->Sto->Prop} {ρ:Rho} {cap:List (Option Nat)} {n:TwI} {e:TwE} {xs:List Xv} {f:Nat->Xv} (hl:xs.length<=sizeLine) (hn:W (n ρ S) λget S1=>(∀S',Kn S1 S'->get S'=some xs)/\Kn S S1)
  (he:∀(i:Nat) (x:Xv) S2,xs[i]? =some x->Kn S S2->W (e ((zdR cap ρ).set 0 (some x)) S2) λv S3=>v=f i/\Kn S2 S3)
  (k:∀S',Kn S S'->P (.ref S'.length) (S'++[.lst ((rY xs.length).map f)])):W (xQ cap n (gN 0) xR e ρ S) P:=by
 refine zdX (hn.imp ?_);rintro get S1 ⟨hg,k1⟩;refine⟨xs,hg S1 Kn.refl,?_⟩;refine zbQ hl (λi es S2=>Kn S1 S2/\es=(rY i).map f) (λ_ _ _ _ h=>hg _ h.1) ?_ ⟨Kn.refl,rfl⟩ ?_
 .rintro i w es S2 hw nY ⟨k2,rfl⟩;refine .of rfl ?_;ext;refine⟨rfl,?_⟩;refine (he i w S2 hw (k1.trans k2)).imp ?_;rintro _ S3 ⟨rfl,k3⟩;exact⟨k2.trans k3,by rw[A3,rW];rfl⟩
 .rintro es S2 _ ⟨k2,rfl⟩;exact k S2 (k1.trans k2)
theorem zfq:∀bs:List Bool,Tn (bs.map Xv.bl)=some bs
 |[]=>rfl
 |b::r=>by rw[sj];simp[Tn,zfq r]
theorem Xp:∀bs:List Int,Wr (bs.map Xv.int)=some bs
 |[]=>rfl
 |b::r=>by rw[sj];simp[Wr,Xp r]
theorem zn8 {P:Xv->Sto->Prop} {l:List Xv} {bs:List Bool} (h:zY S x=some l) (h2:Tn l=some bs) (k:P (.bl (bs.all id)) S):WO (zbM [x] S) P:= .of (by unfold zbM;dsimp only;rw[h,rE,h2];rfl) k
theorem zgz {P:Xv->Sto->Prop} {l:List Xv} {bs:List Int} (h:zY S x=some l) (h2:Wr l=some bs) (k:P (.int bs.sum) S):WO (zgm [x] S) P:= .of (by unfold zgm;dsimp only;rw[h,rE,h2];rfl) k
theorem zlR {P:Xv->Sto->Prop} {bs:List Int} (k:P (.int bs.sum) S):WO (zeY [.tup (bs.map Xv.int)] S) P:= .of (by unfold zeY;dsimp only[Xv.tupOf];rw[rE,Xp];rfl) k
theorem Um {P:Xv->Sto->Prop} {l:List Xv} (k:P (.int l.length) S):WO (ww [.tup l] S) P:= .of rfl k
theorem UG {ρ:Rho} {m:TwE} {xs:List Xv} (h:W (m ρ S) λv S1=>v= .tup xs/\Kn S S1):W (iT m ρ S) λget S1=>(∀S',Kn S1 S'->get S'=some xs)/\Kn S S1:=by
 refine zdn (h.imp ?_);rintro _ S1 ⟨rfl,k⟩;exact⟨xs,rfl,λ_ _=>rfl,k⟩
theorem zkh {ρ:Rho} {m:TwE} {xs:List Xv} {n:Nat} (h:W (m ρ S) λv S1=>v= .ref n/\zY S1 (.ref n)=some xs/\Kn S S1):W (iL m ρ S) λget S1=>(∀S',Kn S1 S'->get S'=some xs)/\Kn S S1:=by
 refine zjN (h.imp ?_);rintro _ S1 ⟨rfl,e,k⟩;exact⟨xs,e,λS' k'=>Kn.lst k' e,k⟩
theorem Wy {P:Xv->Sto->Prop} {ρ:Rho} {cap:List (Option Nat)} {n:TwI} {e:TwE} {xs:List Xv} {p:Nat->Bool} (hl:xs.length<=sizeLine) (hn:W (n ρ S) λget S1=>(∀S',Kn S1 S'->get S'=some xs)/\Kn S S1)
  (he:∀(i:Nat) (x:Xv) S2,xs[i]? =some x->Kn S S2->W (e ((zdR cap ρ).set 0 (some x)) S2) λv S3=>v= .bl (p i)/\Kn S2 S3)
  (k:∀S',Kn S S'->P (.bl (((rY xs.length).map p).all id)) S'):W (eFn zbM [xQ cap n (gN 0) xR e] ρ S) P:=by
 ext;refine Xo (f:=λi=> .bl (p i)) hl hn he λS' kn=> ?_;ext;refine zn8 (zm zQ) (bs:=(rY xs.length).map p) ?_ (k _ kn.app);rw[<-zfq,t8];rfl
theorem zlS {i:Int}:W (VY fu [.int i] S) λv S'=>v= .bl true/\S=S':=by
 walk_at "wr";unfold XC;refine YZ (Tp ?_);ext;refine zbR (v:=true) rfl ?_;refine⟨_,rfl,λ_=> ?_,λz=>(by cases z)⟩;ext;refine zbR (v:=false) rfl ?_;exact⟨_,rfl,rfl,rfl⟩
theorem zaa {v lo hi:Int}:W (xM fu [.int v,.int lo,.int hi] S) λr S'=>r= .bl (decide (lo<=v/\v<=hi))/\S=S':=by
 walk_at "wr";unfold ZK;refine YZ (Tp ?_);ext;refine zlS.imp ?_;rintro _ _ ⟨rfl,rfl⟩;refine⟨_,rfl,λ_=> ?_,λz=>(by cases z)⟩;refine Ts ?_;ext;refine⟨λh=> ?_,λh=> ?_⟩
 .ext;have h:lo<=v:=of_decide_eq_true h;refine⟨?_,rfl⟩;by_cases h2:v<=hi
  .rw[decide_eq_true h2,decide_eq_true ⟨h,h2⟩]
  .rw[decide_eq_false h2,decide_eq_false λz=>h2 z.2]
 .have h:¬lo<=v:=of_decide_eq_false h;exact⟨by rw[decide_eq_false λz=>h z.1],rfl⟩
noncomputable def szX (bs:List (Str×Int)):List (Key×Xv):=bs.map λb=>(.inr b.1,.int b.2)
noncomputable def Vt (bs:List (Str×Int)) (n:Str):Option Int:=(bs.find? λb=>decide (b.1=n)).map (·.2)
theorem zaM (n:Str):∀bs:List (Str×Int),Ws (szX bs) (.inr n)=(Vt bs n).map Xv.int
 |[]=>rfl
 |b::r=>by
  have ih:=zaM n r;unfold szX Vt at ih ⊢;rw[sj,sU];unfold Ws at ih ⊢;rw[sU];by_cases h:b.1=n
  .subst h;simp
  .have h1:decide ((uc b.1:Key)=uc n)=false:=decide_eq_false λz=>h (AF z);rw[h1,decide_eq_false h];exact ih
def zab (x:Xv):Prop:=(∃n,x= .str n)\/∃v:Int,x= .int v
noncomputable def opF (bs:List (Str×Int)):Xv->Bool
 | .str n=>(Vt bs n).isSome
 | .int v=>decide (0<=v/\v<=999999999)
 |_=>false
theorem zki {bs:List (Str×Int)} {d:Nat} (hd:S[d]? =some (.dk (szX bs))) (ho:zab x):W (vj fu [.ref d,x] S) λr S'=>r= .bl (opF bs x)/\S=S':=by
 walk_at "wr";unfold vi;refine zh (zo ?_);rcases ho with⟨n,rfl⟩|⟨v,rfl⟩
 .ext;refine zbR (v:=true) rfl ?_;refine⟨_,rfl,λ_=> ?_,nofun⟩;refine YZ (zdW ?_);ext;refine⟨d,szX bs,.inr n,Tq hd,rfl,?_,rfl⟩;rw[zaM];show Xv.bl (false !=((Vt bs n).map Xv.int).isSome)=Xv.bl (Vt bs n).isSome;cases Vt bs n<;>rfl
 .ext;refine zbR (v:=false) rfl ?_;refine⟨_,rfl,nofun,λ_=>zq ?_⟩;ext;exact zaa
end
section
variable {fu:Nat} {S S' S2:Sto} {x y:Xv} {ns:List Int} {bs:List (Str×Int)}
noncomputable def wOk (ws:List Int) (s:Int):Bool:=decide ((ws.length:Int)=s)&&(ws.all (λw=>decide (0<=w/\w<=999999999))&&decide (0<ws.sum))
theorem vE {α:Type} {l:List α} {q:α->Bool} {p:Nat->Bool} (h:∀(i:Nat) a,l[i]? =some a->p i=q a):((rY l.length).map p).all id=l.all q:=by
 have:(rY l.length).map p=l.map q:=by
  refine y3 λi=> ?_;by_cases hi:i<l.length
  .rw[rq,tZ hi,rq,r9 hi];exact congrArg some (h i _ (r9 hi))
  .rw[sy (by simp;omega),sy (by simp;omega)]
 rw[this,Bp];rfl
theorem zcW {ws:List Int} {s:Int} (hl:ws.length<=100):W (vR fu [.tup (ws.map Xv.int),.int s] S) λr S'=>r= .bl (wOk ws s)/\Kn S S':=by
 walk_at "wr";unfold vQ;refine zh (zo (xX ?_));ext;refine Um ?_;ext;rw[rh];refine⟨λh=> ?_,λh=> ?_⟩
 .have h:(ws.length:Int)≠s:=by simpa using h
  refine⟨λ_=> ?_,nofun⟩;ext;refine⟨?_,Kn.refl⟩;unfold wOk;rw[decide_eq_false h];rfl
 .have h:(ws.length:Int)=s:=by simpa using h
  refine Zv (Zn ?_);refine Wy (xs:=ws.map Xv.int) (p:=λi=>decide (0<=ws.getD i 0/\ws.getD i 0<=999999999)) (by rw[rh];exact yU ⋯) (UG (by ext;exact⟨rfl,Kn.refl⟩)) ?_ ?_
  .intro i x S2 hx k2;rw[rq,rG] at hx;obtain⟨w,e,rfl⟩:=hx;ext;refine zaa.imp ?_;rintro _ _ ⟨rfl,rfl⟩;rw[rp,e];exact⟨rfl,Kn.refl⟩
  .intro S2 k2;rw[rh,vE (q:=λw=>decide (0<=w/\w<=999999999)) (λi a e=>by rw[rp,e];rfl)];refine⟨_,rfl,λh2=> ?_,λh2=> ?_⟩
   .ext;refine⟨?_,k2⟩;unfold wOk;rw[show (ws.all λw=>decide (0<=w/\w<=999999999))=false by simpa using h2];simp
   .refine zq ?_;ext;refine zlR ?_;ext;refine⟨?_,k2⟩;unfold wOk;rw[show (ws.all λw=>decide (0<=w/\w<=999999999))=true by simpa using h2,decide_eq_true h];rfl
inductive Own (bs:List (Str×Int)):Xv->Bool->Prop where
 |pass:Own bs (.tup [.str "pass"]) true
 |gain {x:Xv}:zab x->Own bs (.tup [.str "gain",x]) (opF bs x)
 |look {x y:Xv} {s:Str}:zab x->zab y->Own bs (.tup [.str "look",.tup [x,.str s,y]]) (opF bs x&&opF bs y)
 |cond {x y u w:Xv} {s:Str}:zab x->zab y->Own bs (.tup [.str "if",.tup [x,.str s,y],u,w]) (opF bs x&&opF bs y)
 |whil {x y u:Xv} {s:Str}:zab x->zab y->Own bs (.tup [.str "while",.tup [x,.str s,y],u]) (opF bs x&&opF bs y)
 |times {k:Int} {u:Xv}:Own bs (.tup [.str "times",.int k,u]) (decide (0<=k/\k<=60))
 |hand {us:List Xv}:us.length<=100->Own bs (.tup [.str "hand",.tup us]) (decide (2<=us.length/\us.length<=8))
 |set1 {n:Str} {x:Xv}:zab x->Own bs (.tup [.str "set",.str n,.tup [x]]) ((Vt bs n).isSome&&opF bs x)
 |set3 {n s:Str} {x y:Xv}:zab x->zab y->Own bs (.tup [.str "set",.str n,.tup [x,.str s,y]]) ((Vt bs n).isSome&&(opF bs x&&opF bs y))
 |draw {n:Str} {ws:List Int}:ws.length<=100->Own bs (.tup [.str "draw",.str n,.tup (ws.map Xv.int)]) ((Vt bs n).elim false λs=>wOk ws s)
theorem zbl {P:Xv->Sto->Prop} {a b:Str} (k:P (.bl (decide (a=b))) S):WO (yk false (.str a) (.str b) S) P:= .of (by unfold yk;simp) k
theorem ye {a b:Str} (h:a≠b) {P:Xv->Sto->Prop} (k:P (.bl false) S):WO (yk false (.str a) (.str b) S) P:=zbl (by rw[decide_eq_false h];exact k)
theorem zS {a:Str} {P:Xv->Sto->Prop} (k:P (.bl true) S):WO (yk false (.str a) (.str a) S) P:=zbl (by rw[decide_eq_true rfl];exact k)
inductive Ops:Xv->List Xv->Prop where
 |gain {x:Xv}:Ops (.tup [.str "gain",x]) [x]
 |set {n z:Xv} {xs:List Xv}:xs.length=1\/xs.length=3->Ops (.tup [.str "set",n,.tup xs]) (wm xs)
 |test {w:Str} {xs r:List Xv}:w="look"\/w="if"\/w="while"->xs.length=1\/xs.length=3->Ops (.tup (.str w:: .tup xs::r)) (wm xs)
 |none {w:Str} {r:List Xv}:w≠"set"->w≠"look"->w≠"if"->w≠"while"->w≠"gain"->Ops (.tup (.str w::r)) []
theorem in3 {w:Str} {P:Xv->Sto->Prop} (k:P (.bl (decide (w="look"\/w="if"\/w="while"))) S):WO (dIn false (.str w) (.tup [.str "look",.str "if",.str "while"]) S) P:=by
 refine VG rfl rfl ?_;have e:(false !=Bq [Xv.str "look",Xv.str "if",Xv.str "while"] λz=>zcx z (.str w))=decide (w="look"\/w="if"\/w="while"):=by
  show (false !=(decide (Str.ofString "look"=w)||(decide (Str.ofString "if"=w)||(decide (Str.ofString "while"=w)||false))))=_;by_cases h1:w="look"
  .subst h1;simp
  .by_cases h2:w="if"
   .subst h2;simp
   .by_cases h3:w="while"
    .subst h3;simp
    .simp[h1,h2,h3,tf h1,tf h2,tf h3]
 rw[e];exact k
theorem zgA {l:List Xv} (h:Ops x l):W (vP fu [x] S) λr S'=>r= .tup l/\S=S':=by
 walk_at "wr";unfold vO;cases h with
 |gain=>
  refine zh (zo ?_);ext;refine ye ∅ ⟨_,rfl,nofun,λ_=>zq ?_⟩;refine zh (zo ?_);ext;refine in3 ⟨_,rfl,nofun,λ_=>zq ?_⟩;refine zh (zo ?_);ext;refine zS ⟨_,rfl,λ_=> ?_,nofun⟩;ext;exact⟨rfl,rfl⟩
 | @set n z xs hl=>
  refine zh (zo ?_);ext;refine zS ⟨_,rfl,λ_=> ?_,nofun⟩;ext;refine xn rfl (z:= .tup xs) rfl ?_;ext;exact zj7 rfl hl ⟨rfl,rfl⟩
 | @test w xs r hw hl=>
  refine zh (zo ?_);ext;refine ye (by rcases hw with rfl|rfl|rfl<;>decide) ⟨_,rfl,nofun,λ_=>zq ?_⟩;refine zh (zo ?_);ext;refine in3 ⟨_,rfl,λ_=> ?_,(λz=>absurd hw (of_decide_eq_false z))⟩;ext;exact zj7 rfl hl ⟨rfl,rfl⟩
 | @none w r h1 h2 h3 h4 h5=>
  refine zh (zo ?_);ext;refine ye h1 ⟨_,rfl,nofun,λ_=>zq ?_⟩;refine zh (zo ?_);ext
  refine in3 ⟨_,rfl,(λz=>by
   have z:=of_decide_eq_true z;rcases z with z|z|z
   .exact absurd z h2
   .exact absurd z h3
   .exact absurd z h4),λ_=>zq ?_⟩
  refine zh (zo ?_);ext;refine ye h5 ⟨_,rfl,nofun,λ_=>zq ?_⟩;ext;exact⟨rfl,rfl⟩
theorem in2 {w:Str} {P:Xv->Sto->Prop} (k:P (.bl (decide (w="set"\/w="draw"))) S):WO (dIn false (.str w) (.tup [.str "set",.str "draw"]) S) P:=by
 refine VG rfl rfl ?_;have e:(false !=Bq [Xv.str "set",Xv.str "draw"] λz=>zcx z (.str w))=decide (w="set"\/w="draw"):=by
  show (false !=(decide (Str.ofString "set"=w)||(decide (Str.ofString "draw"=w)||false)))=_;by_cases h1:w="set"
  .subst h1;simp
  .by_cases h2:w="draw"
   .subst h2;simp
   .simp[h1,h2,tf h1,tf h2]
 rw[e];exact k
noncomputable def zfr (fu:Nat):TwS:=(zG (eFn zbM [(xQ [none,some 0] (iT (ze (vP fu) [(za 1)])) (gN 0) xR (ze (vj fu) [(za 1),(za 0)]))]))
theorem YT {N:Rho->Sto->Prop} {R:Xv->Sto->Prop} {d:Nat} {a2:Option Xv} {l:List Xv} (hd:S[d]? =some (.dk (szX bs))) (ho:Ops x l) (hl:l.length<=3) (hi:∀o∈l,zab o) (k:∀S',Kn S S'->R (.bl (l.all (opF bs))) S'):WS (zfr fu [some (.ref d),some x,a2] S) N R:=by
 unfold zfr;refine YZ ?_;refine Wy (xs:=l) (p:=λi=>opF bs (l.getD i .non)) (yU ⋯) (UG ?_) ?_ ?_
 .ext;refine (zgA ho).imp ?_;rintro _ _ ⟨rfl,rfl⟩;exact⟨rfl,Kn.refl⟩
 .intro i o S2 ho k2;ext;refine (zki (k2.at hd) (hi o (rV ho))).imp ?_;rintro _ _ ⟨rfl,rfl⟩;rw[rp,ho];exact⟨rfl,Kn.refl⟩
 .intro S2 k2;rw[vE (q:=opF bs) (λi a e=>by rw[rp,e];rfl)];exact k S2 k2
noncomputable def zfs (fu:Nat):TwS:=(zk (sIf (XO (bE (eOp (yk false) (za 2) (eC (.str "hand")))) (XQ (bE (UP (λi j=>decide (i<=j)) (λi j=>decide (i<=j)) (eC (.int 2)) (eFn ww [(eOp zM (za 1) (eC (.int 1)))]) (eC (.int 8)))))) (zG (eC (.bl false))) zx) (zfr fu))
noncomputable def zft (fu:Nat):TwS:=(zk (sIf (XO (bE (eOp (yk false) (za 2) (eC (.str "times")))) (XQ (bE (ze (xM fu) [(eOp zM (za 1) (eC (.int 1))),(eC (.int 0)),(eC (.int 60))])))) (zG (eC (.bl false))) zx) (zfs fu))
noncomputable def zhB (fu:Nat):TwS:=(zk (sIf (XO (bE (eOp (yk false) (za 2) (eC (.str "draw")))) (XQ (bE (ze (vR fu) [(eOp zM (za 1) (eC (.int 2))),(ze4 (za 0) (eOp zM (za 1) (eC (.int 1))))])))) (zG (eC (.bl false))) zx) (zft fu))
theorem Uo:YM fu=(zk (zF (eOp zM (za 1) (eC (.int 0))) (gN 2)) (zk (sIf (XO (bE (eOp (dIn false) (za 2) (yn [(eC (.str "set")),(eC (.str "draw"))]))) (bE (zil true (eOp zM (za 1) (eC (.int 1))) (za 0)))) (zG (eC (.bl false))) zx) (zhB fu))):=rfl
section
variable {N:Rho->Sto->Prop} {R:Xv->Sto->Prop} {d:Nat} {w:Str} {r:List Xv}
theorem noD (h:w≠"draw") (k:WS (zft fu [some (.ref d),some (.tup (.str w::r)),some (.str w)] S) N R):WS (zhB fu [some (.ref d),some (.tup (.str w::r)),some (.str w)] S) N R:=by
 unfold zhB;refine zh (zo (xl ?_));ext;exact ye h ⟨_,rfl,nofun,λ_=>⟨nofun,λ_=>zq k⟩⟩
theorem noT (h:w≠"times") (k:WS (zfs fu [some (.ref d),some (.tup (.str w::r)),some (.str w)] S) N R):WS (zft fu [some (.ref d),some (.tup (.str w::r)),some (.str w)] S) N R:=by
 unfold zft;refine zh (zo (xl ?_));ext;exact ye h ⟨_,rfl,nofun,λ_=>⟨nofun,λ_=>zq k⟩⟩
theorem noH (h:w≠"hand") (k:WS (zfr fu [some (.ref d),some (.tup (.str w::r)),some (.str w)] S) N R):WS (zfs fu [some (.ref d),some (.tup (.str w::r)),some (.str w)] S) N R:=by
 unfold zfs;refine zh (zo (xl ?_));ext;exact ye h ⟨_,rfl,nofun,λ_=>⟨nofun,λ_=>zq k⟩⟩
end
theorem zgB {d:Nat} {b:Bool} (hd:S[d]? =some (.dk (szX bs))) (ho:Own bs x b):W (vS fu [.ref d,x] S) λv S'=>v= .bl b/\Kn S S':=by
 have plain:∀{w:Str} {r l:List Xv} {b:Bool},x= .tup (.str w::r)->w≠"set"->w≠"draw"->w≠"times"->w≠"hand"->Ops x l->l.length<=3->(∀o∈l,zab o)->l.all (opF bs)=b->W (vS fu [.ref d,x] S) λv S'=>v= .bl b/\Kn S S':=by
  rintro w r l b rfl n1 n2 n3 n4 fH hl hi rfl;refine VF rfl rfl ?_;dsimp only[uB,tS,u3,uq,sN];rw[Uo];ext;refine zo (xl ?_);ext
  refine in2 ⟨_,rfl,(λz=>by
   rcases of_decide_eq_true z with z|z
   .exact absurd z n1
   .exact absurd z n2),λ_=>⟨nofun,λ_=>zq ?_⟩⟩
  exact noD n2 (noT n3 (noH n4 (YT hd fH hl hi λS' k=>⟨rfl,k⟩)))
 cases ho with
 |pass=>exact plain rfl ∅ ∅ ∅ ∅ (.none ∅ ∅ ∅ ∅ ∅) (rS _) (λo h=>by cases h) rfl
 |gain h=>exact plain rfl ∅ ∅ ∅ ∅ .gain (by simp) (λo z=>by rw[sG] at z;subst z;exact h) (by simp)
 |look h g=>exact plain rfl ∅ ∅ ∅ ∅ (.test (.inl rfl) (.inr rfl)) (by simp[wm]) (λo z=>by rcases (by simpa [wm] using z) with rfl|rfl<;>assumption) (by simp[wm])
 |cond h g=>exact plain rfl ∅ ∅ ∅ ∅ (.test (.inr (.inl rfl)) (.inr rfl)) (by simp[wm]) (λo z=>by rcases (by simpa [wm] using z) with rfl|rfl<;>assumption) (by simp[wm])
 |whil h g=>exact plain rfl ∅ ∅ ∅ ∅ (.test (.inr (.inr rfl)) (.inr rfl)) (by simp[wm]) (λo z=>by rcases (by simpa [wm] using z) with rfl|rfl<;>assumption) (by simp[wm])
 | @times k u=>
  refine VF rfl rfl ?_;dsimp only[uB,tS,u3,uq,sN];rw[Uo];ext;refine zo (xl ?_);ext;refine in2 ⟨_,rfl,nofun,λ_=>⟨nofun,λ_=>zq ?_⟩⟩;refine noD ∅ ?_;unfold zft;refine zh (zo (xl ?_));ext;refine zS ⟨_,rfl,λ_=> ?_,nofun⟩;ext;refine zaa.imp ?_;rintro _ _ ⟨rfl,rfl⟩;refine⟨_,rfl,λh=> ?_,λh=> ?_⟩
  .ext
   exact⟨by rw[show decide (0<=k/\k<=60)=false by cases hh:decide (0<=k/\k<=60) with
    |false=>rfl
    |true=>rw[hh] at h;cases h],Kn.refl⟩
  .refine zq ?_;rw[show decide (0<=k/\k<=60)=true by simpa using h];exact noH ∅ (YT hd (.none ∅ ∅ ∅ ∅ ∅) (rS _) (λo h=>by cases h) λS' k=>⟨rfl,k⟩)
 | @hand us hl=>
  refine VF rfl rfl ?_;dsimp only[uB,tS,u3,uq,sN];rw[Uo];ext;refine zo (xl ?_);ext;refine in2 ⟨_,rfl,nofun,λ_=>⟨nofun,λ_=>zq ?_⟩⟩;refine noD ∅ (noT ∅ ?_);unfold zfs;refine zh (zo (xl ?_));ext;refine zS ⟨_,rfl,λ_=> ?_,nofun⟩;refine Zv (Zn (Ts ?_));ext;refine Um ?_;ext;have go:∀{S'':Sto},S''=S->decide (2<=us.length/\us.length<=8)=true->WS (zfr fu [some (.ref d),some (.tup [.str "hand",.tup us]),some (.str "hand")] S'') (λx S1=>Xv.non= .bl (decide (2<=us.length/\us.length<=8))/\Kn S S1) (λv S'=>v= .bl (decide (2<=us.length/\us.length<=8))/\Kn S S'):=by
   rintro S'' rfl e;exact YT hd (.none ∅ ∅ ∅ ∅ ∅) (rS _) (λo h=>by cases h) λS' k=>⟨by rw[e];rfl,k⟩
  refine⟨λh=> ?_,λh=> ?_⟩
  .have h:(2:Int)<=us.length:=of_decide_eq_true h;ext;refine⟨λh2=> ?_,λh2=> ?_⟩
   .have h2:¬(us.length:Int)<=8:=by simpa using h2
    ext;exact⟨by rw[decide_eq_false ⋯],Kn.refl⟩
   .have h2:(us.length:Int)<=8:=by simpa using h2
    exact zq (go rfl (decide_eq_true ⟨⋯,⋯⟩))
  .have h:¬(2:Int)<=us.length:=of_decide_eq_false h;refine⟨_,rfl,λ_=> ?_,nofun⟩;ext;exact⟨by rw[decide_eq_false ⋯],Kn.refl⟩
 | @set1 n x h=>
  refine VF rfl rfl ?_;dsimp only[uB,tS,u3,uq,sN];rw[Uo];ext;refine zo (xl ?_);ext;refine in2 ⟨_,rfl,λ_=> ?_,nofun⟩;refine Zn (zdW ?_);ext;refine⟨d,szX bs,.inr n,Tq hd,rfl,_,rfl,?_⟩;rw[zaM];cases e:Vt bs n with
  |none=>
   refine⟨λ_=> ?_,nofun⟩;ext;exact⟨rfl,Kn.refl⟩
  |some s=>
   refine⟨nofun,λ_=>zq ?_⟩;exact noD ∅ (noT ∅ (noH ∅ (YT hd (.set (z:= .non) (.inl rfl)) (by simp[wm]) (λo z=>by rw[show o=x by simpa [wm] using z];exact h) λS' k=>⟨by simp[wm],k⟩)))
 | @set3 n s x y h g=>
  refine VF rfl rfl ?_;dsimp only[uB,tS,u3,uq,sN];rw[Uo];ext;refine zo (xl ?_);ext;refine in2 ⟨_,rfl,λ_=> ?_,nofun⟩;refine Zn (zdW ?_);ext;refine⟨d,szX bs,.inr n,Tq hd,rfl,_,rfl,?_⟩;rw[zaM];cases e:Vt bs n with
  |none=>
   refine⟨λ_=> ?_,nofun⟩;ext;exact⟨rfl,Kn.refl⟩
  |some s=>
   refine⟨nofun,λ_=>zq ?_⟩;exact noD ∅ (noT ∅ (noH ∅ (YT hd (.set (z:= .non) (.inr rfl)) (by simp[wm]) (λo z=>by rcases (by simpa [wm] using z) with rfl|rfl<;>assumption) λS' k=>⟨by simp[wm],k⟩)))
 | @draw n ws hl=>
  refine VF rfl rfl ?_;dsimp only[uB,tS,u3,uq,sN];rw[Uo];ext;refine zo (xl ?_);ext;refine in2 ⟨_,rfl,λ_=> ?_,nofun⟩;refine Zn (zdW ?_);ext;refine⟨d,szX bs,.inr n,Tq hd,rfl,_,rfl,?_⟩;rw[zaM];cases e:Vt bs n with
  |none=>
   refine⟨λ_=> ?_,nofun⟩;ext;exact⟨rfl,Kn.refl⟩
  |some s=>
   refine⟨nofun,λ_=>zq ?_⟩;unfold zhB;refine zh (zo (xl ?_));ext;refine zS ⟨_,rfl,λ_=> ?_,nofun⟩;ext;refine xn rfl (z:= .tup (ws.map Xv.int)) rfl ?_;ext;refine zlr ?_;ext;refine⟨d,szX bs,.inr n,.int s,Tq hd,rfl,by rw[zaM,e];rfl,?_⟩;ext;refine (zcW hl).imp ?_;rintro _ S2 ⟨rfl,k2⟩;refine⟨_,rfl,λh=> ?_,λh=> ?_⟩
   .ext;exact⟨by show Xv.bl false=Xv.bl (wOk ws s);rw[show wOk ws s=false by simpa using h],k2⟩
   .refine zq ?_;exact noT ∅ (noH ∅ (YT (k2.at hd) (.none ∅ ∅ ∅ ∅ ∅) (rS _) (λo h=>by cases h) λS' k=>⟨by show Xv.bl true=Xv.bl (wOk ws s);rw[show wOk ws s=true by simpa using h],k2.trans k⟩))
end
section
variable {fu:Nat} {S S' S2:Sto} {x y:Xv} {ns:List Int} {bs:List (Str×Int)}
inductive Nd:Xv->List (List Xv)->Option Int->Bool->Prop where
 |plain {w:Str} {r:List Xv}:w≠"if"->w≠"while"->w≠"times"->w≠"hand"->Nd (.tup (.str w::r)) [] none false
 |cond {t:Xv} {u w:List Xv}:Nd (.tup [.str "if",t,.tup u,.tup w]) [u,w] none true
 |whil {t:Xv} {u:List Xv}:Nd (.tup [.str "while",t,.tup u]) [u] none true
 |times {k:Int} {u:List Xv}:Nd (.tup [.str "times",.int k,.tup u]) [u] (some k) true
 |hand {us:List (List Xv)}:Nd (.tup [.str "hand",.tup (us.map Xv.tup)]) us none true
inductive Kd where
 |d (x:Xv)|b (l:List Xv)|s (l:List (List Xv))
noncomputable def zmC:Option Int->Int->Int
 |none,m=>m
 |some k,m=>(if 1<k then k else 1)*(1+m)
inductive Tr (bs:List (Str×Int)):Kd->Int->Nat->Bool->Nat->Prop where
 |deed {x:Xv} {us:List (List Xv)} {tk:Option Int} {bk b g:Bool} {m:Int} {p c:Nat}:Nd x us tk bk->Own bs x b->Tr bs (.s us) m p g c->Tr bs (.d x) (1+zmC tk m) (if bk=true then 1+p else 0) (b&&g) (c+1)
 |nil:Tr bs (.b []) 0 0 true 1
 |cons {x:Xv} {r:List Xv} {n m:Int} {q p c e:Nat} {g h:Bool}:Tr bs (.d x) n q g c->Tr bs (.b r) m p h e->Tr bs (.b (x::r)) (n+m) (max q p) (g&&h) (c+e)
 |nils:Tr bs (.s []) 0 0 true 0
 |conss {u:List Xv} {r:List (List Xv)} {n m:Int} {q p c e:Nat} {g h:Bool}:Tr bs (.b u) n q g c->Tr bs (.s r) m p h e->Tr bs (.s (u::r)) (n+m) (max q p) (g&&h) (c+e)
theorem zac {us:List (List Xv)} {tk:Option Int} {bk:Bool} (h:Nd x us tk bk):W (xK fu [x] S) λv S'=>v= .tup (us.map Xv.tup)/\S=S':=by
 walk_at "wr";unfold YJ;have no:∀{w v:Str} {r:List Xv} {a:TwS} {N:Rho->Sto->Prop} {R:Xv->Sto->Prop},w≠v->N [some (.tup (.str w::r))] S->WS (sIf (bE (eOp (yk false) (eOp zM (za 0) (eC (.int 0))) (eC (.str v)))) a zx [some (.tup (.str w::r))] S) N R:=by
  intro w v r a N R h k;refine zo ?_;ext;exact ye h ⟨_,rfl,nofun,λ_=>zq k⟩
 have jV:∀{w:Str} {r:List Xv} {a:TwS} {N:Rho->Sto->Prop} {R:Xv->Sto->Prop},w≠"while"->w≠"times"->N [some (.tup (.str w::r))] S->WS (sIf (bOr (bE (eOp (yk false) (eOp zM (za 0) (eC (.int 0))) (eC (.str "while")))) (bE (eOp (yk false) (eOp zM (za 0) (eC (.int 0))) (eC (.str "times"))))) a zx [some (.tup (.str w::r))] S) N R:=by
  intro w r a N R h h2 k;refine zo (xX ?_);ext;refine ye h ⟨_,rfl,nofun,λ_=> ?_⟩;ext;exact ye h2 ⟨_,rfl,nofun,λ_=>zq k⟩
 cases h with
 |plain h1 h2 h3 h4=>
  refine zh (no h1 (zh (jV h2 h3 (zh (no h4 ?_)))));ext;exact⟨rfl,rfl⟩
 |cond=>
  refine zh (zo ?_);ext;refine zS ⟨_,rfl,λ_=> ?_,nofun⟩;ext;refine xn rfl rfl ?_;ext;refine xn rfl rfl ?_;ext;exact⟨rfl,rfl⟩
 |whil=>
  refine zh (no ∅ (zh (zo (xX ?_))));ext;refine zS ⟨_,rfl,λ_=>⟨λ_=> ?_,nofun⟩,nofun⟩;ext;refine xn rfl rfl ?_;ext;exact⟨rfl,rfl⟩
 |times=>
  refine zh (no ∅ (zh (zo (xX ?_))));ext;refine ye ∅ ⟨_,rfl,nofun,λ_=> ?_⟩;ext;refine zS ⟨_,rfl,λ_=> ?_,nofun⟩;ext;refine xn rfl rfl ?_;ext;exact⟨rfl,rfl⟩
 |hand=>
  refine zh (no ∅ (zh (jV ∅ ∅ (zh (zo ?_)))));ext;refine zS ⟨_,rfl,λ_=> ?_,nofun⟩;ext;exact⟨rfl,rfl⟩
theorem Tr.bd {kd:Kd} {n:Int} {q c:Nat} {g:Bool} (h:Tr bs kd n q g c):g=true->0<=n/\n<=(c:Int)*122^q:=by
 induction h with
 | @deed x us tk bk b g m p c nd ow h ih=>
  intro e;rw[rT] at e;obtain⟨i1,i2⟩:=ih e.2;have h1:(1:Int)<=122^p:=by exact_mod_cast B5 p 122 ∅
  have h2:(122:Int)^(1+p)=122*122^p:=by rw[uC,Au,uV]
  have h3:0<=(c:Int)*122^p:=B6 ⋯ ⋯;have key:∀k:Int,1<=k->k<=60->0<=1+k*(1+m)/\1+k*(1+m)<=((c+1:Nat):Int)*122^(1+p):=by
   intro k k1 oJ;have a1:0<=k*(1+m):=B6 ⋯ ⋯;have a2:k*(1+m)<=60*(1+m):=Int.mul_le_mul_of_nonneg_right oJ ⋯;rw[h2,tT,Ab];have a3:(c:Int)*(122*122^p)=122*((c:Int)*122^p):=by rw[<-x8,uV (c:Int) 122,x8]
   rw[a3];constructor<;>omega
  have kinds:bk=true->0<=1+m/\1+m<=((c+1:Nat):Int)*122^(1+p):=by
   intro _;have:=key 1 ⋯ ⋯;rw[Int.one_mul] at this;rw[h2,tT,Ab] at*;omega
  cases nd with
  |plain=>
   cases h;exact⟨∅,∅⟩
  |cond=>exact kinds rfl
  |whil=>exact kinds rfl
  |hand=>exact kinds rfl
  | @times k u=>
   have hk:0<=k/\k<=60:=by
    have:=e.1;cases ow;exact of_decide_eq_true this
   show 0<=1+(if 1<k then k else 1)*(1+m)/\1+(if 1<k then k else 1)*(1+m)<=((c+1:Nat):Int)*122^(1+p);split
   .exact key k ⋯ hk.2
   .exact key 1 ⋯ ⋯
 |nil=>exact λ_=>⟨∅,∅⟩
 |nils=>exact λ_=>⟨∅,∅⟩
 | @cons x r n m q p c e g h _ _ dW dU=>
  intro z;rw[rT] at z;obtain⟨a1,a2⟩:=dW z.1;obtain⟨b1,b2⟩:=dU z.2;refine⟨⋯,?_⟩;have m1:(c:Int)*122^q<=c*122^(max q p):=tJ (by exact_mod_cast sJ ∅ (B1 _ _)) ⋯;have m2:(e:Int)*122^p<=e*122^(max q p):=tJ (by exact_mod_cast sJ ∅ (AO _ _)) ⋯;rw[tT,Ab];omega
 | @conss x r n m q p c e g h _ _ dW dU=>
  intro z;rw[rT] at z;obtain⟨a1,a2⟩:=dW z.1;obtain⟨b1,b2⟩:=dU z.2;refine⟨⋯,?_⟩;have m1:(c:Int)*122^q<=c*122^(max q p):=tJ (by exact_mod_cast sJ ∅ (B1 _ _)) ⋯;have m2:(e:Int)*122^p<=e*122^(max q p):=tJ (by exact_mod_cast sJ ∅ (AO _ _)) ⋯;rw[tT,Ab];omega
def zpu:Kd->Nat->Prop
 | .d _,c=>1<=c
 | .b l,c=>l.length+1<=c
 | .s l,c=>l.length<=c
theorem Tr.cnt {kd:Kd} {n:Int} {q c:Nat} {g:Bool} (h:Tr bs kd n q g c):zpu kd c:=by
 induction h with
 |deed=>exact Nat.le_add_left _ _
 |nil=>exact rj _
 |nils=>exact rj _
 | @cons x r n m q p c e g h _ _ dW dU=>
  have dW:1<=c:=dW;have dU:r.length+1<=e:=dU;show (x::r).length+1<=c+e;rw[rl];omega
 | @conss u r n m q p c e g h _ _ dW dU=>
  have dW:u.length+1<=c:=dW;have dU:r.length<=e:=dU;show (u::r).length<=c+e;rw[rl];omega
def zaN (f:TwF) (x:Xv) (m:Int):Prop:=∀S,W (f [x] S) λv S'=>v= .int m/\Kn S S'
structure zca (f:TwF) (l:List Xv) (ms:List Int):Prop where
 len:ms.length=l.length
 at_:∀(i:Nat) x m,l[i]? =some x->ms[i]? =some m->zaN f x m
theorem zca.nil {f:TwF}:zca f [] []:=⟨rfl,λi x m e=>by simp at e⟩
theorem zca.cons {f:TwF} {l:List Xv} {ms:List Int} {x:Xv} {m:Int} (h:zaN f x m) (g:zca f l ms):zca f (x::l) (m::ms):=⟨by rw[rl,rl,g.len],λi y k e1 e2=>by
 cases i with
 |zero=>cases e1;cases e2;exact h
 |succ i=>exact g.at_ i y k (by simpa using e1) (by simpa using e2)⟩
theorem zgC {ms:List Int} {n:Nat} (h:ms.length=n):(rY n).map (λi=>Xv.int (ms.getD i 0))=ms.map Xv.int:=by
 refine y3 λi=> ?_;by_cases hi:i<n
 .rw[rq,tZ hi,rq,r9 ⋯];show some (Xv.int (ms.getD i 0))=some (Xv.int ms[i]);rw[rp,r9 ⋯];rfl
 .rw[sy (by simp;omega),sy (by simp;omega)]
theorem zad {P:Xv->Sto->Prop} {ρ:Rho} {n:TwI} {f:TwF} {xs:List Xv} {ms:List Int} (hl:xs.length<=1000) (hn:W (n ρ S) λget S1=>(∀S',Kn S1 S'->get S'=some xs)/\Kn S S1) (hp:zca f xs ms)
  (k:∀S',Kn S S'->P (.ref S'.length) (S'++[.lst (ms.map Xv.int)])):W (xQ [none] n (gN 0) xR (ze f [(za 0)]) ρ S) P:=by
 refine Xo (xs:=xs) (f:=λi=> .int (ms.getD i 0)) (sD (sx hl ∅)) hn ?_ ?_
 .intro i x S2 hx k2;have hi:=(rg.1 hx).1;have hm:ms[i]? =some (ms.getD i 0):=by
   rw[rp,r9 (by rw[hp.len];exact hi)];rfl
  show W (ze f [(za 0)] [some x] S2) _;ext;exact (hp.at_ i x _ hx hm) S2
 .intro S2 k2;rw[zgC hp.len];exact k S2 k2
def zpv (fu:Nat):Kd->Int->Nat->Prop
 | .d x,n,q=>∀f,2*q+1<=f->zaN (yj fu f) x n
 | .b l,n,q=>∃ms:List Int,ms.sum=n/\∀f,2*q+1<=f->zca (yj fu f) l ms
 | .s us,n,q=>∃ms:List Int,ms.sum=n/\∀f,2*q+2<=f->zca (zX fu f) (us.map Xv.tup) ms
theorem zmD {l:List Xv} {n:Int} {q:Nat} (hl:l.length<=1000) (h:zpv fu (.b l) n q):∀f,2*q+2<=f->zaN (zX fu f) (.tup l) n:=by
 obtain⟨ms,rfl,h⟩:=h;intro f hf S;obtain⟨f,rfl⟩:∃e,f=e+1:=⟨f-1,⋯⟩;rw[XD];walk_at "wr";unfold vN;ext;refine zad hl (UG (by ext;exact⟨rfl,Kn.refl⟩)) (h f ⋯) λS' k=> ?_;ext;exact zgz (zm zQ) (Xp _) ⟨rfl,k.app⟩
theorem zpw {q:Nat} (h:q<=13):(122:Int)^q<=2^100:=by
 have:(122:Nat)^q<=2^100:=si (sJ ∅ h) ∅;exact_mod_cast this
theorem Tr.small {kd:Kd} {n:Int} {q c:Nat} {g:Bool} (h:Tr bs kd n q g c) (hg:g=true) (hc:c<=1000) (hq:q<=13):0<=n/\n<2^120:=by
 obtain⟨h1,h2⟩:=h.bd hg;have h3:=zpw hq;have h4:(c:Int)*122^q<=1000*2^100:=uf ⋯ h3 (by exact_mod_cast rS _) ∅;exact⟨h1,⋯⟩
theorem Tr.lenM {kd:Kd} {n:Int} {q c:Nat} {g:Bool} (h:Tr bs kd n q g c):g=true->c<=1000->q<=13->zpv fu kd n q:=by
 induction h with
 |nil=>exact λ_ _ _=>⟨[],rfl,λ_ _=> .nil⟩
 |nils=>exact λ_ _ _=>⟨[],rfl,λ_ _=> .nil⟩
 | @cons x r n m q p c e g h t1 t2 dW dU=>
  intro z hc hq;rw[rT] at z;have i1:=dW z.1 ⋯ ⋯;obtain⟨ms,rfl,i2⟩:=dU z.2 ⋯ ⋯;exact⟨n::ms,rfl,λf hf=> .cons (i1 f ⋯) (i2 f ⋯)⟩
 | @conss u r n m q p c e g h t1 t2 dW dU=>
  intro z hc hq;rw[rT] at z;have hl:u.length+1<=c:=t1.cnt;have i1:=zmD ⋯ (dW z.1 ⋯ ⋯);obtain⟨ms,rfl,i2⟩:=dU z.2 ⋯ ⋯;exact⟨n::ms,rfl,λf hf=> .cons (i1 f ⋯) (i2 f ⋯)⟩
 | @deed x us tk bk b g m p c nd ow t ih=>
  intro z hc hq;rw[rT] at z;have hp:p<=13:=by
   cases nd with
   |plain=>cases t;decide
   |cond=>exact tj (by simpa [uC] using hq)
   |whil=>exact tj (by simpa [uC] using hq)
   |times=>exact tj (by simpa [uC] using hq)
   |hand=>exact tj (by simpa [uC] using hq)
  obtain⟨ms,iI,i2⟩:=ih z.2 ⋯ hp;obtain⟨m0,m1⟩:=t.small z.2 ⋯ hp;have ji:us.length<=c:=t.cnt;intro f hf S;obtain⟨f,rfl⟩:∃e,f=e+1:=⟨f-1,⋯⟩;have pts:zca (zX fu f) (us.map Xv.tup) ms:=by
   cases nd with
   |plain=>
    have:=(i2 (2*p+2) (rj _)).len;obtain rfl:ms=[]:=sX.1 this;exact .nil
   |cond=>exact i2 f (by simp at hf;omega)
   |whil=>exact i2 f (by simp at hf;omega)
   |times=>exact i2 f (by simp at hf;omega)
   |hand=>exact i2 f (by simp at hf;omega)
  rw[Yy];walk_at "wr";unfold wx;ext;refine zad (by rw[rh];omega) (UG ?_) pts λS' k=> ?_
  .ext;refine (zac nd).imp ?_;rintro _ _ ⟨rfl,rfl⟩;exact⟨rfl,Kn.refl⟩
  ext;refine zgz (zm zQ) (Xp _) ?_;rw[iI];ext;have no:∀{w:Str} {r:List Xv} {S2:Sto},w≠"times"->Kn S S2->WS (sIf (bE (eOp (yk false) (eOp zM (za 0) (eC (.int 0))) (eC (.str "times")))) (zG (eOp xj (eC (.int 1)) (eOp Wq (eFn zgl [(eOp zM (za 0) (eC (.int 1))),(eC (.int 1))]) (eOp xj (eC (.int 1)) (za 1))))) zx [some (.tup (.str w::r)),some (.int m)] S2) (λρ S3=>WS (zG (eOp xj (eC (.int 1)) (za 1)) ρ S3) (λx S1=>Xv.non= .int (1+m)/\Kn S S1) (λv S'=>v= .int (1+m)/\Kn S S')) (λv S'=>v= .int (1+m)/\Kn S S'):=by
   intro w r S2 hw k2;refine zo ?_;ext;refine ye hw ⟨_,rfl,nofun,λ_=>zq ?_⟩;ext;exact⟨rfl,k2⟩
  cases nd with
  |plain h1 h2 h3 h4=>exact no h3 k.app
  |cond=>exact no ∅ k.app
  |whil=>exact no ∅ k.app
  |hand=>exact no ∅ k.app
  | @times j u=>
   have hj:0<=j/\j<=60:=by
    have:=z.1;cases ow;exact of_decide_eq_true this
   refine zo ?_;ext;refine zS ⟨_,rfl,λ_=> ?_,nofun⟩;ext;have b1:intBits (if 1>j then 1 else j)<=10:=sO.mpr (by split<;>omega)
   have b2:intBits (1+m)<=200:=sO.mpr (by
    have:(1+m).natAbs<=2^120:=by omega
    exact sx this ∅)
   refine WL ⋯ ?_;ext;refine⟨?_,k.app⟩;show Xv.int (1+_*(1+m))=Xv.int (1+(if 1<j then j else 1)*(1+m));by_cases h:1<j
   .rw[if_pos h,if_neg ⋯]
   .rw[if_neg h];by_cases h2:1>j
    .rw[if_pos h2]
    .rw[if_neg h2,show j=1 by omega]
theorem zkj {l:List Xv} {n:Int} {q c:Nat} (h:Tr bs (.b l) n q true c) (hc:c<=1000) (hq:q<=13):W (zX fu 40 [.tup l] S) λv S'=>v= .int n/\Kn S S':=by
 have hl:l.length+1<=c:=h.cnt;exact zmD ⋯ (h.lenM rfl hc hq) 40 ⋯ S
noncomputable abbrev nI (qs:List Nat):List Int:=qs.map λ(q:Nat)=>(q:Int)
theorem zcb:∀(qs:List Nat) (a:Nat),(nI qs).foldl (λa b=>if b>a then b else a) (a:Int)=((max a (qs.foldr max 0):Nat):Int)
 |[],a=>by simp[nI]
 |q::r,a=>by
  rw[nI,sj,AW,B2];by_cases h:(q:Int)>a
  .rw[if_pos h];have:=zcb r q;rw[nI] at this;rw[this]
   congr 1
   omega
  .rw[if_neg h];have:=zcb r a;rw[nI] at this;rw[this]
   congr 1
   omega
theorem zfu (qs:List Nat):zdZ 0 (nI qs)=((qs.foldr max 0:Nat):Int):=by
 unfold zdZ;cases qs with
 |nil=>rfl
 |cons q r=>
  rw[if_neg (by simp[nI])];unfold zpo;have:=zcb (q::r) q;rw[show (nI (q::r)).headD 0=(q:Int) from rfl,this,B2]
  congr 1
  omega
def zpx (fu:Nat):Kd->Nat->Prop
 | .d x,q=>∀f,2*q+1<=f->zaN (yp fu f) x q
 | .b l,q=>∃qs:List Nat,qs.foldr max 0=q/\∀f,2*q+1<=f->zca (yp fu f) l (nI qs)
 | .s us,q=>∃qs:List Nat,qs.foldr max 0=q/\∀f,2*q+2<=f->zca (yl fu f) (us.map Xv.tup) (nI qs)
theorem zmE {l:List Xv} {q:Nat} (hl:l.length<=1000) (h:zpx fu (.b l) q):∀f,2*q+2<=f->zaN (yl fu f) (.tup l) q:=by
 obtain⟨ms,rfl,h⟩:=h;intro f hf S;obtain⟨f,rfl⟩:∃e,f=e+1:=⟨f-1,⋯⟩;rw[Ww];walk_at "wr";unfold Yo;ext;refine zad hl (UG (by ext;exact⟨rfl,Kn.refl⟩)) (h f ⋯) λS' k=> ?_;ext;refine zhu (zm zQ) (Xp _) ?_;rw[zfu];exact⟨rfl,k.app⟩
theorem in4 {w:Str} {P:Xv->Sto->Prop} (k:P (.bl (!decide (w="if"\/w="while"\/w="times"\/w="hand"))) S):WO (dIn true (.str w) (.ct [.str "if",.str "while",.str "times",.str "hand"]) S) P:=by
 refine VG rfl rfl ?_;have e:(true !=Bq [Xv.str "if",Xv.str "while",Xv.str "times",Xv.str "hand"] λz=>zcx z (.str w))= !decide (w="if"\/w="while"\/w="times"\/w="hand"):=by
  show (true !=(decide (Str.ofString "if"=w)||(decide (Str.ofString "while"=w)||(decide (Str.ofString "times"=w)||(decide (Str.ofString "hand"=w)||false)))))=_;by_cases h1:w="if"
  .subst h1;simp
  .by_cases h2:w="while"
   .subst h2;simp
   .by_cases h3:w="times"
    .subst h3;simp
    .by_cases h4:w="hand"
     .subst h4;simp
     .simp[h1,h2,h3,h4,tf h1,tf h2,tf h3,tf h4]
 rw[e];exact k
theorem Tr.depM {kd:Kd} {n:Int} {q c:Nat} {g:Bool} (h:Tr bs kd n q g c):c<=1000->zpx fu kd q:=by
 induction h with
 |nil=>exact λ_=>⟨[],rfl,λ_ _=> .nil⟩
 |nils=>exact λ_=>⟨[],rfl,λ_ _=> .nil⟩
 | @cons x r n m q p c e g h t1 t2 dW dU=>
  intro hc;have i1:=dW ⋯;obtain⟨ms,rfl,i2⟩:=dU ⋯;exact⟨q::ms,rfl,λf hf=> .cons (i1 f ⋯) (i2 f ⋯)⟩
 | @conss u r n m q p c e g h t1 t2 dW dU=>
  intro hc;have hl:u.length+1<=c:=t1.cnt;have i1:=zmE ⋯ (dW ⋯);obtain⟨ms,rfl,i2⟩:=dU ⋯;exact⟨q::ms,rfl,λf hf=> .cons (i1 f ⋯) (i2 f ⋯)⟩
 | @deed x us tk bk b g m p c nd ow t ih=>
  intro hc;obtain⟨ms,iI,i2⟩:=ih ⋯;have ji:us.length<=c:=t.cnt;intro f hf S;obtain⟨f,rfl⟩:∃e,f=e+1:=⟨f-1,⋯⟩;rw[Xi];walk_at "wr";unfold ZM;have yes:∀{w:Str} {r:List Xv},x= .tup (.str w::r)->(w="if"\/w="while"\/w="times"\/w="hand")->bk=true->WS (zk (sIf (bE (eOp (dIn true) (eOp zM (za 0) (eC (.int 0))) (eC (.ct [.str "if",.str "while",.str "times",.str "hand"])))) (zG (eC (.int 0))) zx) (zG (eOp xj (eC (.int 1)) (eUn (zbT 0) (xQ [none] (iT (ze (xK fu) [(za 0)])) (gN 0) xR (ze (yl fu f) [(za 0)]))))) [some x] S) (λx S1=>Xv.non= .int ((if bk=true then 1+p else 0:Nat):Int)/\Kn S S1) (λv S'=>v= .int ((if bk=true then 1+p else 0:Nat):Int)/\Kn S S'):=by
   rintro w r rfl hw rfl;refine zh (zo ?_);ext;refine in4 ⟨_,rfl,(λz=>by rw[decide_eq_true hw] at z;cases z),λ_=>zq ?_⟩;ext;refine zad (by rw[rh];omega) (UG ?_) (i2 f (by simp at hf;omega)) λS' k=> ?_
   .ext;refine (zac nd).imp ?_;rintro _ _ ⟨rfl,rfl⟩;exact⟨rfl,Kn.refl⟩
   ext;refine zhu (zm zQ) (Xp _) ?_;rw[zfu,iI];ext;exact⟨by rw[if_pos rfl,tT];rfl,k.app⟩
  cases nd with
  | @plain w r h1 h2 h3 h4=>
   refine zh (zo ?_);ext
   refine in4 ⟨_,rfl,λ_=> ?_,(λz=>by
    rw[decide_eq_false (λq=>by rcases q with q|q|q|q<;>contradiction)] at z
    cases z)⟩
   ext;exact⟨rfl,Kn.refl⟩
  |cond=>exact yes rfl (.inl rfl) rfl
  |whil=>exact yes rfl (.inr (.inl rfl)) rfl
  |times=>exact yes rfl (.inr (.inr (.inl rfl))) rfl
  |hand=>exact yes rfl (.inr (.inr (.inr rfl))) rfl
theorem zlT {l:List Xv} {n:Int} {q c:Nat} {g:Bool} (h:Tr bs (.b l) n q g c) (hc:c<=1000) (hq:q<=15):W (yl fu 40 [.tup l] S) λv S'=>v= .int q/\Kn S S':=by
 have hl:l.length+1<=c:=h.cnt;exact zmE ⋯ (h.depM hc) 40 ⋯ S
abbrev Fl2:=List (Xv×Bool)
def dwT (f:TwF) (u:List Xv) (fl:Fl2):Prop:=∀S,W (f [.tup u] S) λv S'=>∃n,v= .ref n/\S'[n]? =some (.lst (fl.map (·.1)))/\S.length<=n/\Kn S S'
inductive zgD (f:TwF):List (List Xv)->Fl2->Prop where
 |nil:zgD f [] []
 |cons {u:List Xv} {r:List (List Xv)} {a b:Fl2}:dwT f u a->zgD f r b->zgD f (u::r) (a++b)
inductive DwL (f:TwF):List Xv->Fl2->Prop where
 |nil:DwL f [] []
 |cons {x:Xv} {r:List Xv} {us:List (List Xv)} {tk:Option Int} {bk b:Bool} {a c:Fl2}:Nd x us tk bk->zgD f us a->DwL f r c->us.length<=1000->DwL f (x::r) ((x,b)::(a++c))
structure zlU (bs:List (Str×Int)) (fl:Fl2) (g:Bool) (c:Nat):Prop where
 own:∀p∈fl,Own bs p.1 p.2
 all:fl.all (·.2)=g
 len:fl.length<=c
theorem ziz {zs:List Xv} (h:zY S y=some zs):Xu S y=some zs:=by
 cases y with
 |ref n=>exact h
 |_=>cases h
theorem zaO {P:Xv->Sto->Prop} {n:Nat} {l zs:List Xv} (h:UM S x=some (n,l)) (h2:zY S y=some zs) (hl:l.length+zs.length<=sizeLine) (k:P .non (S.set n (.lst (l++zs)))):WO (Xw x [y] S) P:= .of (by
 unfold Xw;rw[h];dsimp only
 rw[show Xu S y=some zs from ziz h2,rE,if_pos hl]) k
theorem zpy {f:Nat} {l:List Xv} {fl:Fl2} (hl:fl.length<=1000) (h:DwL (zO fu f) l fl):dwT (zO fu (f+1)) l fl:=by
 intro S;rw[Yn];walk_at "wr";unfold xZ;ext;refine vw (zdn ?_);ext;refine wG (λi ρ S3=>∃(d r:Fl2) (a2 a3:Option Xv),ρ=[some (.tup l),some (.ref S.length),a2,a3]/\d++r=fl/\DwL (zO fu f) (l.drop i) r/\S3[S.length]? =some (.lst (d.map (·.1)))/\Kn S S3) (λ_ _ _ _ _=>rfl) ?_ ?_ ?_
 .rintro i w ρ S3 hw ⟨d,r,a2,a3,rfl,ky,hD,ai,kn⟩;have hi:=(rg.1 hw).1;have hd:l.drop i=w::l.drop (i+1):=by
   rw[tD hi,(rg.1 hw).2]
  rw[hd] at hD;cases hD with
  | @cons _ _ us tk bk b a c nd hP hr ji=>
   have hlen:d.length+(1+(a.length+c.length))<=1000:=by
    have:=congrArg v5 ky;rw[rk,rl,rk] at this;omega
   refine .of rfl ?_;dsimp only[sM];ext;refine Yj ?_;ext;refine⟨⟨_,zm ai⟩,?_⟩;ext;refine xk (yN ai) (by rw[rh];exact sx (show _<=1000 by omega) ∅) ?_;ext;refine vw (zdn ?_);ext;refine (zac nd).imp ?_;rintro _ _ ⟨rfl,rfl⟩;refine⟨_,rfl,_,rfl,?_⟩;refine wG (λj ρ S4=>∃(d2 r2:Fl2) (a3:Option Xv),ρ=[some (.tup l),some (.ref S.length),some w,a3]/\d2++r2=a/\zgD (zO fu f) (us.drop j) r2/\S4[S.length]? =some (.lst ((d++(w,b)::d2).map (·.1)))/\Kn S S4) (λ_ _ _ _ _=>rfl) ?_ ?_ ?_
   .rintro j z ρ S4 hz ⟨d2,r2,a3,rfl,hJ,kJ,c4,fW⟩;rw[rq,rG] at hz;obtain⟨u,hz,rfl⟩:=hz;have hj:=(rg.1 hz).1;have hd2:us.drop j=u::us.drop (j+1):=by
     rw[tD hj,(rg.1 hz).2]
    rw[hd2] at kJ;cases kJ with
    | @cons _ _ e e2 hu pf=>
     have nW:d2.length+(e.length+e2.length)=a.length:=by
      have:=congrArg v5 hJ;rw[rk,rk] at this;omega
     refine .of rfl ?_;dsimp only[sM];ext;refine Yj ?_;ext;refine⟨⟨_,zm c4⟩,?_⟩;ext;refine (hu S4).imp ?_;rintro _ S5 ⟨n,rfl,hn,gZ,lN⟩;ext;refine zaO (yN (lN.at c4)) (zm hn) (by rw[rh,rh,rk,rl];exact sD (sx (show _<=1000 by omega) ∅)) ?_;ext;refine⟨d2++e,e2,_,rfl,by rw[sv];exact hJ,pf,?_,(fW.trans lN).set (.inr (rj _))⟩;rw[xa (lN.at c4)]
     congr 2
     simp
   .exact⟨[],a,_,rfl,rfl,hP,by rw[xa ai];simp,kn.set (.inr (rj _))⟩
   .rintro ρ S4 ⟨d2,r2,a3,rfl,hJ,kJ,c4,fW⟩;rw[rh,um] at kJ;cases kJ;rw[sT] at hJ;subst hJ;exact⟨d++(w,b)::d2,c,_,_,rfl,by rw[sv];exact ky,hr,c4,fW⟩
 .exact⟨[],fl,none,none,rfl,rfl,h,zQ,Kn.refl.app⟩
 .rintro ρ S3 ⟨d,r,a2,a3,rfl,ky,hD,ai,kn⟩;rw[um] at hD;cases hD;rw[sT] at ky;subst ky;ext;exact⟨ai,rj _,kn⟩
def Mdw (fu:Nat) (bs:List (Str×Int)):Kd->Nat->Bool->Nat->Prop
 | .d x,q,g,c=>∃(us:List (List Xv)) (tk:Option Int) (bk b:Bool) (a:Fl2),Nd x us tk bk/\us.length<=1000/\zlU bs ((x,b)::a) g c/\∀f,q<=f->zgD (zO fu f) us a
 | .b l,q,g,c=>∃fl,zlU bs fl g c/\∀f,q<=f->DwL (zO fu f) l fl
 | .s us,q,g,c=>∃fl,zlU bs fl g c/\∀f,q+1<=f->zgD (zO fu f) us fl
theorem Tr.dwM {kd:Kd} {n:Int} {q c:Nat} {g:Bool} (h:Tr bs kd n q g c):c<=1000->Mdw fu bs kd q g c:=by
 induction h with
 |nil=>exact λ_=>⟨[],⟨(λp hp=>by cases hp),rfl,rS _⟩,λ_ _=> .nil⟩
 |nils=>exact λ_=>⟨[],⟨(λp hp=>by cases hp),rfl,rS _⟩,λ_ _=> .nil⟩
 | @cons x r n m q p c e g h t1 t2 dW dU=>
  intro hc;obtain⟨us,tk,bk,b,a,nd,ji,ok,i1⟩:=dW ⋯;obtain⟨fl,jc,i2⟩:=dU ⋯;refine⟨(x,b)::(a++fl),⟨λz hz=> ?_,?_,?_⟩,λf hf=> .cons nd (i1 f ⋯) (i2 f ⋯) ji⟩
  .rw[<-sR,sA] at hz;exact hz.elim (ok.own z) (jc.own z)
  .rw[<-sR,A5,ok.all,jc.all]
  .have:=ok.len;have:=jc.len;rw[<-sR,rk];omega
 | @conss u r n m q p c e g h t1 t2 dW dU=>
  intro hc;obtain⟨a,ok,i1⟩:=dW ⋯;obtain⟨fl,jc,i2⟩:=dU ⋯;refine⟨a++fl,⟨λz hz=> ?_,?_,?_⟩,λf hf=> ?_⟩
  .rw[sA] at hz;exact hz.elim (ok.own z) (jc.own z)
  .rw[A5,ok.all,jc.all]
  .have:=ok.len;have:=jc.len;rw[rk];omega
  .obtain⟨f,rfl⟩:∃e,f=e+1:=⟨f-1,⋯⟩;exact .cons (zpy (by have:=ok.len;omega) (i1 f ⋯)) (i2 _ ⋯)
 | @deed x us tk bk b g m p c nd ow t ih=>
  intro hc;obtain⟨fl,ok,i⟩:=ih ⋯;have ji:us.length<=c:=t.cnt;refine⟨us,tk,bk,b,fl,nd,⋯,⟨λz hz=> ?_,?_,?_⟩,λf hf=> ?_⟩
  .rw[rX] at hz;rcases hz with rfl|hz
   .exact ow
   .exact ok.own z hz
  .rw[tH,ok.all]
  .have:=ok.len;rw[rl];omega
  .cases nd with
   |plain=>
    cases i (p+1) (rj _);exact .nil
   |cond=>exact i f (by simp at hf;omega)
   |whil=>exact i f (by simp at hf;omega)
   |times=>exact i f (by simp at hf;omega)
   |hand=>exact i f (by simp at hf;omega)
theorem zkk {l:List Xv} {n:Int} {q c:Nat} {g:Bool} (h:Tr bs (.b l) n q g c) (hc:c<=1000) (hq:q<=15):∃fl,zlU bs fl g c/\∀S,W (zO fu 20 [.tup l] S) λv S'=>∃n,v= .ref n/\S'[n]? =some (.lst (fl.map (·.1)))/\S.length<=n/\Kn S S':=by
 obtain⟨fl,ok,i⟩:=h.dwM (fu:=fu) hc;exact⟨fl,ok,zpy (f:=19) (by have:=ok.len;omega) (i 19 ⋯)⟩
noncomputable def ABC:Str:="abcdefghijklmnopqrstuvwxyz"
noncomputable def nmF (z:Str):Bool:=decide (1<=z.length/\z.length<=8)&&z.cps.toList.all λc=>inS ⟨#[c]⟩ ABC
def asc (z:Str):Prop:=z.cps.all (· <128)=true
theorem zn9:∀n:Fin 26,inS ⟨#[97+n.1]⟩ ABC=true:=by decide+kernel
theorem AZ.asc {z:Str} (h:AZ z):asc z:=by
 unfold Prf.asc;rw[uP];intro c hc;have:=h c (by simpa using hc);simp;omega
theorem AZ.nm {z:Str} (h:AZ z) (h1:1<=z.length) (h8:z.length<=8):nmF z=true:=by
 unfold nmF;rw[decide_eq_true ⟨h1,h8⟩,tI,sr];intro c hc;obtain⟨a,b⟩:=h c hc;obtain⟨n,rfl⟩:∃n,c=97+n:=⟨c-97,⋯⟩;exact zn9 ⟨n,⋯⟩
theorem zfv {z:Str} (ha:asc z) (hl:z.length<=100):W (Xh fu [.str z] S) λv S'=>v= .bl (nmF z)/\Kn S S':=by
 walk_at "wr";unfold Vc;refine YZ (Tp ?_);refine Ts ?_;ext;refine zbk (yU hl) ?_;ext;refine⟨λh=> ?_,λh=> ?_⟩
 .have h:(1:Int)<=z.length:=of_decide_eq_true h;ext;refine⟨λh2=> ?_,λh2=> ?_⟩
  .have h2:(z.length:Int)<=8:=of_decide_eq_true h2;ext;walk_at "wr";unfold wT;refine YZ ?_;refine Wy (xs:=vx z) (p:=λi=>inS ⟨#[z.cps.toList.getD i 0]⟩ ABC) ?_ ?_ ?_ ?_
   .unfold vx;rw[rh,Zi];exact yU hl
   .refine zmx ?_;ext;exact⟨ha,λ_ _=>rfl,Kn.refl⟩
   .intro i w S2 hw k2;unfold vx at hw;rw[rq,rG] at hw;obtain⟨c,e,rfl⟩:=hw;show W (eOp ziu (za 0) (za 1) [some (.str ⟨#[c]⟩),some (.str ABC)] S2) _;ext;refine zj6 ?_;rw[rp,e];exact⟨rfl,Kn.refl⟩
   .intro S2 k2;have e:(vx z).length=z.cps.toList.length:=by unfold vx;rw[rh]
    rw[e,vE (q:=λc=>inS ⟨#[c]⟩ ABC) (λi a h=>by rw[rp,h];rfl)];refine⟨?_,k2⟩;unfold nmF;rw[decide_eq_true (show 1<=z.length/\z.length<=8 from ⟨⋯,⋯⟩),tI]
  .have h2:¬(z.length:Int)<=8:=of_decide_eq_false h2;refine⟨?_,Kn.refl⟩;unfold nmF;rw[decide_eq_false ⋯,tu]
 .have h:¬(1:Int)<=z.length:=of_decide_eq_false h;refine⟨_,rfl,nofun,λ_=>⟨?_,Kn.refl⟩⟩;unfold nmF;rw[decide_eq_false ⋯,tu]
theorem zfw:∀(xs acc:List Str),(Yk acc xs).length=acc.length+xs.length↔xs.Nodup/\∀x∈xs,x∉acc
 |[],acc=>by simp[Yk]
 |x::r,acc=>by
  show (Yk (if x∈acc then acc else acc++[x]) r).length=acc.length+(r.length+1)↔_;by_cases h:x∈acc
  .rw[if_pos h];have:=zbS r acc;constructor
   .intro e;omega
   .intro e;exact absurd h (e.2 x (rM ..))
  .rw[if_neg h];have ih:=zfw r (acc++[x]);rw[rk,rC] at ih;rw[show acc.length+(r.length+1)=acc.length+1+r.length by omega,ih,u9];constructor
   .rintro⟨h1,h2⟩;refine⟨⟨λhx=>(h2 x hx) (by simp),h1⟩,λy hy=> ?_⟩;rcases rX.1 hy with rfl|hy
    .exact h
    .exact λz=>h2 y hy (by simp[z])
   .rintro⟨⟨h1,h2⟩,h3⟩;refine⟨h2,λy hy z=> ?_⟩;rcases sA.1 z with z|z
    .exact h3 y (rF _ hy) z
    .rw[sG] at z;subst z;exact h1 hy
theorem Wz:∀xs:List Str,L2.Tz (xs.map Xv.str)=some xs
 |[]=>rfl
 |b::r=>by rw[sj];simp[L2.Tz,Wz r]
noncomputable def szF (bs:List (Str×Int)):Bool:=bs.all λb=>decide (1<=b.2/\b.2<=9)
noncomputable def bxF (bs:List (Str×Int)):Bool:=decide (bs.length<=9/\(bs.map (·.1)).Nodup)&&((bs.all λb=>nmF b.1)&&(szF bs&&decide (wj bs<=1000)))
theorem zhC:∀{l:List (Str×Int)},szF l=true->1<=wj l/\wj l<=9^l.length
 |[],_=>⟨∅,∅⟩
 |b::r,h=>by
  unfold szF at h;rw[tH,rT] at h;obtain⟨a1,a2⟩:=zhC (l:=r) h.2;have hb:=of_decide_eq_true h.1;have e:(9:Int)^(b::r).length=9*9^r.length:=by rw[rl,Au,uV]
  show 1<=b.2*wj r/\b.2*wj r<=_;rw[e];exact⟨by have:=uf hb.1 a1 ⋯ ⋯;omega,uf hb.2 a2 ⋯ ⋯⟩
theorem zgE (hl:bs.length<=20) (ha:∀b∈bs,asc b.1/\b.1.length<=100):W (Vd fu [.tup (bs.map yK)] S) λv S'=>v= .bl (bxF bs)/\Kn S S':=by
 walk_at "wr";unfold YL;ext;refine Xo (xs:=bs.map yK) (f:=λi=> .str ((bs.getD i ("",0)).1)) (by rw[rh];exact yU ⋯) (UG (by ext;exact⟨rfl,Kn.refl⟩)) ?_ ?_
 .intro i w S2 hw k2;rw[rq,rG] at hw;obtain⟨b,e,rfl⟩:=hw;unfold yK;ext;rw[rp,e];exact⟨rfl,Kn.refl⟩
 intro S2 k2;have qp:(rY (bs.map yK).length).map (λi=>Xv.str ((bs.getD i ("",0)).1))=(bs.map (·.1)).map Xv.str:=by
  refine y3 λi=> ?_;by_cases hi:i<bs.length
  .rw[rq,tZ (by rw[rh];exact hi),rq,rq,r9 hi];show some (Xv.str _)=some (Xv.str _);rw[rp,r9 hi];rfl
  .rw[sy (by simp;omega),sy (by simp;omega)]
 rw[qp];have ai:(S2++[Ce.lst ((bs.map (·.1)).map Xv.str)])[S2.length]? =some (.lst ((bs.map (·.1)).map Xv.str)):=zQ;generalize jF:S2++[Ce.lst ((bs.map (·.1)).map Xv.str)]=S3 at ai ⊢;have k3:Kn S S3:=by rw[<-jF];exact k2.app
 ext;have iC:((bs.map (·.1)).map Xv.str).length=bs.length:=by rw[rh,rh]
 refine zo (xX ?_);ext;refine xw (zm ai) ?_;ext;rw[iC];refine⟨λh=> ?_,λh=> ?_⟩
 .have h:¬bs.length<=9:=by
   have:(bs.length:Int)>9:=of_decide_eq_true h;omega
  refine⟨λ_=> ?_,nofun⟩;ext;refine⟨?_,k3⟩;unfold bxF;rw[decide_eq_false (λz=>h z.1),tu]
 have h9:bs.length<=9:=by
  have:¬(bs.length:Int)>9:=of_decide_eq_false h;omega
 ext;refine zix (zm ai) (Wz _) (by rw[rh];omega) ?_;ext;refine xw (zm ai) ?_;ext;rw[iC];have jw:=zfw (bs.map (·.1)) [];rw[rh,A4,y9] at jw;refine⟨λh2=> ?_,λh2=> ?_⟩
 .have h2:(Yk [] (bs.map (·.1))).length≠bs.length:=by
   intro z;rw[z] at h2;simp at h2
  ext;refine⟨?_,k3⟩;unfold bxF;rw[decide_eq_false (λz=>h2 (jw.2 ⟨z.2,λx _=>by simp⟩)),tu]
 have mx:(bs.map (·.1)).Nodup:=by
  refine (jw.1 ?_).1;have:((Yk [] (bs.map (·.1))).length:Int)=bs.length:=by simpa using h2
  omega
 have e1:decide (bs.length<=9/\(bs.map (·.1)).Nodup)=true:=decide_eq_true ⟨h9,mx⟩;refine zq ?_;refine zh (zo (Zv (Zn ?_)));refine Wy (xs:=(bs.map (·.1)).map Xv.str) (p:=λi=>nmF (bs.getD i ("",0)).1) (by rw[iC];exact yU ⋯) (zkh (n:=S2.length) (by ext;exact⟨rfl,zm ai,Kn.refl⟩)) ?_ ?_
 .intro i w S4 hw k4;rw[rq,rq,B7,rG] at hw;obtain⟨b,e,rfl⟩:=hw;obtain⟨b1,b2⟩:=ha b (rV e);show W (ze (Xh fu) [(za 0)] [some (.str b.1)] S4) _;ext;refine (zfv b1 b2).imp ?_;rintro _ S5 ⟨rfl,k5⟩;rw[rp,e];exact⟨rfl,k5⟩
 intro S4 k4;rw[iC,vE (q:=λb=>nmF b.1) (λi a h=>by rw[rp,h];rfl)];refine⟨_,rfl,λh3=> ?_,λh3=> ?_⟩
 .ext;refine⟨?_,k3.trans k4⟩;unfold bxF;rw[e1,show (bs.all λb=>nmF b.1)=false by simpa using h3];rfl
 have e2:(bs.all λb=>nmF b.1)=true:=by simpa using h3
 refine zq ?_;ext;refine vw (zdn ?_);ext;refine wG (λi ρ S5=>∃a3 a4:Option Xv,ρ=[some (.tup (bs.map yK)),some (.ref S2.length),some (.int (wj (bs.take i))),a3,a4]/\szF (bs.take i)=true/\S5=S4) (λ_ _ _ _ _=>rfl) ?_ ?_ ?_
 .rintro i w ρ S5 hw ⟨a3,a4,rfl,hz,rfl⟩;rw[rq,rG] at hw;obtain⟨b,e,rfl⟩:=hw;have hi:=(rg.1 e).1;have htk:bs.take (i+1)=bs.take i++[b]:=by
   rw[sd hi,(rg.1 e).2]
  refine .of rfl ?_;dsimp only[sM];ext;refine zo (Zv (Zn ?_));ext;refine zaa.imp ?_;rintro _ _ ⟨rfl,rfl⟩;refine⟨_,rfl,λh4=> ?_,λh4=> ?_⟩
  .ext;refine⟨?_,k3.trans k4⟩;have h4:decide (1<=b.2/\b.2<=9)=false:=by
    cases hh:decide (1<=b.2/\b.2<=9) with
    |false=>rfl
    |true=>rw[hh] at h4;cases h4
   have:szF bs=false:=by
    unfold szF;rw[AA];exact⟨b,rV e,by rw[h4];decide⟩
   unfold bxF;rw[e1,e2,this];rfl
  .have h4:decide (1<=b.2/\b.2<=9)=true:=by simpa using h4
   have hb:=of_decide_eq_true h4;obtain⟨p1,p2⟩:=zhC hz;have pM:(bs.take i).length<=9:=by rw[sL];omega
   have p3:(9:Int)^(bs.take i).length<=9^9:=by exact_mod_cast sJ ∅ pM
   refine zq ?_;ext
   refine WL (by
    have:intBits (wj (bs.take i))<=40:=sO.mpr ⋯;have:intBits b.2<=40:=sO.mpr ⋯
    omega) ?_
   ext;refine⟨some (.str b.1),some (.int b.2),?_,?_,rfl⟩
   .rw[htk,Xn]
   .unfold szF at hz ⊢;rw[htk,A5,hz,tI,tH,h4];rfl
 .exact⟨none,none,rfl,rfl,rfl⟩
 .rintro ρ S5 ⟨a3,a4,rfl,hz,rfl⟩;rw[rh,sF] at hz ⊢;ext;refine⟨?_,k3.trans k4⟩;unfold bxF;rw[e1,e2,hz];rfl
theorem zhD:∀bs:List (Str×Int),zfb (bs.map yK)=some (szX bs)
 |[]=>rfl
 |b::r=>by
  rw[sj];show (zfb (r.map yK)).map _=_;rw[zhD r];rfl
theorem zkl {l:List Xv} {n:Int} {q c:Nat} {g:Bool} (hl:bs.length<=20) (ha:∀b∈bs,asc b.1/\b.1.length<=100) (hb:bxF bs=true) (h:Tr bs (.b l) n q g c) (hc:c<=1000) (hq:q<=15):
  W (Wb fu [.tup [.tup (bs.map yK),.tup l]] S) λv S'=>v= .bl (g&&(decide (q<=12)&&decide (n<=100)))/\Kn S S':=by
 have mx:(bs.map (·.1)).Nodup:=by
  unfold bxF at hb;rw[rT] at hb;exact (of_decide_eq_true hb.1).2
 walk_at "wr";unfold ZN;ext;refine zo (Zv (Zn ?_));ext;refine (zgE hl ha).imp ?_;rintro _ S2 ⟨rfl,k2⟩;rw[hb];refine⟨_,rfl,nofun,λ_=>zq ?_⟩;ext;refine zj8 (zhD bs) ?_ ?_
 .unfold szX;rw[t8];have:(bs.map ((λx=>x.1) ∘ λb=>((uc b.1:Key),Xv.int b.2)))=(bs.map (·.1)).map uc:=by rw[t8];rfl
  rw[this];exact Bv uc (λa b e z=>e (AF z)) mx
 have hd:(S2++[Ce.dk (szX bs)])[S2.length]? =some (.dk (szX bs)):=zQ;generalize jF:S2++[Ce.dk (szX bs)]=S3 at hd ⊢;have k3:Kn S S3:=by rw[<-jF];exact k2.app
 ext;obtain⟨fl,ok,hw⟩:=zkk (fu:=fu) h hc hq;refine zo (Zv (Zn ?_));have me:W (iL (ze (zO fu 20) [(za 2)]) [some (.tup [.tup (bs.map yK),.tup l]),some (.tup (bs.map yK)),some (.tup l),some (.ref S2.length)] S3) λget S1=>(∀S',Kn S1 S'->get S'=some (fl.map (·.1)))/\Kn S3 S1:=by
  refine zjN ?_;ext;refine (hw S3).imp ?_;rintro _ S4 ⟨m,rfl,hm,_,k4⟩;exact⟨_,zm hm,λS' k'=>Kn.lst k' (zm hm),k4⟩
 refine Wy (xs:=fl.map (·.1)) (p:=λi=>(fl.getD i (.non,false)).2) (by rw[rh];have:=ok.len;exact sD (sx (show _<=1000 by omega) ∅)) me ?_ ?_
 .intro i w S4 hw k4;rw[rq,rG] at hw;obtain⟨p,e,rfl⟩:=hw;show W (ze (vS fu) [(za 1),(za 0)] [some p.1,some (.ref S2.length)] S4) _;ext;refine (zgB (k4.at hd) (ok.own p (rV e))).imp ?_;rintro _ S5 ⟨rfl,k5⟩;rw[rp,e];exact⟨rfl,k5⟩
 intro S4 k4;rw[rh,vE (q:=λp=>p.2) (λi a h=>by rw[rp,h];rfl),ok.all];refine⟨_,rfl,λh3=> ?_,λh3=> ?_⟩
 .ext;exact⟨by rw[show g=false by simpa using h3];rfl,k3.trans k4⟩
 have hg:g=true:=by simpa using h3
 subst hg;refine zq ?_;refine YZ (Tp ?_);ext;refine (zlT h hc hq).imp ?_;rintro _ S5 ⟨rfl,k5⟩;ext;refine⟨λh4=> ?_,λh4=> ?_⟩
 .have h4:q<=12:=by
   have:(q:Int)<=12:=of_decide_eq_true h4;omega
  ext;refine (zkj h hc ⋯).imp ?_;rintro _ S6 ⟨rfl,k6⟩;ext;exact⟨by rw[decide_eq_true h4];rfl,(k3.trans k4).trans (k5.trans k6)⟩
 .have h4:¬q<=12:=by
   have:¬(q:Int)<=12:=of_decide_eq_false h4;omega
  exact⟨by rw[decide_eq_false h4];rfl,(k3.trans k4).trans k5⟩
theorem zlV {us:List (List Xv)} {tk:Option Int} {bk:Bool} (h:Nd x us tk bk):W (ZV fu [x] S) λv S'=>∃n,v= .ref n/\S'[n]? =some (.lst (us.map Xv.tup))/\S.length<=n/\Kn S S':=by
 walk_at "wr";unfold ZU;have no:∀{w v:Str} {r:List Xv} {a:TwS} {N:Rho->Sto->Prop} {R:Xv->Sto->Prop},w≠v->N [some (.tup (.str w::r))] S->WS (sIf (bE (eOp (yk false) (eOp zM (za 0) (eC (.int 0))) (eC (.str v)))) a zx [some (.tup (.str w::r))] S) N R:=by
  intro w v r a N R h k;refine zo ?_;ext;exact ye h ⟨_,rfl,nofun,λ_=>zq k⟩
 have jV:∀{w:Str} {r:List Xv} {a:TwS} {N:Rho->Sto->Prop} {R:Xv->Sto->Prop},w≠"while"->w≠"times"->N [some (.tup (.str w::r))] S->WS (sIf (bOr (bE (eOp (yk false) (eOp zM (za 0) (eC (.int 0))) (eC (.str "while")))) (bE (eOp (yk false) (eOp zM (za 0) (eC (.int 0))) (eC (.str "times"))))) a zx [some (.tup (.str w::r))] S) N R:=by
  intro w r a N R h h2 k;refine zo (xX ?_);ext;refine ye h ⟨_,rfl,nofun,λ_=> ?_⟩;ext;exact ye h2 ⟨_,rfl,nofun,λ_=>zq k⟩
 cases h with
 |plain h1 h2 h3 h4=>
  refine zh (no h1 (zh (jV h2 h3 (zh (no h4 ?_)))));ext;exact⟨zQ,rj _,Kn.refl.app⟩
 |cond=>
  refine zh (zo ?_);ext;refine zS ⟨_,rfl,λ_=> ?_,nofun⟩;ext;refine xn rfl rfl ?_;ext;refine xn rfl rfl ?_;ext;exact⟨zQ,rj _,Kn.refl.app⟩
 |whil=>
  refine zh (no ∅ (zh (zo (xX ?_))));ext;refine zS ⟨_,rfl,λ_=>⟨λ_=> ?_,nofun⟩,nofun⟩;ext;refine xn rfl rfl ?_;ext;exact⟨zQ,rj _,Kn.refl.app⟩
 |times=>
  refine zh (no ∅ (zh (zo (xX ?_))));ext;refine ye ∅ ⟨_,rfl,nofun,λ_=> ?_⟩;ext;refine zS ⟨_,rfl,λ_=> ?_,nofun⟩;ext;refine xn rfl rfl ?_;ext;exact⟨zQ,rj _,Kn.refl.app⟩
 | @hand us=>
  refine zh (no ∅ (zh (jV ∅ ∅ (zh (zo ?_)))));ext;refine zS ⟨_,rfl,λ_=> ?_,nofun⟩;ext;refine WO.of (show zhi [.tup (us.map Xv.tup)] S=some (.ref S.length,S++[.lst (us.map Xv.tup)]) from rfl) ?_;exact⟨_,rfl,zQ,rj _,Kn.refl.app⟩
structure Sk where
 x:Xv
 l:List Xv
 t:Int
 n:Int
 q:Nat
 c:Nat
noncomputable def Sk.v (e:Sk):Xv:= .tup [e.x,.int e.t]
structure Uv (bs:List (Str×Int)) (sn:Nat) (S:Sto) (e:Sk):Prop where
 at_:e.x= .tup e.l\/∃m,e.x= .ref m/\m<sn/\S[m]? =some (.lst e.l)
 tr:Tr bs (.b e.l) e.n e.q true e.c
 q:e.q<=13
 t1:1<=e.t
 t2:e.t<=60^(13-e.q)
theorem Uv.keep {sn:Nat} {e:Sk} (h:Uv bs sn S e) (k:Kp (· =sn) S S'):Uv bs sn S' e:=⟨by
 rcases h.at_ with h|⟨m,h1,h2,h3⟩
 .exact .inl h
 .exact .inr ⟨m,h1,h2,k.2 _ _ h3 ⋯⟩,h.tr,h.q,h.t1,h.t2⟩
noncomputable def Yq:List Sk->Int
 |[]=>0
 |e::r=>e.t*e.n+Yq r
noncomputable def Zk:List Sk->Nat
 |[]=>0
 |e::r=>e.c+Zk r
theorem zcc:∀a b:List Sk,Yq (a++b)=Yq a+Yq b
 |[],b=>by simp[Yq]
 |e::r,b=>by simp only[sR,Yq,zcc r b];omega
theorem zcd:∀a b:List Sk,Zk (a++b)=Zk a+Zk b
 |[],b=>by simp[Zk]
 |e::r,b=>by simp only[sR,Zk,zcd r b];omega
theorem zfx {sn:Nat}:∀{l:List Sk},(∀e∈l,Uv bs sn S e)->l.length<=Zk l
 |[],_=>rj _
 |e::r,h=>by
  have:=zfx (l:=r) λz hz=>h z (rF _ hz);have:e.l.length+1<=e.c:=(h e (rM ..)).tr.cnt;simp only[rl,Zk];omega
noncomputable def zlW (fu:Nat):TwS:=(Wp (iL (ze (ZV fu) [(za 5)])) (gN 7) (yJ (eMt yg (za 2) [(yn [(za 7),(za 6)])])))
noncomputable def zkm (fu:Nat):TwS:=(zk (zF (eOp xj (za 1) (za 4)) (gN 1)) (zk (zF (za 4) (gN 6)) (zk (sIf (bE (eOp (yk false) (eOp zM (za 5) (eC (.int 0))) (eC (.str "times")))) (zk (zF (eOp Wq (za 4) (eFn zgl [(eC (.int 1)),(eOp zM (za 5) (eC (.int 1)))])) (gN 6)) (zF (eOp xj (za 1) (za 6)) (gN 1))) zx) (zlW fu))))
noncomputable def zoa (fu:Nat):TwS:=(zk (zF (eMt zih (za 2) []) (gT 2 (yA (gN 3) (yA (gN 4) Yg)))) (Wp (iA (za 3)) (gN 5) (zkm fu)))
theorem zlX:Zg fu=(zk (zF (eC (.int 0)) (gN 1)) (zk (zF (wv [(yn [(za 0),(eC (.int 1))])]) (gN 2)) (zk (sWh fu (bE (eOp dGt (eFn ww [(za 2)]) (eC (.int 0)))) (zoa fu)) (zG (za 1))))):=rfl
theorem zdu {T0:Sto} {v0 v3:Xv} {t w len:Int} {sn p c:Nat} {m:Int} {us:List (List Xv)} {tk:Option Int} {bk:Bool} {st:List Sk} {a7:Option Xv} {N:Rho->Sto->Prop} {R:Xv->Sto->Prop} (nd:Nd x us tk bk) (tr:Tr bs (.s us) m p true c) (hp:p<=13) (m6:1<=w) (nP:w<=60^(13-p))
  (fM:∀e∈st,Uv bs sn S e) (hc:Zk st+c<=1000) (ai:S[sn]? =some (.lst (st.map Sk.v))) (hT:T0.length<=sn) (kT:Kn T0 S)
  (k:∀(S2:Sto) (cG:List Sk) a7,(∀e∈cG,Uv bs sn S2 e)->Zk cG=Zk st+c->Yq cG=Yq st+w*m->S2[sn]? =some (.lst (cG.map Sk.v))->Kn T0 S2->Kp (· =sn) S S2->N [some v0,some (.int len),some (.ref sn),some v3,some (.int t),some x,some (.int w),a7] S2):
  WS (zlW fu [some v0,some (.int len),some (.ref sn),some v3,some (.int t),some x,some (.int w),a7] S) N R:=by
 unfold zlW;refine vw (zjN ?_);ext;refine (zlV nd).imp ?_;rintro _ S1 ⟨n,rfl,hn,gZ,k1⟩;have qI:sn<S.length:=(rg.1 ai).1;refine⟨_,zm hn,_,zm hn,?_⟩;have nz:Kp (· =sn) S S1:=k1.mono (λ_ z=>z.elim);refine wG (λi ρ S2=>∃(cG:List Sk) (m':Int) (p' c':Nat) (a7:Option Xv),ρ=[some v0,some (.int len),some (.ref sn),some v3,some (.int t),some x,some (.int w),a7]/\Tr bs (.s (us.drop i)) m' p' true c'/\p'<=p/\(∀e∈cG,Uv bs sn S2 e)/\Zk cG+c'=Zk st+c/\Yq cG+w*m'=Yq st+w*m/\S2[sn]? =some (.lst (cG.map Sk.v))/\S2[n]? =some (.lst (us.map Xv.tup))/\Kn T0 S2/\Kp (· =sn) S S2) ?_ ?_ ?_ ?_
 .rintro i ρ S2 _ ⟨_,_,_,_,_,_,_,_,_,_,_,_,h,_⟩;exact zm h
 .rintro i z ρ S2 hz ⟨cG,m',p',c',a7,rfl,gi,iG,g8,gb,iU,c4,gf,ie,jJ⟩;rw[rq,rG] at hz;obtain⟨u,hz,rfl⟩:=hz;have hi:=(rg.1 hz).1;rw[tD hi,(rg.1 hz).2] at gi;generalize hg:(true:Bool)=gg at gi;cases gi with
  | @conss _ _ n1 m1 q1 p1 c1 e1 g1 g2 t1 t2=>
   have pW:g1=true/\g2=true:=by
    cases g1<;>cases g2<;>first|exact⟨rfl,rfl⟩|cases hg
   obtain⟨rfl,rfl⟩:=pW;have iX:=zfx g8;refine .of rfl ?_;dsimp only[sM];ext;refine Yj ?_;ext;refine⟨⟨_,zm c4⟩,?_⟩;ext;refine xk (yN c4) (by rw[rh];exact sx (show _<=1000 by omega) ∅) ?_;ext;have kp:Kp (· =sn) S2 (S2.set sn (.lst (cG.map Sk.v++[.tup [.tup u,.int w]]))):=(Kp.refl _).set (.inl rfl);have qK:q1<=p:=by omega
   have pj:(60:Int)^(13-p)<=60^(13-q1):=by exact_mod_cast sJ ∅ ⋯
   refine⟨cG++[⟨.tup u,u,w,n1,q1,c1⟩],m1,p1,e1,_,rfl,t2,⋯,?_,?_,?_,?_,zgy gf ⋯,ie.set (.inr hT),jJ.trans kp⟩
   .intro e he;rw[sA,sG] at he;rcases he with he|rfl
    .exact (g8 e he).keep kp
    .exact⟨.inl rfl,t1,by show q1<=13;omega,m6,by show w<=60^(13-q1);omega⟩
   .rw[zcd];simp only[Zk];omega
   .rw[zcc];simp only[Yq];rw[uL] at iU;omega
   .rw[xa c4,rW];rfl
 .exact⟨st,m,p,c,_,rfl,tr,rj _,λe he=>(fM e he).keep nz,rfl,rfl,k1.at ai,hn,kT.trans k1,nz⟩
 .rintro ρ S2 ⟨cG,m',p',c',a7,rfl,gi,iG,g8,gb,iU,c4,gf,ie,jJ⟩;rw[rh,um] at gi;generalize hg:(true:Bool)=gg at gi;cases gi;exact k S2 cG a7 g8 ⋯ ⋯ c4 ie jJ
theorem zaP {a b:Bool} (h:(true:Bool)=(a&&b)):a=true/\b=true:=by cases a<;>cases b<;>first|exact⟨rfl,rfl⟩|cases h
theorem zob {t:Int} {q:Nat} (h1:1<=t) (h2:t<=60^(13-q)):intBits t<=100:=sO.mpr (by
 have h3:(60:Int)^(13-q)<=60^13:=by exact_mod_cast sJ ∅ ⋯
 have h4:(60:Int)^13<2^90:=by decide
 have h5:t.natAbs<2^90:=by omega
 exact rZ h5 ∅)
theorem zkn {T0:Sto} {v0 v3:Xv} {t len:Int} {sn q c:Nat} {n:Int} {st:List Sk} {a6 a7:Option Xv} {N:Rho->Sto->Prop} {R:Xv->Sto->Prop} (tr:Tr bs (.d x) n q true c) (hq:q<=13) (jZ:1<=t) (iU:t<=60^(13-q))
  (fM:∀e∈st,Uv bs sn S e) (hc:Zk st+c<=1000) (ai:S[sn]? =some (.lst (st.map Sk.v))) (hT:T0.length<=sn) (kT:Kn T0 S)
  (k:∀(S2:Sto) (cG:List Sk) (len2:Int) a6 a7,(∀e∈cG,Uv bs sn S2 e)->Zk cG+1<=Zk st+c->len2+Yq cG=len+Yq st+t*n->S2[sn]? =some (.lst (cG.map Sk.v))->Kn T0 S2->Kp (· =sn) S S2->N [some v0,some (.int len2),some (.ref sn),some v3,some (.int t),some x,a6,a7] S2):
  WS (zkm fu [some v0,some (.int len),some (.ref sn),some v3,some (.int t),some x,a6,a7] S) N R:=by
 generalize hg:(true:Bool)=gg at tr;cases tr with
 | @deed _ us tk bk b g m p c nd ow tr=>
  obtain⟨rfl,rfl⟩:=zaP hg;have jK:bk=true->p<=12/\(60:Int)*60^(13-(if bk=true then 1+p else 0))=60^(13-p):=by
   rintro rfl;rw[if_pos rfl] at hq ⊢;refine⟨⋯,?_⟩;rw[show 13-p=(13-(1+p))+1 by omega,Au,uV]
  have kg:p<=13:=by
   cases nd with
   |plain=>cases tr;decide
   |cond=>exact tj (uo (jK rfl).1)
   |whil=>exact tj (uo (jK rfl).1)
   |times=>exact tj (uo (jK rfl).1)
   |hand=>exact tj (uo (jK rfl).1)
  have la:t<=60^(13-p):=by
   have le:bk=true->t<=60^(13-p):=by
    intro e;have h:=(jK e).2;have:0<=(60:Int)^(13-(if bk=true then 1+p else 0)):=by exact_mod_cast rS _
    omega
   cases nd with
   |plain=>cases tr;exact iU
   |cond=>exact le rfl
   |whil=>exact le rfl
   |times=>exact le rfl
   |hand=>exact le rfl
  unfold zkm;have plain:∀{w:Str} {r:List Xv},x= .tup (.str w::r)->w≠"times"->tk=none->WS (zk (zF (eOp xj (za 1) (za 4)) (gN 1)) (zk (zF (za 4) (gN 6)) (zk (sIf (bE (eOp (yk false) (eOp zM (za 5) (eC (.int 0))) (eC (.str "times")))) (zk (zF (eOp Wq (za 4) (eFn zgl [(eC (.int 1)),(eOp zM (za 5) (eC (.int 1)))])) (gN 6)) (zF (eOp xj (za 1) (za 6)) (gN 1))) zx) (zlW fu))) [some v0,some (.int len),some (.ref sn),some v3,some (.int t),some x,a6,a7] S) N R:=by
   rintro w r rfl hw rfl;ext;refine zo ?_;ext;refine ye hw ⟨_,rfl,nofun,λ_=>zq ?_⟩;refine zdu nd tr kg jZ la fM ⋯ ai hT kT ?_;intro S2 cG a7 h1 h2 h3 h4 h5 h6;refine k S2 cG _ _ _ h1 ⋯ ?_ h4 h5 h6;show len+t+Yq cG=len+Yq st+t*(1+m);rw[h3,uL];omega
  cases nd with
  |plain n1 n2 n3 n4=>exact plain rfl n3 rfl
  |cond=>exact plain rfl ∅ rfl
  |whil=>exact plain rfl ∅ rfl
  |hand=>exact plain rfl ∅ rfl
  | @times j u=>
   have hj:0<=j/\j<=60:=by
    generalize hh:(true:Bool)=b2 at ow;cases ow;exact of_decide_eq_true hh.symm
   have hb:=zob jZ la;ext;refine zo ?_;ext;refine zS ⟨_,rfl,λ_=> ?_,nofun⟩;ext;have ej:(if j>1 then j else 1)=(if 1<j then j else 1):=rfl;have j1:1<=(if 1<j then j else 1)/\(if 1<j then j else 1)<=60:=by split<;>omega
   refine WL (by
    have:intBits (if j>1 then j else 1)<=10:=sO.mpr (by rw[ej];omega)
    omega) ?_
   ext;rw[ej];have jY:zmC (some j) m=(if 1<j then j else 1)*(1+m):=rfl;rw[jY] at k;generalize (if 1<j then j else 1)=jj at j1 k ⊢;have m6:1<=t*jj:=by
    have:=uf jZ j1.1 ⋯ ⋯;omega
   have nP:t*jj<=60^(13-p):=by
    have h1:=(jK rfl).2;have h2:t*jj<=60^(13-(if true=true then 1+p else 0))*60:=uf iU j1.2 ⋯ (by exact_mod_cast rS _);rw[uV _ 60,h1] at h2;exact h2
   refine zdu .times tr kg m6 nP fM ⋯ ai hT kT ?_;intro S2 cG a7 h1 h2 h3 h4 h5 h6;refine k S2 cG _ _ _ h1 ⋯ ?_ h4 h5 h6;rw[h3,uL,uL jj,AG,uL,AG,<-x8];omega
theorem ziA {T0:Sto} {v0:Xv} {len:Int} {sn:Nat} {e:Sk} {st:List Sk} {a5 a6 a7:Option Xv} {N:Rho->Sto->Prop} {R:Xv->Sto->Prop} (he:Uv bs sn S e)
  (fM:∀e∈st,Uv bs sn S e) (hc:Zk st+e.c<=1000) (ai:S[sn]? =some (.lst (st.map Sk.v))) (hT:T0.length<=sn) (kT:Kn T0 S)
  (k:∀(S2:Sto) (cG:List Sk) (len2:Int) a5 a6 a7,(∀e∈cG,Uv bs sn S2 e)->Zk cG+1<=Zk st+e.c->len2+Yq cG=len+Yq st+e.t*e.n->S2[sn]? =some (.lst (cG.map Sk.v))->Kn T0 S2->N [some v0,some (.int len2),some (.ref sn),some e.x,some (.int e.t),a5,a6,a7] S2):
  WS (Wp (iA (za 3)) (gN 5) (zkm fu) [some v0,some (.int len),some (.ref sn),some e.x,some (.int e.t),a5,a6,a7] S) N R:=by
 have loop:∀get:Sto->Option (List Xv),(∀S2,Kp (· =sn) S S2->get S2=some e.l)->WS (Vo get (gN 5) (zkm fu) (e.l.length+1) 0 [some v0,some (.int len),some (.ref sn),some e.x,some (.int e.t),a5,a6,a7] S) N R:=by
  intro get jx;refine wG (λi ρ S2=>∃(cG:List Sk) (n' len2:Int) (q' c':Nat) (a5 a6 a7:Option Xv),ρ=[some v0,some (.int len2),some (.ref sn),some e.x,some (.int e.t),a5,a6,a7]/\Tr bs (.b (e.l.drop i)) n' q' true c'/\q'<=e.q/\(∀e∈cG,Uv bs sn S2 e)/\Zk cG+c'<=Zk st+e.c/\len2+Yq cG+e.t*n'=len+Yq st+e.t*e.n/\S2[sn]? =some (.lst (cG.map Sk.v))/\Kn T0 S2/\Kp (· =sn) S S2) ?_ ?_ ?_ ?_
  .rintro i ρ S2 _ ⟨_,_,_,_,_,_,_,_,_,_,_,_,_,_,_,_,h⟩;exact jx S2 h
  .rintro i z ρ S2 hz ⟨cG,n',len2,q',c',a5,a6,a7,rfl,gi,ph,g8,gb,iU,c4,ie,jJ⟩;have hi:=(rg.1 hz).1;rw[tD hi,(rg.1 hz).2] at gi;generalize hg:(true:Bool)=gg at gi;cases gi with
   | @cons _ _ n1 m1 q1 p1 c1 e1 g1 g2 t1 t2=>
    obtain⟨rfl,rfl⟩:=zaP hg;refine .of rfl ?_;dsimp only[sM];have qV:=he.q;have pj:(60:Int)^(13-e.q)<=60^(13-q1):=by exact_mod_cast sJ ∅ ⋯
    have qQ:=he.t2;refine zkn t1 ⋯ he.t1 ⋯ g8 ⋯ c4 hT ie ?_;intro S3 iy je a6 a7 h1 h2 h3 h4 h5 h6;refine⟨iy,m1,je,p1,e1,_,a6,a7,rfl,t2,⋯,h1,⋯,?_,h4,h5,jJ.trans h6⟩;rw[uL] at iU;omega
  .exact⟨st,e.n,len,e.q,e.c,a5,a6,a7,rfl,he.tr,rj _,fM,rj _,rfl,ai,kT,Kp.refl _⟩
  .rintro ρ S2 ⟨cG,n',len2,q',c',a5,a6,a7,rfl,gi,ph,g8,gb,iU,c4,ie,jJ⟩;rw[um] at gi;generalize hg:(true:Bool)=gg at gi;cases gi;exact k S2 cG len2 a5 a6 a7 g8 gb ⋯ c4 ie
 rcases he.at_ with hx|⟨m,hx,hm,c4⟩
 .refine vw (zka ?_);ext;rw[hx];refine⟨e.l,rfl,e.l,rfl,?_⟩;rw[<-hx];exact loop _ λ_ _=>rfl
 .refine vw (zj9 ?_);ext;rw[hx];refine⟨m,e.l,rfl,zm c4,e.l,zm c4,?_⟩;rw[<-hx];exact loop _ λS2 k2=>by rw[hx];exact zm (k2.2 _ _ c4 ⋯)
theorem zko {T0:Sto} {v0:Xv} {sn:Nat} {R:Xv->Sto->Prop}:∀(k:Nat) (st:List Sk) (len:Int) (a3 a4 a5 a6 a7:Option Xv) (S:Sto),Zk st<k->Zk st<=1000->(∀e∈st,Uv bs sn S e)->S[sn]? =some (.lst (st.map Sk.v))->T0.length<=sn->Kn T0 S->
  WS (Vr (bE (eOp dGt (eFn ww [(za 2)]) (eC (.int 0)))) (zoa fu) k [some v0,some (.int len),some (.ref sn),a3,a4,a5,a6,a7] S) (λρ S'=>∃a3 a4 a5 a6 a7,ρ=[some v0,some (.int (len+Yq st)),some (.ref sn),a3,a4,a5,a6,a7]/\Kn T0 S') R:=by
 intro k
 induction k with
 |zero=>intro st len a3 a4 a5 a6 a7 S h;omega
 |succ k ih=>
  intro st len a3 a4 a5 a6 a7 S hk hc fM ai hT kT;refine Xx ?_;ext;refine xw (zm ai) ?_;ext;rw[rh];refine yd (λgb=> ?_) (λgb=> ?_)
  .unfold zoa;have dM:st≠[]:=λq=>by rw[q] at gb;simp at gb
   obtain⟨r,e,rfl⟩:∃r p,st=r++[p]:=⟨st.dropLast,st.getLast dM,(ug dM).symm⟩;have he:Uv bs sn S e:=fM _ (sC _ (sG.2 rfl));have hr:∀p∈r,Uv bs sn S p:=λp hp=>fM p (uQ _ hp);rw[zcd] at hk hc;have e1:Zk [e]=e.c:=by simp[Zk]
   have e2:Yq (r++[e])=Yq r+e.t*e.n:=by rw[zcc];simp[Yq]
   rw[e1] at hk hc;rw[e2];ext;refine UO ?_;refine Yj ?_;ext;refine⟨⟨_,zm ai⟩,?_⟩;ext
   refine WO.of (show zih (.ref sn) [] S = some (e.v, S.set sn (.lst (r.map Sk.v))) by
    unfold zih;rw[yN ai];dsimp only;rw[rW,sj,ux,rk,rC,Nat.add_sub_cancel,rL (rj _),tY,List.dropLast_concat]
    rfl) ?_
   have c4:=xa (c':= .lst (r.map Sk.v)) ai;have kp:Kp (· =sn) S (S.set sn (.lst (r.map Sk.v))):=(Kp.refl _).set (.inl rfl);have ie:Kn T0 (S.set sn (.lst (r.map Sk.v))):=kT.set (.inr hT);generalize S.set sn (.lst (r.map Sk.v))=S2 at c4 kp ie ⊢;refine .of rfl ?_;dsimp only[sM];refine ziA (he.keep kp) (λp hp=>(hr p hp).keep kp) ⋯ c4 hT ie ?_;intro S3 iy je a5 a6 a7 h1 h2 h3 h4 h5;have:=ih iy je (some e.x) (some (.int e.t)) a5 a6 a7 S3 ⋯ ⋯ h1 h4 hT h5;rw[h3,An] at this;exact this
  .have:st=[]:=sX.1 ⋯;subst this;exact⟨a3,a4,a5,a6,a7,by simp[Yq],kT⟩
theorem zkp {l:List Xv} {n:Int} {q c:Nat} (d5:Big fu) (h:Tr bs (.b l) n q true c) (hc:c<=1000) (hq:q<=13) (hx:x= .tup l\/∃m,x= .ref m/\S[m]? =some (.lst l)):W (xr fu [x] S) λv S'=>v= .int n/\Kn S S':=by
 refine VF rfl rfl ?_;dsimp only[uB,tS,u3,uq,sN];rw[zlX];ext;have ai:(S++[Ce.lst [.tup [x,.int 1]]])[S.length]? =some (.lst ([(⟨x,l,1,n,q,c⟩:Sk)].map Sk.v)):=zQ;have kn:Kn S (S++[Ce.lst [.tup [x,.int 1]]]):=Kn.refl.app;generalize S++[Ce.lst [.tup [x,.int 1]]]=S2 at ai kn ⊢;refine xm (λρ S'=>∃a3 a4 a5 a6 a7,ρ=[some x,some (.int (0+Yq [(⟨x,l,1,n,q,c⟩:Sk)])),some (.ref S.length),a3,a4,a5,a6,a7]/\Kn S S') ?_ ?_
 .refine zaW ((zko (bs:=bs) fu [⟨x,l,1,n,q,c⟩] 0 none none none none none S2 ?_ ?_ ?_ ai (rj _) kn))
  .have:=d5.le;simp only[Zk];omega
  .simp only[Zk];omega
  .intro e he;rw[sG] at he;subst he;refine⟨?_,h,hq,Int.le_refl 1,?_⟩
   .rcases hx with rfl|⟨m,rfl,hm⟩
    .exact .inl rfl
    .exact .inr ⟨m,rfl,(rg.1 hm).1,kn.at hm⟩
   .show (1:Int)<=60^(13-q);exact_mod_cast B5 _ 60 ∅
 .rintro ρ S3 ⟨a3,a4,a5,a6,a7,rfl,k3⟩;ext;exact⟨by simp[Yq],k3⟩
def GOp (bs:List (Str×Int)) (x:Xv):Prop:=zab x/\opF bs x=true
theorem zgF {b:Str×Int} (h:b∈bs):(Vt bs b.1).isSome=true:=by
 unfold Vt;rw[uI,AB];exact⟨b,h,decide_eq_true rfl⟩
theorem zpz {b:Str×Int} (nd:(bs.map (·.1)).Nodup) (h:b∈bs):Vt bs b.1=some b.2:=by
 induction bs with
 |nil=>cases h
 |cons c r ih=>
  rw[sj,u9] at nd;unfold Vt;rw[sU];rcases rX.1 h with rfl|h
  .rw[decide_eq_true rfl];rfl
  .have:c.1≠b.1:=λe=>nd.1 (by rw[e];exact List.mem_map_of_mem h);rw[decide_eq_false this];exact ih nd.2 h
theorem GOp.nm {b:Str×Int} (h:b∈bs):GOp bs (.str b.1):=⟨.inl ⟨_,rfl⟩,zgF h⟩
theorem GOp.num {v:Int} (h0:0<=v) (h1:v<=999999999):GOp bs (.int v):=⟨.inr ⟨_,rfl⟩,decide_eq_true ⟨h0,h1⟩⟩
theorem zkq {i:Int} (h0:0<=i) (h1:i<bs.length):∃b∈bs,atI (bs.map yK) i=some (yK b):=by
 have hi:i.toNat<bs.length:=by omega
 exact⟨bs[i.toNat],uk hi,Zx h0 (by rw[rq,r9 hi];rfl)⟩
theorem YU {k:Int} (hs:Sc ns S) (hk:0<=k/\k<=1000):W (yD fu [.ref 0,.int k,.tup (bs.map yK)] S) λv S'=>GOp bs v/\S=S':=by
 walk_at "wr";unfold vo;ext;refine xm (λρ S2=>∃c:Int,ρ=[some (.ref 0),some (.int k),some (.tup (bs.map yK)),some (.int c),none]/\S2=S) (zo ?_) ?_
 .ext;refine xw hs ?_;ext;rw[rh];refine yd (λh=> ?_) (λh=> ?_)
  .have h:0<ns.length:=by omega
   ext;refine xw hs ?_;ext;rw[rh];refine WK ⋯ ?_;have h1:=sV k (show (ns.length:Int)≠0 by omega);have h2:=sW k (show (0:Int)<ns.length by omega);have h3:(k % (ns.length:Int)).toNat<ns.length:=by omega
   refine xx hs (Zx h1 (by rw[rq,r9 h3];rfl)) ?_;ext;exact rfl
  .ext;exact rfl
 .rintro ρ S2 ⟨c,rfl,rfl⟩;ext;refine (xi hs hk ∅ ∅).imp ?_;rintro _ _ ⟨rfl,_,_,rfl⟩;ext;refine zo (xl ?_);ext;have rest:WS ((zk (sIf (bE (eOp wQ (za 4) (eC (.int 2)))) (zG (eOp zaw (za 3) (eOp zgj (eC (.int 10)) (eC (.int 9))))) zx) (zG (ze (zp fu) [(za 0),(za 1),(eC (.int 10133)),(eC (.int 10))]))) [some (.ref 0),some (.int k),some (.tup (bs.map yK)),some (.int c),some (.int (wA ns k 10103 4))] S2) (λx S1=>GOp bs .non/\S2=S1) (λv S'=>GOp bs v/\S2=S'):=by
   refine zh (zo ?_);ext;refine yd (λh=> ?_) (λh=> ?_)
   .ext;refine WK ∅ ?_;have e:((10:Int)^(9:Int).toNat)=1000000000:=by decide
    rw[e];have h1:=sV c (show (1000000000:Int)≠0 by decide);have h2:=sW c (show (0:Int)<1000000000 by decide);exact⟨.num h1 ⋯,rfl⟩
   .ext;refine (xi hs hk ∅ ∅).imp ?_;rintro _ _ ⟨rfl,h1,h2,rfl⟩;exact⟨.num h1 ⋯,rfl⟩
  refine yd (λh=> ?_) (λh=> ?_)
  .ext;refine Um ?_;ext;rw[rh];refine yd (λh=> ?_) (λh=> ?_)
   .ext;refine Um ?_;ext;rw[rh];refine (xi hs hk ∅ ⋯).imp ?_;rintro _ _ ⟨rfl,h1,h2,rfl⟩;ext;obtain⟨b,hb,e⟩:=zkq h1 h2;refine xn rfl e ?_;unfold yK;ext;exact⟨.nm hb,rfl⟩
   .exact zq rest
  .exact⟨nofun,λ_=>zq rest⟩
noncomputable def TS:List Str:=["=","<","#"]
noncomputable def RS:List Str:=["+","-","*"]
theorem zpA {v:Int} (h0:0<=v) (h1:v<3):∃s:Str,s∈TS/\zbE (.str "=<#") (.int v) S=some (.str s,S):=by
 rcases (show v=0\/v=1\/v=2 by omega) with rfl|rfl|rfl
 .exact⟨"=",∅,rfl⟩
 .exact⟨"<",∅,rfl⟩
 .exact⟨"#",∅,rfl⟩
theorem zpB {v:Int} (h0:0<=v) (h1:v<3):∃s:Str,s∈RS/\zbE (.str "+-*") (.int v) S=some (.str s,S):=by
 rcases (show v=0\/v=1\/v=2 by omega) with rfl|rfl|rfl
 .exact⟨"+",∅,rfl⟩
 .exact⟨"-",∅,rfl⟩
 .exact⟨"*",∅,rfl⟩
theorem zgG {k:Int} (hs:Sc ns S) (hk:0<=k/\k<=900):W (wJ fu [.ref 0,.int k,.tup (bs.map yK)] S) λv S'=>(∃x y s,v= .tup [x,.str s,y]/\s∈TS/\GOp bs x/\GOp bs y)/\S=S':=by
 walk_at "wr";unfold YS;ext;refine (xi hs ⟨hk.1,⋯⟩ ∅ ∅).imp ?_;rintro _ _ ⟨rfl,h0,h1,rfl⟩;obtain⟨s,gX,ig⟩:=zpA (S:=S) h0 h1;refine WO.of ig ?_;ext;refine (YU (bs:=bs) hs ⟨⋯,⋯⟩).imp ?_;rintro a _ ⟨ha,rfl⟩;ext;refine (YU (bs:=bs) hs ⟨⋯,⋯⟩).imp ?_;rintro b _ ⟨hb,rfl⟩;ext;exact⟨⟨a,b,s,rfl,gX,ha,hb⟩,rfl⟩
theorem zfy {k:Int} (hs:Sc ns S) (hk:0<=k/\k<=900):W (Zd fu [.ref 0,.int k,.tup (bs.map yK)] S) λv S'=>((∃x,v= .tup [x]/\GOp bs x)\/∃x y s,v= .tup [x,.str s,y]/\s∈RS/\GOp bs x/\GOp bs y)/\S=S':=by
 walk_at "wr";unfold wg;refine zh (zo ?_);ext;refine (xi hs ⟨hk.1,⋯⟩ ∅ ∅).imp ?_;rintro _ _ ⟨rfl,_,_,rfl⟩;ext;refine yd (λh=> ?_) (λh=>zq ?_)
 .ext;refine (YU (bs:=bs) hs ⟨⋯,⋯⟩).imp ?_;rintro a _ ⟨ha,rfl⟩;ext;exact⟨.inl ⟨a,rfl,ha⟩,rfl⟩
 ext;refine (xi hs ⟨hk.1,⋯⟩ ∅ ∅).imp ?_;rintro _ _ ⟨rfl,h0,h1,rfl⟩;obtain⟨s,gX,ig⟩:=zpB (S:=S) h0 h1;refine WO.of ig ?_;ext;refine (YU (bs:=bs) hs ⟨⋯,⋯⟩).imp ?_;rintro a _ ⟨ha,rfl⟩;ext;refine (YU (bs:=bs) hs ⟨⋯,⋯⟩).imp ?_;rintro b _ ⟨hb,rfl⟩;ext;exact⟨.inr ⟨a,b,s,rfl,gX,ha,hb⟩,rfl⟩
theorem zkr {n i:Nat} (h:i<n):ixN n (i:Int)=some i:=by
 unfold ixN;rw[if_pos ⋯,if_pos ⋯,sH]
theorem zgH {n:Nat} {i:Int} (h0:0<=i) (h1:i<n):ixN n i=some i.toNat:=by
 obtain⟨m,rfl⟩:∃m:Nat,i=m:=⟨i.toNat,⋯⟩;exact zkr ⋯
theorem Up {ws:List Int} {i:Nat} {v:Int} {p:Int->Bool} (h:ws.all p=true) (hv:p v=true):(ws.set i v).all p=true:=by
 rw[sr] at h ⊢;intro w hw;rcases List.mem_or_eq_of_mem_set hw with hw|rfl
 .exact h w hw
 .exact hv
theorem zce:∀{ws:List Int},(∀w∈ws,0<=w)->0<=ws.sum/\∀w∈ws,w<=ws.sum
 |[],_=>⟨∅,λw h=>by cases h⟩
 |a::r,h=>by
  obtain⟨h1,h2⟩:=zce (ws:=r) λw hw=>h w (rF _ hw);have ha:=h a (rM ..);rw[List.sum_cons];refine⟨⋯,λw hw=> ?_⟩;rcases rX.1 hw with rfl|hw
  .omega
  .have:=h2 w hw;omega
theorem ziB {k:Int} {s:Nat} (hs:Sc ns S) (hk:0<=k/\k<=900) (h1:1<=s) (h9:s<=9):W (Yu fu [.ref 0,.int k,.int (s:Int)] S) λv S'=>∃ws:List Int,v= .tup (ws.map Xv.int)/\ws.length=s/\wOk ws s=true/\Kn S S':=by
 walk_at "wr";unfold vp;ext;have ou:∀ws:List Int,ws.length=s->ws.all (λw=>decide (0<=w/\w<=999999999))=true->0<ws.sum->wOk ws s=true:=by
  intro ws hl ha hp;unfold wOk;rw[decide_eq_true (by omega:(ws.length:Int)=s),ha,decide_eq_true hp];rfl
 refine Xo (xs:=YY 0 s) (f:=λi=> .int (wA ns (k+i) 10159 4)) (by rw[Zw];exact yU ⋯) ?_ ?_ ?_
 .refine zbP ?_;ext;exact⟨⟨⋯,⋯⟩,λ_ _=>by rw[sH],Kn.refl⟩
 .intro i w S2 hw k2;obtain⟨hi,rfl⟩:=Wt hw;show W (ze (zp fu) [(za 1),(eOp xj (za 2) (za 0)),(eC (.int 10159)),(eC (.int 4))] [some (.int (0+(i:Int))),some (.ref 0),some (.int k)] S2) _;ext;rw[uA];refine (xi (hs.keep k2) ⟨⋯,⋯⟩ ∅ ∅).imp ?_;rintro _ _ ⟨rfl,_,_,rfl⟩;exact⟨rfl,Kn.refl⟩
 intro S2 k2;obtain⟨ws,jh,fL,gJ⟩:∃ws:List Int,(rY (YY 0 s).length).map (λ(i:Nat)=>Xv.int (wA ns (k+(i:Int)) 10159 4))=ws.map Xv.int/\ws.length=s/\ws.all (λw=>decide (0<=w/\w<=999999999))=true:=by
  refine⟨(rY s).map λ(i:Nat)=>wA ns (k+i) 10159 4,by rw[Zw,t8];rfl,by rw[rh,Az],?_⟩;rw[sr];intro w hw;obtain⟨i,_,rfl⟩:=t9.1 hw;unfold wA;have a1:=sV ((((if 0<ns.length then ns.getD ((k+(i:Int)) % ns.length).toNat 0 else 0)+(k+i)*(k+i))*48271+11) % 10159) (show (4:Int)≠0 by decide);have a2:=sW ((((if 0<ns.length then ns.getD ((k+(i:Int)) % ns.length).toNat 0 else 0)+(k+i)*(k+i))*48271+11) % 10159) (show (0:Int)<4 by decide);exact decide_eq_true ⟨a1,⋯⟩
 rw[jh];have ai:(S2++[Ce.lst (ws.map Xv.int)])[S2.length]? =some (.lst (ws.map Xv.int)):=zQ;generalize jF:S2++[Ce.lst (ws.map Xv.int)]=S3 at ai ⊢;have k3:Kn S S3:=by rw[<-jF];exact k2.app
 have gZ:S.length<=S2.length:=k2.1;ext;refine (xi (hs.keep k3) ⟨hk.1,⋯⟩ ∅ ⋯).imp ?_;rintro _ _ ⟨rfl,a0,a1,rfl⟩;ext;generalize wA ns k 10163 s=at_ at a0 a1;have kG:at_.toNat<ws.length:=by omega
 refine xm (λρ S4=>∃ws:List Int,ρ=[some (.ref 0),some (.int k),some (.int (s:Int)),some (.ref S2.length),some (.int at_)]/\ws.length=s/\ws.all (λw=>decide (0<=w/\w<=999999999))=true/\0<ws.sum/\S4[S2.length]? =some (.lst (ws.map Xv.int))/\Kn S S4) (zo ?_) ?_
 .ext;refine zgz (zm ai) (Xp ws) ?_;ext;have nn:∀w∈ws,0<=w:=λw hw=>(of_decide_eq_true (sr.1 gJ w hw)).1;refine yd (λh=> ?_) (λh=> ?_)
  .refine zbO ?_;ext;refine⟨S2.length,ws.map Xv.int,at_,at_.toNat,yN ai,rfl,zgH a0 (by rw[rh];omega),?_⟩;refine⟨ws.set at_.toNat 1,rfl,by rw[t7];exact fL,Up gJ ∅,?_,?_,k3.set (.inr gZ)⟩
   .have h1:(1:Int)∈ws.set at_.toNat 1:=Av kG 1;have:=(zce (ws:=ws.set at_.toNat 1) λw hw=>(of_decide_eq_true (sr.1 (Up gJ ∅ (i:=at_.toNat) (v:=1)) w hw)).1).2 1 h1;omega
   .rw[xa ai,Aw]
  .ext;exact⟨ws,rfl,fL,gJ,by have:=(zce nn).1;omega,ai,k3⟩
 .rintro ρ S4 ⟨ws,rfl,fL,gJ,iF,ai,k4⟩;ext;refine xm (λρ S5=>∃ws:List Int,ρ=[some (.ref 0),some (.int k),some (.int (s:Int)),some (.ref S2.length),some (.int at_)]/\ws.length=s/\ws.all (λw=>decide (0<=w/\w<=999999999))=true/\0<ws.sum/\S5[S2.length]? =some (.lst (ws.map Xv.int))/\Kn S S5) (zo ?_) ?_
  .ext;refine (xi (hs.keep k4) ⟨hk.1,⋯⟩ ∅ ∅).imp ?_;rintro _ _ ⟨rfl,_,_,rfl⟩;ext;refine yd (λh=> ?_) (λh=> ?_)
   .refine zbO ?_;ext;have e:((10:Int)^(9:Int).toNat-1)=999999999:=by decide
    rw[e];have kG:at_.toNat<ws.length:=by omega
    refine⟨S2.length,ws.map Xv.int,at_,at_.toNat,yN ai,rfl,zgH a0 (by rw[rh];omega),?_⟩;refine⟨ws.set at_.toNat 999999999,rfl,by rw[t7];exact fL,Up gJ ∅,?_,?_,k4.set (.inr gZ)⟩
    .have h1:(999999999:Int)∈ws.set at_.toNat 999999999:=Av kG 999999999;have:=(zce (ws:=ws.set at_.toNat 999999999) λw hw=>(of_decide_eq_true (sr.1 (Up gJ ∅ (i:=at_.toNat) (v:=999999999)) w hw)).1).2 999999999 h1;omega
    .rw[xa ai,Aw]
   .refine zo (xl ?_);ext;refine xw (hs.keep k4) ?_;ext;rw[rh];refine yd (λh3=> ?_) (λh3=>⟨nofun,λ_=>zq ⟨ws,rfl,fL,gJ,iF,ai,k4⟩⟩);have pE:0<ns.length:=by omega
    ext;refine (xi (hs.keep k4) ⟨hk.1,⋯⟩ ∅ ∅).imp ?_;rintro _ _ ⟨rfl,_,_,rfl⟩;ext;refine yd (λh4=> ?_) (λh4=>zq ⟨ws,rfl,fL,gJ,iF,ai,k4⟩);refine zbO ?_;ext;refine xw (hs.keep k4) ?_;ext;rw[rh];refine WK ⋯ ?_;have m1:=sV k (show (ns.length:Int)≠0 by omega);have m2:=sW k (show (0:Int)<ns.length by omega);have m3:(k % (ns.length:Int)).toNat<ns.length:=by omega
    refine xx (hs.keep k4) (Zx m1 (by rw[rq,r9 m3];rfl)) ?_;ext;have e:((10:Int)^(9:Int).toNat-1)=999999999:=by decide
    rw[e];refine WK ∅ ?_;ext;generalize ns[(k % (ns.length:Int)).toNat]=cl;have c1:=sV cl (show (999999999:Int)≠0 by decide);have c2:=sW cl (show (0:Int)<999999999 by decide);have kG:at_.toNat<ws.length:=by omega
    have hv:decide (0<=1+cl % 999999999/\1+cl % 999999999<=999999999)=true:=decide_eq_true ⟨⋯,⋯⟩;refine⟨S2.length,ws.map Xv.int,at_,at_.toNat,yN ai,rfl,zgH a0 (by rw[rh];omega),?_⟩;refine⟨ws.set at_.toNat (1+cl % 999999999),rfl,by rw[t7];exact fL,Up gJ hv,?_,?_,k4.set (.inr gZ)⟩
    .have h1:(1+cl % 999999999)∈ws.set at_.toNat (1+cl % 999999999):=Av kG _;have:=(zce (ws:=ws.set at_.toNat (1+cl % 999999999)) λw hw=>(of_decide_eq_true (sr.1 (Up gJ hv (i:=at_.toNat) (v:=1+cl % 999999999)) w hw)).1).2 _ h1;omega
    .rw[xa ai,Aw]
  .rintro ρ S5 ⟨ws,rfl,fL,gJ,iF,ai,k5⟩;ext;refine xg ai ?_;exact⟨ws,rfl,fL,ou ws fL gJ iF,k5⟩
theorem Tr.pl {w:Str} {r:List Xv} (h1:w≠"if") (h2:w≠"while") (h3:w≠"times") (h4:w≠"hand") (ow:Own bs (.tup (.str w::r)) true):Tr bs (.d (.tup (.str w::r))) 1 0 true 1:=Tr.deed (.plain h1 h2 h3 h4) ow .nils
def NmZ (z:Str):Prop:=1<=z.length/\z.length<=8/\AZ z
def SOp (a:Xv):Prop:=(∃z,a= .str z/\NmZ z)\/∃v:Int,a= .int v/\0<=v/\v<=999999999
theorem zpC {n:Str} (h:(Vt bs n).isSome=true):∃b∈bs,b.1=n:=by
 unfold Vt at h;rw[uI,AB] at h;obtain⟨b,hb,e⟩:=h;exact⟨b,hb,of_decide_eq_true e⟩
theorem GOp.so {a:Xv} (hB:Vs 1000 bs) (h:GOp bs a):SOp a:=by
 obtain⟨⟨n,rfl⟩|⟨v,rfl⟩,h2⟩:=h
 .obtain⟨b,hb,rfl⟩:=zpC (bs:=bs) (n:=n) h2;exact .inl ⟨_,rfl,hB.nm b hb⟩
 .have h2:decide (0<=v/\v<=999999999)=true:=h2;exact .inr ⟨v,rfl,of_decide_eq_true h2⟩
inductive Pl:Xv->List Xv->Prop where
 |pass:Pl (.tup [.str "pass"]) [.str "pass"]
 |gain {a:Xv}:SOp a->Pl (.tup [.str "gain",a]) [.str "gain",a]
 |look {a b:Xv} {s:Str}:s∈TS->SOp a->SOp b->Pl (.tup [.str "look",.tup [a,.str s,b]]) [.str "look",a,.str s,b]
 |set1 {n:Str} {a:Xv}:NmZ n->SOp a->Pl (.tup [.str "set",.str n,.tup [a]]) [.str "set",.str n,a]
 |set3 {n:Str} {a b:Xv} {s:Str}:NmZ n->s∈RS->SOp a->SOp b->Pl (.tup [.str "set",.str n,.tup [a,.str s,b]]) [.str "set",.str n,a,.str s,b]
 |draw {n:Str} {ws:List Int}:NmZ n->ws.length<=10->1<=ws.length->(∀w∈ws,0<=w/\w<=999999999)->Pl (.tup [.str "draw",.str n,.tup (ws.map Xv.int)]) (.str "draw":: .str n::ws.map Xv.int)
def PW (bs:List (Str×Int)) (x:Xv):Prop:=(∃ps,Pl x ps)/\Tr bs (.d x) 1 0 true 1
theorem zlY {k:Int} (hs:Sc ns S) (hk:0<=k/\k<=900) (hb:Vs 1000 bs):W (wV fu [.ref 0,.int k,.tup (bs.map yK)] S) λv S'=>PW bs v/\Kn S S':=by
 have iM:=hb;walk_at "wr";unfold ZT;ext;refine (xi hs ⟨hk.1,⋯⟩ ∅ ∅).imp ?_;rintro _ _ ⟨rfl,w0,w1,rfl⟩;generalize wA ns k 10177 8=w at w0 w1;ext;have rest:WS ((zk (sIf (bE (eOp wQ (za 3) (eC (.int 5)))) (zG (yn [(eC (.str "pass"))])) zx) (zk (sIf (bE (eOp wQ (za 3) (eC (.int 6)))) (zG (yn [(eC (.str "look")),(ze (wJ fu) [(za 0),(za 1),(za 2)])])) zx) (zG (yn [(eC (.str "gain")),(ze (yD fu) [(za 0),(eOp xj (za 1) (eC (.int 1))),(za 2)])])))) [some (.ref 0),some (.int k),some (.tup (bs.map yK)),some (.int w),none,none] S) (λx S1=>PW bs .non/\Kn S S1) (λv S'=>PW bs v/\Kn S S'):=by
  refine zh (zo ?_);ext;refine yd (λh=> ?_) (λh=>zq ?_)
  .ext;exact⟨⟨⟨_,.pass⟩,.pl ∅ ∅ ∅ ∅ .pass⟩,Kn.refl⟩
  refine zh (zo ?_);ext;refine yd (λh=> ?_) (λh=>zq ?_)
  .ext;refine (zgG (bs:=bs) hs hk).imp ?_;rintro _ _ ⟨⟨a,b,s,rfl,gX,ha,hb⟩,rfl⟩;ext;have ow:=Own.look (s:=s) ha.1 hb.1 (bs:=bs);rw[ha.2,hb.2] at ow;exact⟨⟨⟨_,.look gX (ha.so iM) (hb.so iM)⟩,.pl ∅ ∅ ∅ ∅ ow⟩,Kn.refl⟩
  .ext;refine (YU (bs:=bs) hs ⟨⋯,⋯⟩).imp ?_;rintro a _ ⟨ha,rfl⟩;ext;have ow:=Own.gain ha.1 (bs:=bs);rw[ha.2] at ow;exact⟨⟨⟨_,.gain (ha.so iM)⟩,.pl ∅ ∅ ∅ ∅ ow⟩,Kn.refl⟩
 refine zo (xl ?_);ext;refine yd (λh=> ?_) (λh=>⟨nofun,λ_=>zq rest⟩);ext;refine Um ?_;ext;rw[rh];refine yd (λh=> ?_) (λh=>zq rest);refine zh (UO ?_);ext;refine Um ?_;ext;rw[rh];refine (xi hs ⟨hk.1,⋯⟩ ∅ ⋯).imp ?_;rintro _ _ ⟨rfl,h1,h2,rfl⟩;ext;obtain⟨b,jC,e⟩:=zkq h1 h2;refine xn rfl e ?_;unfold yK;refine .of rfl ?_;dsimp only[sM];obtain⟨s1,s9⟩:=hb.sz b jC;refine zh (zo ?_);ext;refine yd (λh=> ?_) (λh=>zq ?_)
 .ext;refine (zfy (bs:=bs) hs hk).imp ?_;rintro _ _ ⟨⟨a,rfl,ha⟩|⟨a,c,s,rfl,gX,ha,hc⟩,rfl⟩
  .ext;have ow:=Own.set1 (n:=b.1) ha.1 (bs:=bs);rw[ha.2,zgF jC] at ow;exact⟨⟨⟨_,.set1 (iM.nm b jC) (ha.so iM)⟩,.pl ∅ ∅ ∅ ∅ ow⟩,Kn.refl⟩
  .ext;have ow:=Own.set3 (n:=b.1) (s:=s) ha.1 hc.1 (bs:=bs);rw[ha.2,hc.2,zgF jC] at ow;exact⟨⟨⟨_,.set3 (iM.nm b jC) gX (ha.so iM) (hc.so iM)⟩,.pl ∅ ∅ ∅ ∅ ow⟩,Kn.refl⟩
 .ext;obtain⟨s,fB⟩:∃s:Nat,b.2=s:=⟨b.2.toNat,⋯⟩;rw[fB];refine (ziB hs hk ⋯ ⋯).imp ?_;rintro _ S2 ⟨ws,rfl,fL,kZ,k2⟩;ext;have ow:=Own.draw (n:=b.1) (ws:=ws) ⋯ (bs:=bs);rw[zpz hb.nd jC,fB] at ow;have ow:Own bs _ (wOk ws s):=ow;rw[kZ] at ow;have jE:∀w∈ws,0<=w/\w<=999999999:=by
   unfold wOk at kZ;rw[rT,rT] at kZ;exact λw hw=>of_decide_eq_true (sr.1 kZ.2.1 w hw)
  exact⟨⟨⟨_,.draw (iM.nm b jC) ⋯ ⋯ jE⟩,.pl ∅ ∅ ∅ ∅ ow⟩,k2⟩
end
section
theorem zfz {c:Nat}:∀{x y A B:List Nat},c∉x->c∉y->x++c::A=y++c::B->x=y/\A=B
 |[],[],A,B,_,_,h=>⟨rfl,(sq h).2⟩
 |[],b::y,A,B,_,h2,h=>by
  have:=(sq h).1;exact absurd (by rw[this];exact rM ..) h2
 |a::x,[],A,B,h1,_,h=>by
  have:=(sq h).1;exact absurd (by rw[<-this];exact rM ..) h1
 |a::x,b::y,A,B,h1,h2,h=>by
  obtain⟨e,h⟩:=sq h;obtain⟨rfl,rfl⟩:=zfz (λz=>h1 (rF _ z)) (λz=>h2 (rF _ z)) h;exact⟨by rw[e],rfl⟩
theorem zhE {a b:Str} (h:a.cps.toList=b.cps.toList):a=b:=by
 cases a;cases b
 congr
 exact Array.toList_inj.1 h
theorem wZ (a b:Str):(a++b).cps.toList=a.cps.toList++b.cps.toList:=by
 show (a.cps++b.cps).toList=_;simp
theorem zfA {c:Nat}:∀{a b:List Str},a≠[]->b≠[]->(∀p∈a,c∉p.cps.toList)->(∀p∈b,c∉p.cps.toList)->Str.join ⟨#[c]⟩ a=Str.join ⟨#[c]⟩ b->a=b
 |[],_,h,_,_,_,_=>absurd rfl h
 |_,[],_,h,_,_,_=>absurd rfl h
 |[x],[y],_,_,_,_,h=>by
  have h:x=y:=h;rw[h]
 |[x],y::y'::r,_,_,h1,_,h=>by
  have h:x=y++⟨#[c]⟩++Str.join ⟨#[c]⟩ (y'::r):=h;refine absurd ?_ (h1 x (rM ..));rw[h,wZ,wZ];simp
 |x::x'::r,[y],_,_,_,h2,h=>by
  have h:x++⟨#[c]⟩++Str.join ⟨#[c]⟩ (x'::r)=y:=h;refine absurd ?_ (h2 y (rM ..));rw[<-h,wZ,wZ];simp
 |x::x'::r,y::y'::s,_,_,h1,h2,h=>by
  have h:x++⟨#[c]⟩++Str.join ⟨#[c]⟩ (x'::r)=y++⟨#[c]⟩++Str.join ⟨#[c]⟩ (y'::s):=h;have h:=congrArg (λz:Str=>z.cps.toList) h;rw[wZ,wZ,wZ,wZ,sv,sv] at h;obtain⟨e1,e2⟩:=zfz (c:=c) (h1 x (rM ..)) (h2 y (rM ..)) h;have:=zfA (a:=x'::r) (b:=y'::s) (by simp) (by simp) (λp hp=>h1 p (rF _ hp)) (λp hp=>h2 p (rF _ hp)) (zhE e2);rw[zhE e1,this]
theorem zcf {c:Nat} {xs:List Str} (h:xs≠[]) (hc:∀p∈xs,c∉p.cps.toList):Txt.split (Txt.join ⟨#[c]⟩ xs) ⟨#[c]⟩=xs:=by
 refine zfA (c:=c) ?_ h (λp hp=>StrLaws.split_free _ _ p hp) hc ?_
 .intro e;have:=PyProof.Rows.split_pos (Txt.join ⟨#[c]⟩ xs) ⟨#[c]⟩;rw[e] at this;exact absurd this ∅
 .rw[StrLaws.join_split];show Bs _ _=_;rw[StrLaws.glued_eq_join]
end
section
variable {fu:Nat} {S S' S2:Sto} {x y:Xv} {ns:List Int} {bs:List (Str×Int)}
noncomputable def dg (m:Nat):List Nat:=(z3 10 m).map Char.toNat
theorem zoc:∀m:Fin 10,(Nat.digitChar m.1).toNat=48+m.1:=by decide
theorem zhF {m:Nat} (h:m<10):dg m=[48+m]:=by
 unfold dg;rw[Nat.toDigits_of_lt_base h,sj,ux,zoc ⟨m,h⟩]
theorem zhG {m:Nat} (h:10<=m):dg m=dg (m / 10)++[48+m % 10]:=by
 have hm:m % 10<10:=Nat.mod_lt m ∅;have t:z3 10 (m / 10)++z3 10 (m % 10)=z3 10 (10*(m / 10)+m % 10):=Nat.toDigits_append_toDigits ∅ ⋯ hm;rw[Nat.div_add_mod] at t;have e:=zhF hm;unfold dg at e ⊢;rw[<-t,rW,e]
theorem zks (m:Nat):(∀c∈dg m,48<=c/\c<=57)/\1<=(dg m).length/\(0<m->(dg m)[0]? ≠some 48):=by
 induction m using Nat.strongRecOn with
 |_ m ih=>
  by_cases h:m<10
  .rw[zhF h];refine⟨λc hc=> ?_,rj _,λh0 e=> ?_⟩
   .have:c=48+m:=by simpa using hc
    omega
   .have:48+m=48:=by simpa using e
    omega
  .obtain⟨h1,h2,h3⟩:=ih (m / 10) ⋯;rw[zhG ⋯];refine⟨λc hc=> ?_,by rw[rk];omega,λh0 e=> ?_⟩
   .rw[sA,sG] at hc;rcases hc with hc|rfl
    .exact h1 c hc
    .omega
   .rw[rB ⋯] at e;exact h3 ⋯ e
theorem zgI:∀(k m:Nat),m<10^(k+1)->(dg m).length<=k+1
 |0,m,h=>by rw[zhF (by simpa using h)];exact rj _
 |k+1,m,h=>by
  by_cases qk:m<10
  .rw[zhF qk];show 1<=_;omega
  .rw[zhG ⋯,rk,rC];have:=zgI k (m / 10) (by rw[Nat.pow_succ] at h;omega);omega
noncomputable def nt (v:Int):Str:=Str.ofString (toString v)
theorem zgJ {v:Int} (h:0<=v):(nt v).cps.toList=dg v.toNat:=by
 obtain⟨m,rfl⟩:=Int.eq_ofNat_of_zero_le h;exact PySem.W.KIN.signs_num m
noncomputable def FIG:Str:="0123456789"
noncomputable def nbF (z:Str):Bool:=decide (1<=z.length/\z.length<=9)&&(z.cps.toList.all (λc=>inS ⟨#[c]⟩ FIG)&&(decide (sg z 0≠some 48)||decide (z="0")))
theorem zod:∀n:Fin 10,inS ⟨#[48+n.1]⟩ FIG=true:=by decide+kernel
theorem zoe:∀n:Fin 26,inS ⟨#[97+n.1]⟩ FIG=false:=by decide+kernel
theorem zmF {v:Int} (h0:0<=v) (h1:v<=999999999):nbF (nt v)=true:=by
 have e:=zgJ h0;obtain⟨a,b,c⟩:=zks v.toNat;have l:=zgI 8 v.toNat (by show v.toNat<1000000000;omega);have hl:(nt v).length=(dg v.toNat).length:=by rw[<-Zi,e]
 unfold nbF;rw[decide_eq_true (show 1<=(nt v).length/\(nt v).length<=9 by omega),tI,rT];refine⟨?_,?_⟩
 .rw[sr,e];intro d hd;obtain⟨d1,d2⟩:=a d hd;obtain⟨n,rfl⟩:∃n,d=48+n:=⟨d-48,⋯⟩;exact zod ⟨n,⋯⟩
 .by_cases hv:0<v
  .rw[decide_eq_true (show sg (nt v) 0≠some 48 by unfold sg;rw[e];exact c ⋯),Br]
  .obtain rfl:v=0:=by omega
   rw[decide_eq_true (show nt 0="0" from rfl),Bool.or_true]
theorem zpD {z:Str} (h:AZ z):nbF z=false:=by
 unfold nbF;by_cases hz:1<=z.length/\z.length<=9
 .have hl:=Zi z;have h0:0<z.cps.toList.length:=by omega
  have:z.cps.toList.all (λc=>inS ⟨#[c]⟩ FIG)=false:=by
   rw[AA];have hm:z.cps.toList[0]∈z.cps.toList:=uk h0;obtain⟨a,b⟩:=h _ hm;refine⟨_,hm,?_⟩;generalize z.cps.toList[0]=d at a b;obtain⟨n,rfl⟩:∃n,d=97+n:=⟨d-97,⋯⟩;rw[zoe ⟨n,⋯⟩];decide
  rw[this,tu,Ah]
 .rw[decide_eq_false hz,tu]
theorem zfB {v:Int} (h0:0<=v) (h1:v<=999999999):uE (nt v)=some v:=PySem.W.KIN.num_reads h0 (Int.lt_of_le_of_lt h1 ∅)
theorem zgK {v:Int} (h0:0<=v) (h1:v<=999999999):1<=(nt v).length/\(nt v).length<=9:=by
 have l:=zgI 8 v.toNat (by show v.toNat<1000000000;omega);have b:=(zks v.toNat).2.1;rw[<-Zi,zgJ h0];exact⟨b,l⟩
theorem zkt {v:Int} (h0:0<=v):asc (nt v)/\∀c∈(nt v).cps.toList,48<=c/\c<=57:=by
 have a:=(zks v.toNat).1;rw[<-zgJ h0] at a;refine⟨?_,a⟩;unfold asc;rw[uP];intro c hc;have:=a c (by simpa using hc);simp;omega
theorem zku {z A:Str} (ha:asc z) (hl:z.length<=100):W (ZJ fu [.str z,.str A] S) λv S'=>v= .bl (z.cps.toList.all λc=>inS ⟨#[c]⟩ A)/\Kn S S':=by
 walk_at "wr";unfold wT;refine YZ ?_;refine Wy (xs:=vx z) (p:=λi=>inS ⟨#[z.cps.toList.getD i 0]⟩ A) ?_ ?_ ?_ ?_
 .unfold vx;rw[rh,Zi];exact yU hl
 .refine zmx ?_;ext;exact⟨ha,λ_ _=>rfl,Kn.refl⟩
 .intro i w S2 hw k2;unfold vx at hw;rw[rq,rG] at hw;obtain⟨c,e,rfl⟩:=hw;show W (eOp ziu (za 0) (za 1) [some (.str ⟨#[c]⟩),some (.str A)] S2) _;ext;refine zj6 ?_;rw[rp,e];exact⟨rfl,Kn.refl⟩
 .intro S2 k2;have e:(vx z).length=z.cps.toList.length:=by unfold vx;rw[rh]
  rw[e,vE (q:=λc=>inS ⟨#[c]⟩ A) (λi a h=>by rw[rp,h];rfl)];exact⟨rfl,k2⟩
theorem zem {P:Xv->Sto->Prop} {a b:Str} (k:P (.bl (!decide (a=b))) S):WO (yk true (.str a) (.str b) S) P:= .of (by unfold yk;simp) k
theorem ix0 {z:Str} {c:Nat} (hz:z.length<=100) (h:sg z 0=some c):zbE (.str z) (.int 0) S=some (.str ⟨#[c]⟩,S):=by
 unfold zbE znj;dsimp only;rw[if_pos (yU hz),Zx ∅ (by exact h)];rfl
theorem sg0 {z:Str} (h:1<=z.length):∃c,sg z 0=some c:=by
 unfold sg;exact⟨_,r9 (by rw[Zi];exact h)⟩
theorem zof {c d:Nat}:((⟨#[c]⟩:Str)=⟨#[d]⟩)↔c=d:=by
 constructor
 .intro h;have:=congrArg (λz:Str=>z.cps.toList) h;simpa using this
 .rintro rfl;rfl
theorem zcg {z:Str} (ha:asc z) (hl:z.length<=100):W (YI fu [.str z] S) λv S'=>v= .bl (nbF z)/\Kn S S':=by
 walk_at "wr";unfold YH;refine zh (zo (xX (Zv (Zn (Ts ?_)))));ext;refine zbk (yU hl) ?_;ext;have bad:¬(1<=z.length/\z.length<=9)->nbF z=false:=λh=>by
  unfold nbF;rw[decide_eq_false h,tu]
 have stop:∀{S3:Sto} {N:Rho->Sto->Prop},nbF z=false->Kn S S3->WS (zG (eC (.bl false)) [some (.str z)] S3) N λv S'=>v= .bl (nbF z)/\Kn S S':=by
  intro S3 N h k;ext;exact⟨by rw[h],k⟩
 refine⟨λh1=> ?_,λh1=>⟨_,rfl,λ_=>⟨λ_=>stop (bad λq=> ?_) Kn.refl,nofun⟩,nofun⟩⟩
 .have h1:(1:Int)<=z.length:=of_decide_eq_true h1;ext;refine⟨λh2=>⟨λ_=>stop (bad λq=> ?_) Kn.refl,nofun⟩,λh2=> ?_⟩
  .have h2:(!decide ((z.length:Int)<=9))=true:=h2;rw[decide_eq_true ⋯] at h2;cases h2
  .have h2:(!decide ((z.length:Int)<=9))=false:=h2;have h2:(z.length:Int)<=9:=by simpa using h2
   have hz:1<=z.length/\z.length<=9:=by omega
   refine Zv (Zn ?_);ext;refine (zku ha hl).imp ?_;rintro _ S3 ⟨rfl,k3⟩;refine⟨_,rfl,λh3=>stop ?_ k3,λh3=>zq ?_⟩
   .have h3:(!(z.cps.toList.all λc=>inS ⟨#[c]⟩ FIG))=true:=h3;unfold nbF;rw[show (z.cps.toList.all λc=>inS ⟨#[c]⟩ FIG)=false by simpa using h3,tu,Ah]
   .have h3:(!(z.cps.toList.all λc=>inS ⟨#[c]⟩ FIG))=false:=h3;have h3:(z.cps.toList.all λc=>inS ⟨#[c]⟩ FIG)=true:=by simpa using h3
    have e:nbF z=(decide (sg z 0≠some 48)||decide (z="0")):=by
     unfold nbF;rw[decide_eq_true hz,h3,tI,tI]
    rw[e];obtain⟨c,hc⟩:=sg0 hz.1;refine YZ (znx ?_);ext;refine WO.of (ix0 hl hc) ?_;ext;refine zem ?_;have e2:(!decide ((⟨#[c]⟩:Str)="0"))=decide (sg z 0≠some 48):=by
     rw[hc];by_cases h:c=48
     .subst h;rfl
     .rw[decide_eq_false (show ¬((⟨#[c]⟩:Str)="0") from λq=>h (zof.1 q)),decide_eq_true (show some c≠some 48 from λq=>h (su q))];rfl
    rw[e2];refine⟨_,rfl,λh4=> ?_,λh4=> ?_⟩
    .exact⟨by rw[h4,Br],k3⟩
    .ext;refine zbl ?_;exact⟨by rw[h4,Bool.false_or],k3⟩
 .have h1:¬(1:Int)<=z.length:=of_decide_eq_false h1;omega
noncomputable def tx:Xv->Str
 | .str z=>z
 | .int v=>nt v
 |_=>""
structure Vu (z:Str):Prop where
 asc:asc z
 le:z.length<=9
 pos:1<=z.length
 sp:32∉z.cps.toList
 nl:10∉z.cps.toList
theorem AZ.wd {z:Str} (h:AZ z) (h1:1<=z.length) (h8:z.length<=9):Vu z:=⟨h.asc,h8,h1,λq=>by have:=h _ q;omega,λq=>by have:=h _ q;omega⟩
theorem zdv {v:Int} (h0:0<=v) (h1:v<=999999999):Vu (nt v):=by
 have l:=zgK h0 h1;obtain⟨a,b⟩:=zkt h0;exact⟨a,l.2,l.1,λq=>by have:=b _ q;omega,λq=>by have:=b _ q;omega⟩
theorem NmZ.wd {z:Str} (h:NmZ z):Vu z:=h.2.2.wd h.1 (by have:=h.2.1;omega)
theorem SOp.wd {a:Xv} (h:SOp a):Vu (tx a):=by
 rcases h with⟨z,rfl,h⟩|⟨v,rfl,h0,h1⟩
 .exact h.wd
 .exact zdv h0 h1
theorem zgL {z:Str} (ha:asc z) (hl:z.length<=100) (h:nmF z=true):W (xL fu [.str z] S) λv S'=>v= .str z/\Kn S S':=by
 walk_at "wr";unfold YN;refine zh (zo (Zv (Zn ?_)));ext;refine (zfv ha hl).imp ?_;rintro _ S1 ⟨rfl,k1⟩;rw[h];refine⟨_,rfl,nofun,λ_=>zq ?_⟩;ext;exact⟨rfl,k1⟩
theorem NmZ.from {z:Str} (h:NmZ z):W (xL fu [.str z] S) λv S'=>v= .str z/\Kn S S':=zgL h.2.2.asc (by have:=h.2.1;omega) (h.2.2.nm h.1 h.2.1)
theorem Vj {v:Int} (h0:0<=v) (h1:v<=999999999):W (xq fu [.str (nt v)] S) λr S'=>r= .int v/\Kn S S':=by
 have l:=zgK h0 h1;walk_at "wr";unfold vW;refine zh (zo (Zv (Zn ?_)));ext;refine (zcg (zkt h0).1 ⋯).imp ?_;rintro _ S1 ⟨rfl,k1⟩;rw[zmF h0 h1];refine⟨_,rfl,nofun,λ_=>zq ?_⟩;ext;exact zhz ⋯ (zfB h0 h1) ⟨rfl,k1⟩
theorem ZZ {a:Xv} (h:SOp a):W (xy fu [.str (tx a)] S) λr S'=>r=a/\Kn S S':=by
 walk_at "wr";unfold vk;refine zh (zo ?_);ext;have w:=h.wd;refine (zcg w.asc (by have:=w.le;omega)).imp ?_;rintro _ S1 ⟨rfl,k1⟩;rcases h with⟨z,rfl,hz⟩|⟨v,rfl,h0,h1⟩
 .rw[show nbF (tx (.str z))=false from zpD hz.2.2];refine⟨_,rfl,nofun,λ_=>zq ?_⟩;ext;refine hz.from.imp ?_
  rintro _ S2 ⟨rfl,k2⟩;exact⟨rfl,k1.trans k2⟩
 .rw[show nbF (tx (.int v))=true from zmF h0 h1];refine⟨_,rfl,λ_=> ?_,nofun⟩;ext;exact zhz (by have:=zgK h0 h1;show (nt v).length<=640;omega) (zfB h0 h1) ⟨rfl,k1⟩
theorem zpX {w a b c:Str} {P:Xv->Sto->Prop} (k:P (.bl (!decide (w=a\/w=b\/w=c))) S):WO (dIn true (.str w) (.ct [.str a,.str b,.str c]) S) P:=by
 refine VG rfl rfl ?_;show P (.bl (true !=((a==w)||((b==w)||((c==w)||false))))) S;rw[Am];have e:((a==w)||((b==w)||((c==w)||false)))=decide (w=a\/w=b\/w=c):=by
  rw[u5,uU,uU,uU,beq_iff_eq,beq_iff_eq,beq_iff_eq,decide_eq_true_iff];constructor
  .rintro (h|h|h|h)
   .exact .inl h.symm
   .exact .inr (.inl h.symm)
   .exact .inr (.inr h.symm)
   .cases h
  .rintro (h|h|h)
   .exact .inl h.symm
   .exact .inr (.inl h.symm)
   .exact .inr (.inr (.inl h.symm))
 rw[e];exact k
def Txs (S:Sto) (n:Nat) (ts:List Str):Prop:=S[n]? =some (.lst (ts.map Xv.str))
theorem zae {m:Nat} {a b:Xv} {s c1 c2 c3:Str} (ha:SOp a) (hb:SOp b) (hs:s∈[c1,c2,c3]) (ai:Txs S m [tx a,s,tx b]):
  W (vY fu [.ref m,.ct [.str c1,.str c2,.str c3]] S) λr S'=>r= .tup [a,.str s,b]/\Kn S S':=by
 have e:zY S (.ref m)=some [.str (tx a),.str s,.str (tx b)]:=zm ai;walk_at "wr";unfold vX;refine zh (zo (xX ?_));ext;refine xw e ?_;ext;rw[show (!decide ((([Xv.str (tx a),.str s,.str (tx b)]:List Xv).length:Int)=3))=false from rfl];refine⟨nofun,λ_=> ?_⟩;ext;refine xx e (z:= .str s) rfl ?_;ext;refine zpX ?_;have hs:s=c1\/s=c2\/s=c3:=by simpa using hs
 rw[decide_eq_true hs];refine⟨_,rfl,nofun,λ_=>zq ?_⟩;ext;refine xx e (z:= .str (tx a)) rfl ?_;ext;refine (ZZ ha).imp ?_;rintro _ S1 ⟨rfl,k1⟩;ext;refine xx (k1.lst e) (z:= .str s) rfl ?_;ext;refine xx (k1.lst e) (z:= .str (tx b)) rfl ?_;ext;refine (ZZ hb).imp ?_;rintro _ S2 ⟨rfl,k2⟩;ext;exact⟨rfl,k1.trans k2⟩
theorem WA {α:Type} (l:List α) (n:Nat):L2.WJ l (some (n:Int)) none=l.drop n:=by
 unfold L2.WJ;rw[HT.zkZ,HT.zeC];by_cases h:n<=l.length
 .rw[Nat.min_eq_left h,List.take_of_length_le (by rw[uN];exact rj _)]
 .rw[Nat.min_eq_right ⋯,Ac (rj _),Ac ⋯,Bd]
theorem Ta {m:Nat} {a b:Xv} {s:Str} (ha:SOp a) (hb:SOp b) (hs:s∈TS) (ai:Txs S m [tx a,s,tx b]):W (vZ fu [.ref m] S) λr S'=>r= .tup [a,.str s,b]/\Kn S S':=by
 walk_at "wr";unfold Ve;ext;exact zae ha hb hs ai
theorem ziC {m:Nat} {a:Xv} (ha:SOp a) (ai:Txs S m [tx a]):W (wf fu [.ref m] S) λr S'=>r= .tup [a]/\Kn S S':=by
 have e:zY S (.ref m)=some [.str (tx a)]:=zm ai;walk_at "wr";unfold we;refine zh (zo ?_);ext;refine xw e ?_;ext;refine⟨λ_=> ?_,λz=> ?_⟩
 .ext;refine xx e (z:= .str (tx a)) rfl ?_;ext;refine (ZZ ha).imp ?_;rintro _ S1 ⟨rfl,k1⟩;ext;exact⟨rfl,k1⟩
 .exact absurd (show decide (((1:Nat):Int)=1)=false from z) ∅
theorem ziD {m:Nat} {a b:Xv} {s:Str} (ha:SOp a) (hb:SOp b) (hs:s∈RS) (ai:Txs S m [tx a,s,tx b]):W (wf fu [.ref m] S) λr S'=>r= .tup [a,.str s,b]/\Kn S S':=by
 have e:zY S (.ref m)=some [.str (tx a),.str s,.str (tx b)]:=zm ai;walk_at "wr";unfold we;refine zh (zo ?_);ext;refine xw e ?_;ext;refine⟨λz=> ?_,λ_=>zq ?_⟩
 .exact absurd (show decide (((3:Nat):Int)=1)=true from z) ∅
 .ext;exact zae ha hb hs ai
theorem zfC {w:Str} {r:List Xv} {m:Nat} (h:Pl x (.str w::r)) (ai:Txs S m (r.map tx)):W (We fu [.str w,.ref m] S) λv S'=>v=x/\Kn S S':=by
 have e0:zY S (.ref m)=some ((r.map tx).map Xv.str):=zm ai;walk_at "wr";unfold ZO;have no:∀{w v:Str} {c:TwT} {a:TwS} {N:Rho->Sto->Prop} {R:Xv->Sto->Prop},w≠v->N [some (.str w),some (.ref m)] S->WS (sIf (XO (bE (eOp (yk false) (za 0) (eC (.str v)))) c) a zx [some (.str w),some (.ref m)] S) N R:=by
  intro w v c a N R h k;refine zo (xl ?_);ext;exact ye h ⟨_,rfl,nofun,λ_=>⟨nofun,λ_=>zq k⟩⟩
 have qy:∀{w v:Str} {a:TwS} {N:Rho->Sto->Prop} {R:Xv->Sto->Prop},w≠v->N [some (.str w),some (.ref m)] S->WS (sIf (bE (eOp (yk false) (za 0) (eC (.str v)))) a zx [some (.str w),some (.ref m)] S) N R:=by
  intro w v a N R h k;refine zo ?_;ext;exact ye h ⟨_,rfl,nofun,λ_=>zq k⟩
 generalize fN:Xv.str w::r=ps at h;cases h with
 |pass=>
  obtain⟨e1,rfl⟩:=sq fN;cases e1;refine zh (zo (xl ?_));ext;refine zS ⟨_,rfl,λ_=> ?_,nofun⟩;ext;refine xw e0 ?_;ext;refine⟨λ_=> ?_,λz=>absurd (show decide (((0:Nat):Int)=0)=false from z) ∅⟩;ext;exact⟨rfl,Kn.refl⟩
 | @gain a ha=>
  obtain⟨e1,rfl⟩:=sq fN;cases e1;refine zh (no ∅ (zh (no ∅ (zh (no ∅ (zh (zo (xl ?_))))))));ext;refine zS ⟨_,rfl,λ_=> ?_,nofun⟩;ext;refine xw e0 ?_;ext;refine⟨λ_=> ?_,λz=>absurd (show decide (((1:Nat):Int)=1)=false from z) ∅⟩;ext;refine xx e0 (z:= .str (tx a)) rfl ?_;ext;refine (ZZ ha).imp ?_;rintro _ S1 ⟨rfl,k1⟩;ext;exact⟨rfl,k1⟩
 | @look a b s hs ha hb=>
  obtain⟨e1,rfl⟩:=sq fN;cases e1;refine zh (no ∅ (zh (no ∅ (zh (no ∅ (zh (no ∅ (zh (zo ?_)))))))));ext;refine zS ⟨_,rfl,λ_=> ?_,nofun⟩;ext;refine (Ta ha hb hs ai).imp ?_;rintro _ S1 ⟨rfl,k1⟩;ext;exact⟨rfl,k1⟩
 | @set1 n a hn ha=>
  obtain⟨e1,rfl⟩:=sq fN;cases e1;refine zh (no ∅ (zh (zo (xl ?_))));ext;refine zS ⟨_,rfl,λ_=> ?_,nofun⟩;ext;refine xw e0 ?_;ext;refine⟨λ_=> ?_,λz=>absurd (show decide (((2:Nat):Int)>1)=false from z) ∅⟩;ext;refine xx e0 (z:= .str n) rfl ?_;ext;refine hn.from.imp ?_
  rintro _ S1 ⟨rfl,k1⟩;ext;refine zaA (k1.lst e0) ?_;rw[show L2.WJ ((uB tx [Xv.str n,a]).map Xv.str) (some 1) none=[Xv.str (tx a)] from WA _ 1];ext;refine (ziC ha zQ).imp ?_;rintro _ S2 ⟨rfl,k2⟩;ext;exact⟨rfl,k1.trans (Kn.refl.app.trans k2)⟩
 | @set3 n a b s hn hs ha hb=>
  obtain⟨e1,rfl⟩:=sq fN;cases e1;refine zh (no ∅ (zh (zo (xl ?_))));ext;refine zS ⟨_,rfl,λ_=> ?_,nofun⟩;ext;refine xw e0 ?_;ext;refine⟨λ_=> ?_,λz=>absurd (show decide (((4:Nat):Int)>1)=false from z) ∅⟩;ext;refine xx e0 (z:= .str n) rfl ?_;ext;refine hn.from.imp ?_
  rintro _ S1 ⟨rfl,k1⟩;ext;refine zaA (k1.lst e0) ?_;rw[show L2.WJ ((uB tx [Xv.str n,a,.str s,b]).map Xv.str) (some 1) none=[Xv.str (tx a),.str s,.str (tx b)] from WA _ 1];ext;refine (ziD ha hb hs zQ).imp ?_;rintro _ S2 ⟨rfl,k2⟩;ext;exact⟨rfl,k1.trans (Kn.refl.app.trans k2)⟩
 | @draw n ws hn h9 h1 hw=>
  obtain⟨e1,rfl⟩:=sq fN;cases e1;refine zh (no ∅ (zh (no ∅ (zh (zo (xl ?_))))));ext;refine zS ⟨_,rfl,λ_=> ?_,nofun⟩;ext;refine xw e0 ?_;ext;have hlen:(((Xv.str n::ws.map Xv.int).map tx).map Xv.str).length=ws.length+1:=by simp
  rw[hlen];refine⟨λ_=> ?_,λz=>absurd (of_decide_eq_false z) ⋯⟩;ext;refine xx e0 (z:= .str n) (Zx ∅ rfl) ?_;ext;refine hn.from.imp ?_
  rintro _ S1 ⟨rfl,k1⟩;ext;have mW:L2.WJ (((Xv.str n::ws.map Xv.int).map tx).map Xv.str) (some 1) none=ws.map λv=>Xv.str (nt v):=by
   rw[show L2.WJ (((Xv.str n::ws.map Xv.int).map tx).map Xv.str) (some 1) none=((ws.map Xv.int).map tx).map Xv.str from WA _ 1,t8,t8];rfl
  refine Xo (xs:=ws.map λv=>Xv.str (nt v)) (f:=λi=> .int (ws.getD i 0)) (by rw[rh];exact yU ⋯) ?_ ?_ ?_
  .refine zkh (n:=S1.length) ?_;ext;refine zaA (k1.lst e0) ?_;rw[mW];exact⟨rfl,zm zQ,Kn.refl.app⟩
  .intro i w S2 hi k2;rw[rq,rG] at hi;obtain⟨v,e,rfl⟩:=hi;obtain⟨v0,v1⟩:=hw v (rV e);show W (ze (xq fu) [(za 0)] [some (.str (nt v))] S2) _;ext;refine (Vj v0 v1).imp ?_;rintro _ S3 ⟨rfl,k3⟩;rw[rp,e];exact⟨rfl,k3⟩
  .intro S2 k2;ext;refine xg zQ ?_;ext;have er:(rY (ws.map λv=>Xv.str (nt v)).length).map (λi=>Xv.int (ws.getD i 0))=ws.map Xv.int:=by
    rw[rh];apply z4
    .simp
    .intro i p q;rw[sZ,sZ,w5];have hi:i<ws.length:=by simpa using q
     rw[rp,r9 hi];rfl
   rw[er];exact⟨rfl,k1.trans k2.app⟩
def Pt (p:Xv):Prop:=(∃z,p= .str z/\Vu z)\/∃v:Int,p= .int v/\0<=v/\v<=999999999
theorem Pt.wd {p:Xv} (h:Pt p):Vu (tx p):=by
 rcases h with⟨z,rfl,h⟩|⟨v,rfl,h0,h1⟩
 .exact h
 .exact zdv h0 h1
theorem SOp.pt {a:Xv} (h:SOp a):Pt a:=by
 rcases h with⟨z,rfl,h⟩|⟨v,rfl,h0,h1⟩
 .exact .inl ⟨_,rfl,h.wd⟩
 .exact .inr ⟨v,rfl,h0,h1⟩
theorem zog:∀z∈[("pass":Str),"gain","look","set","draw","box","=","<","#","+","-","*","if","while","times","hand","else","or","end"],z.cps.all (· <128)=true/\z.length<=9/\1<=z.length/\32∉z.cps.toList/\10∉z.cps.toList:=by decide+kernel
theorem vB {z:Str} (h:z∈[("pass":Str),"gain","look","set","draw","box","=","<","#","+","-","*","if","while","times","hand","else","or","end"]):Vu z:=by
 obtain⟨a,b,c,d,e⟩:=zog z h;exact⟨a,b,c,d,e⟩
theorem Zj {z:Str} (h:z∈[("pass":Str),"gain","look","set","draw","box","=","<","#","+","-","*","if","while","times","hand","else","or","end"]):Pt (.str z):= .inl ⟨z,rfl,vB h⟩
theorem zfD {s:Str} (h:s∈TS):Pt (.str s):=by
 have h:s="="\/s="<"\/s="#":=by simpa [TS] using h
 rcases h with rfl|rfl|rfl<;>exact Zj ∅
theorem zmG {s:Str} (h:s∈RS):Pt (.str s):=by
 have h:s="+"\/s="-"\/s="*":=by simpa [RS] using h
 rcases h with rfl|rfl|rfl<;>exact Zj ∅
theorem Pl.pts {ps:List Xv} (h:Pl x ps):(∀p∈ps,Pt p)/\ps.length<=12/\∃w r,ps= .str w::r/\w∈[("pass":Str),"gain","look","set","draw"]:=by
 have all:∀{l:List Xv},(∀p∈l,Pt p)->∀{q:Xv},Pt q->∀p∈q::l,Pt p:=by
  intro l hl q hq p hp;rcases rX.1 hp with rfl|hp
  .exact hq
  .exact hl p hp
 have nil:∀p∈([]:List Xv),Pt p:=λp hp=>by cases hp
 cases h with
 |pass=>exact⟨all nil (Zj ∅),show 1<=12 by decide,_,_,rfl,∅⟩
 |gain ha=>exact⟨all (all nil (ha.pt)) (Zj ∅),show 2<=12 by decide,_,_,rfl,∅⟩
 |look hs ha hb=>exact⟨all (all (all (all nil (hb.pt)) (zfD hs)) (ha.pt)) (Zj ∅),show 4<=12 by decide,_,_,rfl,∅⟩
 |set1 hn ha=>exact⟨all (all (all nil (ha.pt)) (.inl ⟨_,rfl,hn.wd⟩)) (Zj ∅),show 3<=12 by decide,_,_,rfl,∅⟩
 |set3 hn hs ha hb=>exact⟨all (all (all (all (all nil (hb.pt)) (zmG hs)) (ha.pt)) (.inl ⟨_,rfl,hn.wd⟩)) (Zj ∅),show 5<=12 by decide,_,_,rfl,∅⟩
 | @draw n ws hn h9 h1 hw=>
  refine⟨all (all ?_ (.inl ⟨_,rfl,hn.wd⟩)) (Zj ∅),by rw[rl,rl,rh];omega,_,_,rfl,∅⟩;intro p hp;rw[t9] at hp;obtain⟨v,hv,rfl⟩:=hp;exact .inr ⟨v,rfl,hw v hv⟩
noncomputable def wN (ps:List Xv):Str:=Txt.join " " (ps.map tx)
theorem zch {v:Int} (h0:0<=v) (h1:v<=999999999):v.natAbs.log2<1920:=by
 by_cases h:v.natAbs=0
 .rw[h];decide
 .have:v.natAbs.log2<30:=(Nat.log2_lt h).2 ⋯;omega
theorem zhH {sep:Str} {ts:List Str} {B:Nat} (hB:∀t∈ts,t.length<=B) (h:ts.length*B+ts.length*sep.length<=16777216):JoinOk sep ts=true:=by
 have:=StrLaws.joinFits (sep:=sep) hB h;unfold JoinOk;rw[Bool.not_eq_true'];exact this
theorem ziE {l:List Xv} {f:Nat->Xv} {g:Xv->Xv} (h:∀(i:Nat) p,l[i]? =some p->f i=g p):(rY l.length).map f=l.map g:=by
 apply z4
 .simp
 .intro i p q;have hi:i<l.length:=by simpa using q
  rw[sZ,sZ,w5];exact h i _ (r9 hi)
theorem zci {P:Xv->Sto->Prop} {ρ:Rho} {m:TwE} {ps:List Xv} (hp:∀p∈ps,Pt p) (hl:ps.length<=12) (hm:W (m ρ S) λv S1=>v= .tup ps/\Kn S S1) (k:∀S',Kn S S'->P (.str (wN ps)) S'):
  W (zbW UC (eC (.str " ")) [(xQ [none] (iT m) (gN 0) xR (eFn zaE [(za 0)]))] ρ S) P:=by
 refine zaF ?_;ext;refine⟨⟨_,rfl⟩,?_⟩;ext;refine Xo (xs:=ps) (f:=λi=> .str (tx (ps.getD i .non))) (yU ⋯) (UG hm) ?_ ?_
 .intro i p S2 hi k2;show W (eFn zaE [za 0] [some p] S2) _;ext;rw[rp,hi];rcases hp p (rV hi) with⟨z,rfl,_⟩|⟨v,rfl,h0,h1⟩
  .exact zhy ⟨rfl,Kn.refl⟩
  .exact zbi (zch h0 h1) ⟨rfl,Kn.refl⟩
 .intro S2 k2;rw[ziE (g:=λp=> .str (tx p)) (λi p h=>by rw[rp,h];rfl)];ext;refine zbh (yN zQ) (ts:=ps.map tx) (by rw[<-Wz (ps.map tx),t8];rfl) (zhH (B:=9) ?_ ?_) (k _ k2.app)
  .intro t ht;rw[t9] at ht;obtain⟨p,iG,rfl⟩:=ht;exact (hp p iG).wd.le
  .rw[rh];show ps.length*9+ps.length*1<=_;omega
theorem Uq {P:Xv->Sto->Prop} {a b:List Xv} (h:a.length+b.length<=1000) (k:P (.tup (a++b)) S):WO (zdi (.tup a) (.tup b) S) P:= .of (by unfold zdi;exact if_pos (sD (sx h ∅))) k
theorem zen {ps:List Xv} (h:Pl x ps):W (vT fu [x] S) λv S'=>v= .tup ps/\Kn S S':=by
 walk_at "wr";unfold wz;have no:∀{w u v:Str} {z:Xv} {a:TwS} {N:Rho->Sto->Prop} {R:Xv->Sto->Prop},w≠u->w≠v->N [some z,some (.str w)] S->WS (sIf (bOr (bE (eOp (yk false) (za 1) (eC (.str u)))) (bE (eOp (yk false) (za 1) (eC (.str v))))) a zx [some z,some (.str w)] S) N R:=by
  intro w u v z a N R h h2 k;refine zo (xX ?_);ext;refine ye h ⟨_,rfl,nofun,λ_=> ?_⟩;ext;exact ye h2 ⟨_,rfl,nofun,λ_=>zq k⟩
 have jU:∀{w:Str} {z:Xv} {a:TwS} {N:Rho->Sto->Prop} {R:Xv->Sto->Prop},w∈[("pass":Str),"gain"]->N [some z,some (.str w)] S->WS (sIf (bE (eOp (dIn false) (za 1) (yn [(eC (.str "look")),(eC (.str "if")),(eC (.str "while"))]))) a zx [some z,some (.str w)] S) N R:=by
  intro w z a N R h k;refine zo ?_;ext;refine VG rfl rfl ?_;have h:w="pass"\/w="gain":=by simpa using h
  rcases h with rfl|rfl<;>exact⟨_,rfl,nofun,λ_=>zq k⟩
 cases h with
 |pass=>
  ext;refine no ∅ ∅ (zh (jU ∅ (zh (no ∅ ∅ ?_))));ext;exact⟨rfl,Kn.refl⟩
 | @gain a ha=>
  ext;refine no ∅ ∅ (zh (jU ∅ (zh (zo (xX ?_)))));ext;refine ye ∅ ⟨_,rfl,nofun,λ_=> ?_⟩;ext;refine zS ⟨_,rfl,λ_=> ?_,nofun⟩;ext;exact⟨rfl,Kn.refl⟩
 | @look a b s hs ha hb=>
  ext;refine no ∅ ∅ (zh (zo ?_));ext;refine VG rfl rfl ?_;refine⟨_,rfl,λ_=> ?_,λz=>absurd z ∅⟩;ext;refine Uq (show 1+3<=1000 by decide) ?_;exact⟨rfl,Kn.refl⟩
 | @set1 n a hn ha=>
  ext;refine zo (xX ?_);ext;refine zS ⟨_,rfl,λ_=>⟨λ_=> ?_,nofun⟩,nofun⟩;ext;refine xn rfl rfl ?_;refine Uq ?_ ?_
  .show 2+1<=1000;decide
  exact⟨rfl,Kn.refl⟩
 | @set3 n a b s hn hs ha hb=>
  ext;refine zo (xX ?_);ext;refine zS ⟨_,rfl,λ_=>⟨λ_=> ?_,nofun⟩,nofun⟩;ext;refine xn rfl rfl ?_;refine Uq ?_ ?_
  .show 2+3<=1000;decide
  exact⟨rfl,Kn.refl⟩
 | @draw n ws hn h9 h1 hw=>
  ext;refine zo (xX ?_);ext;refine ye ∅ ⟨_,rfl,nofun,λ_=> ?_⟩;ext;refine zS ⟨_,rfl,λ_=> ?_,nofun⟩;ext;refine xn rfl rfl ?_;refine Uq ?_ ?_
  .rw[rh];show 2+_<=1000;omega
  exact⟨rfl,Kn.refl⟩
theorem Vk (sep:Str) (ts:List Str):Txt.join sep ts=Str.join sep ts:=StrLaws.glued_eq_join sep ts
theorem vF {p q:Xv} {r:List Xv}:wN (p::q::r)=tx p++" "++wN (q::r):=by
 unfold wN;rw[Vk,Vk];rfl
theorem va {p:Xv}:wN [p]=tx p:=by
 unfold wN;rw[Vk];rfl
theorem Ue {ps:List Xv} (hp:∀p∈ps,Pt p) (hl:ps.length<=12):(wN ps).length<=120:=by
 unfold wN;rw[Vk];have h1:=StrLaws.join_length_le " " (ps.map tx)
 have h2:=StrLaws.sumLen_le (B:=9) (ps.map tx) (λt ht=>by
  rw[t9] at ht;obtain⟨p,iG,rfl⟩:=ht
  exact (hp p iG).wd.le)
 rw[rh] at h1 h2;have h3:((" ":Str)).length=1:=rfl;rw[h3] at h1;omega
theorem Tc {ps:List Xv} (hp:∀p∈ps,Pt p) (hl:ps.length<=12):W (yO fu [.tup ps] S) λv S'=>v= .str (wN ps)/\Kn S S':=by
 walk_at "wr";unfold ZW;refine YZ (zci hp hl ?_ λS1 k1=>⟨rfl,k1⟩);ext;exact⟨rfl,Kn.refl⟩
structure Vv (S:Sto) (o:Nat) (wss:List (List Str)) (k:Nat) (l:Nat) (ms:List Nat):Prop where
 ob:S[o]? =some (.ins "Rows" [("rows",.ref l),("place",.int (k:Int))])
 li:S[l]? =some (.lst (ms.map Xv.ref))
 len:ms.length=wss.length
 at_:∀(i m:Nat) (ws:List Str),ms[i]? =some m->wss[i]? =some ws->Txs S m ws
theorem Vv.keep {o k l:Nat} {wss:List (List Str)} {ms:List Nat} (h:Vv S o wss k l ms) (q:Kn S S'):Vv S' o wss k l ms:=⟨q.at h.ob,q.at h.li,h.len,λi m ws a b=>q.at (h.at_ i m ws a b)⟩
theorem Uf {o k l:Nat} {wss:List (List Str)} {ms:List Nat} (h:Vv S o wss k l ms) (hk:k<=wss.length) (hw:∀ws∈wss,ws≠[]):
  W (zR fu [.ref o] S) λv S'=>v=(match wss[k]? with|some (w::_)=> .str w|_=> .non)/\S=S':=by
 have el:=h.li;walk_at "wr";unfold vz;refine zh (zo ?_);ext;refine zaD ?_;ext;refine⟨_,_,_,rfl,h.ob,rfl,?_⟩;ext;refine zaD ?_;ext;refine⟨_,_,_,rfl,h.ob,rfl,?_⟩;ext;refine xw (zm el) ?_;ext;rw[rh,h.len];refine yd (λe=> ?_) (λe=>zq ?_)
 .ext;rw[sy ⋯];exact⟨rfl,rfl⟩
 .have il:k<wss.length:=by omega
  have ku:k<ms.length:=by rw[h.len];exact il
  have hb:=h.at_ k _ _ (r9 ku) (r9 il);have dM:=hw _ (uk il);ext;refine zaD ?_;ext;refine⟨_,_,_,rfl,h.ob,rfl,?_⟩;ext;refine zaD ?_;ext;refine⟨_,_,_,rfl,h.ob,rfl,?_⟩;ext;refine xx (zm el) (z:= .ref ms[k]) (Zx ⋯ (by rw[sH,rq,r9 ku];rfl)) ?_;ext;rw[r9 il];revert hb dM;cases wss[k] with
  |nil=>intro _ q;exact absurd rfl q
  |cons w r=>
   intro hb _;exact xx (zm hb) (z:= .str w) (Zx ∅ rfl) ⟨rfl,rfl⟩
theorem zhI {o k l:Nat} {wss:List (List Str)} {ms:List Nat} {ws:List Str} (h:Vv S o wss k l ms) (hk:wss[k]? =some ws):
  W (xN fu [.ref o] S) λv S'=>∃m,v= .ref m/\Txs S' m ws/\Vv S' o wss (k+1) l ms/\Kp (· =o) S S':=by
 have il:=(rg.1 hk).1;have ku:k<ms.length:=by rw[h.len];exact il
 have hb:=h.at_ k _ _ (r9 ku) hk;have ne:∀{n:Nat} {xs:List Xv},S[n]? =some (.lst xs)->n≠o:=λe q=>by rw[q,h.ob] at e;cases e
 walk_at "wr";unfold Wc;ext;refine zaD ?_;ext;refine⟨_,_,_,rfl,h.ob,rfl,?_⟩;ext;refine zaD ?_;ext;refine⟨_,_,_,rfl,h.ob,rfl,?_⟩;ext;refine xx (zm h.li) (z:= .ref ms[k]) (Zx ⋯ (by rw[sH,rq,r9 ku];rfl)) ?_;ext;refine zlF ?_;ext;refine⟨_,_,_,rfl,h.ob,rfl,?_⟩;ext;refine⟨_,_,rfl,h.ob,show 2<1000 by decide,?_⟩;ext;have kp:∀{c:Ce},Kp (· =o) S (S.set o c):=(Kp.refl _).set (.inl rfl);refine⟨kp.2 _ _ hb (ne hb),⟨?_,kp.2 _ _ h.li (ne h.li),h.len,λi m ws a b=>kp.2 _ _ (h.at_ i m ws a b) (ne (h.at_ i m ws a b))⟩,kp⟩;exact xa h.ob
noncomputable def w1 (z:Str):List Xv:=[.str z]
noncomputable def xb (b:Str):List (List (List Xv))->List (List Xv)
 |[]=>[]
 |[r]=>r
 |r::q::t=>r++w1 b::xb b (q::t)
theorem zdw {b:Str} {r:List (List Xv)}:∀{l:List (List (List Xv))},l≠[]->xb b (l++[r])=xb b l++w1 b::r
 |[],h=>absurd rfl h
 |[a],_=>rfl
 |a::c::t,_=>by
  show a++w1 b::xb b ((c::t)++[r])=(a++w1 b::xb b (c::t))++w1 b::r;rw[zdw (l:=c::t) (by intro q;cases q),sv];rfl
inductive Nx:Xv->List (List Xv)->List Xv->Str->Prop where
 |cond {a b:Xv} {s:Str} {u v:List Xv}:s∈TS->SOp a->SOp b->Nx (.tup [.str "if",.tup [a,.str s,b],.tup u,.tup v]) [u,v] [.str "if",a,.str s,b] "else"
 |whil {a b:Xv} {s:Str} {u:List Xv}:s∈TS->SOp a->SOp b->Nx (.tup [.str "while",.tup [a,.str s,b],.tup u]) [u] [.str "while",a,.str s,b] "or"
 |times {k:Int} {u:List Xv}:0<=k->k<=999999999->Nx (.tup [.str "times",.int k,.tup u]) [u] [.str "times",.int k] "or"
 |hand {us:List (List Xv)}:2<=us.length->us.length<=10->Nx (.tup [.str "hand",.tup (us.map Xv.tup)]) us [.str "hand"] "or"
inductive Pg:Kd->List (List Xv)->Nat->Prop where
 |plain {x:Xv} {ps:List Xv} {q:Nat}:Pl x ps->Pg (.d x) [ps] q
 |nest {x:Xv} {us:List (List Xv)} {rss:List (List (List Xv))} {hd:List Xv} {bw:Str} {q:Nat}:Nx x us hd bw->us.length=rss.length->(∀(i:Nat) u r,us[i]? =some u->rss[i]? =some r->Pg (.b u) r q)->Pg (.d x) (hd::(xb bw rss++[w1 "end"])) (q+1)
 |blk {ds:List Xv} {rss:List (List (List Xv))} {q:Nat}:ds.length=rss.length->(∀(i:Nat) x r,ds[i]? =some x->rss[i]? =some r->Pg (.d x) r q)->Pg (.b ds) rss.flatten q
theorem Pg.mono {kd:Kd} {rows:List (List Xv)} {q:Nat} (h:Pg kd rows q):∀{p:Nat},q<=p->Pg kd rows p:=by
 induction h with
 |plain h=>intro p _;exact .plain h
 |nest h1 h2 _ ih=>
  intro p hp;obtain⟨p,rfl⟩:∃m,p=m+1:=⟨p-1,⋯⟩;exact .nest h1 h2 λi u r a b=>ih i u r a b ⋯
 |blk h1 _ ih=>intro p hp;exact .blk h1 λi u r a b=>ih i u r a b hp
theorem Pg.nil {q:Nat}:Pg (.b []) [] q:= .blk (rss:=[]) rfl λi x r h=>by simp at h
theorem Pg.snoc {l:List Xv} {r r':List (List Xv)} {q:Nat} (h:Pg (.b l) r q) (g:Pg (.d x) r' q):Pg (.b (l++[x])) (r++r') q:=by
 cases h with
 | @blk _ rss _ hl h=>
  have e:rss.flatten++r'=(rss++[r']).flatten:=by rw[t6];simp
  rw[e];refine .blk (by rw[rk,rk,hl];rfl) λi y s h1 h2=> ?_;by_cases hi:i<l.length
  .rw[rB hi] at h1;rw[rB ⋯] at h2;exact h i y s h1 h2
  .have:=(rg.1 h1).1;rw[rk,rC] at this;obtain rfl:i=l.length:=by omega
   rw[rL (rj _),tY] at h1;rw[rL ⋯,show l.length-rss.length=0 by omega] at h2;cases h1;cases h2;exact g
theorem zhJ {α:Type}:∀{l:List (List α)} {i:Nat} {r:List α},l[i]? =some r->r.length<=l.flatten.length
 |[],i,r,h=>by simp at h
 |a::t,0,r,h=>by
  cases h;rw[ub,rk];omega
 |a::t,i+1,r,h=>by
  have:=zhJ (l:=t) (i:=i) (r:=r) (by simpa using h);rw[ub,rk];omega
theorem zgM {b:Str}:∀{l:List (List (List Xv))} {i:Nat} {r:List (List Xv)},l[i]? =some r->r.length<=(xb b l).length
 |[],i,r,h=>by simp at h
 |[a],0,r,h=>by cases h;exact rj _
 |[a],i+1,r,h=>by simp at h
 |a::c::t,0,r,h=>by
  cases h;show a.length<=(a++w1 b::xb b (c::t)).length;rw[rk];omega
 |a::c::t,i+1,r,h=>by
  have:=zgM (b:=b) (l:=c::t) (i:=i) (r:=r) (by simpa using h);show r.length<=(a++w1 b::xb b (c::t)).length;rw[rk,rl];omega
theorem Nx.nd {us:List (List Xv)} {hd:List Xv} {bw:Str} (h:Nx x us hd bw):∃tk,Nd x us tk true:=by
 cases h with
 |cond=>exact⟨_,.cond⟩
 |whil=>exact⟨_,.whil⟩
 |times=>exact⟨_,.times⟩
 |hand=>exact⟨_,.hand⟩
theorem Nx.pts {us:List (List Xv)} {hd:List Xv} {bw:Str} (h:Nx x us hd bw):(∀p∈hd,Pt p)/\hd.length<=12/\∃w r,hd= .str w::r/\w∈[("if":Str),"while","times","hand"]:=by
 have all:∀{l:List Xv},(∀p∈l,Pt p)->∀{q:Xv},Pt q->∀p∈q::l,Pt p:=by
  intro l hl q hq p hp;rcases rX.1 hp with rfl|hp
  .exact hq
  .exact hl p hp
 have nil:∀p∈([]:List Xv),Pt p:=λp hp=>by cases hp
 cases h with
 |cond hs ha hb=>exact⟨all (all (all (all nil hb.pt) (zfD hs)) ha.pt) (Zj ∅),show 4<=12 by decide,_,_,rfl,∅⟩
 |whil hs ha hb=>exact⟨all (all (all (all nil hb.pt) (zfD hs)) ha.pt) (Zj ∅),show 4<=12 by decide,_,_,rfl,∅⟩
 |times h0 h1=>exact⟨all (all nil (.inr ⟨_,rfl,h0,h1⟩)) (Zj ∅),show 2<=12 by decide,_,_,rfl,∅⟩
 |hand=>exact⟨all nil (Zj ∅),show 1<=12 by decide,_,_,rfl,∅⟩
def zaf (ps:List Xv):Prop:=(∀p∈ps,Pt p)/\ps.length<=12/\∃w r,ps= .str w::r/\w≠"box"
theorem zhK {z:Str} (h:z∈[("pass":Str),"gain","look","set","draw","box","=","<","#","+","-","*","if","while","times","hand","else","or","end"]) (hb:z≠"box"):zaf (w1 z):=⟨λp hp=>by
 have:p= .str z:=by simpa [w1] using hp
 rw[this]
 exact Zj h,show 1<=12 by decide,z,[],rfl,hb⟩
theorem zhL {b:Str} {p:List Xv}:∀{l:List (List (List Xv))},p∈xb b l->p=w1 b\/∃(i:Nat) (r:List (List Xv)),l[i]? =some r/\p∈r
 |[],h=>by cases h
 |[a],h=> .inr ⟨0,a,rfl,h⟩
 |a::c::t,h=>by
  have h:p∈a++w1 b::xb b (c::t):=h;rw[sA,rX] at h;rcases h with h|h|h
  .exact .inr ⟨0,a,rfl,h⟩
  .exact .inl h
  .rcases zhL h with h|⟨i,r,e,h⟩
   .exact .inl h
   .exact .inr ⟨i+1,r,e,h⟩
theorem Pg.rowok {kd:Kd} {rows:List (List Xv)} {q:Nat} (h:Pg kd rows q):∀ps∈rows,zaf ps:=by
 induction h with
 |plain h=>
  intro ps hp;rw[sG] at hp;subst hp;obtain⟨a,b,w,r,e,hw⟩:=h.pts;exact⟨a,b,w,r,e,λz=>by subst z;exact absurd hw ∅⟩
 | @nest x us rss hd bw q h1 h2 _ ih=>
  intro ps hp;rw[rX,sA,sG] at hp;rcases hp with rfl|hp|rfl
  .obtain⟨a,b,w,r,e,hw⟩:=h1.pts;exact⟨a,b,w,r,e,λz=>by subst z;exact absurd hw ∅⟩
  .rcases zhL hp with rfl|⟨i,r,e,hp⟩
   .cases h1<;>exact zhK ∅ ∅
   .have hi:=(rg.1 e).1;exact ih i _ r (r9 ⋯) e ps hp
  .exact zhK ∅ ∅
 | @blk ds rss q h1 _ ih=>
  intro ps hp;rw[List.mem_flatten] at hp;obtain⟨r,hr,hp⟩:=hp;obtain⟨i,hi,rfl⟩:=tV.1 hr;exact ih i _ _ (r9 ⋯) (r9 hi) ps hp
noncomputable def yL (oq:List (List Xv)):List Xv:=oq.map λps=> .str (wN ps)
theorem szM {n:Nat} (h:n<=9999):n<sizeLine:=sx h ∅
def ShP (fu:Nat):Kd->List (List Xv)->Nat->Prop
 | .d x,rows,q=>∀f S,2*q+1<=f->rows.length<=2000->W (yC fu f [x] S) λv S'=>∃n,v= .ref n/\S'[n]? =some (.lst (yL rows))/\S.length<=n/\Kn S S'
 | .b ds,rows,q=>∀f S,2*q+2<=f->rows.length<=2000->W (ya fu f [.tup ds] S) λv S'=>∃n,v= .ref n/\S'[n]? =some (.lst (yL rows))/\S.length<=n/\Kn S S'
 | .s _,_,_=>True
theorem Nx.words {us:List (List Xv)} {hd:List Xv} {bw:Str} (h:Nx x us hd bw):W (vT fu [x] S) λv S'=>v= .tup hd/\Kn S S':=by
 walk_at "wr";unfold wz;have no:∀{w u v:Str} {z:Xv} {a:TwS} {N:Rho->Sto->Prop} {R:Xv->Sto->Prop},w≠u->w≠v->N [some z,some (.str w)] S->WS (sIf (bOr (bE (eOp (yk false) (za 1) (eC (.str u)))) (bE (eOp (yk false) (za 1) (eC (.str v))))) a zx [some z,some (.str w)] S) N R:=by
  intro w u v z a N R h h2 k;refine zo (xX ?_);ext;refine ye h ⟨_,rfl,nofun,λ_=> ?_⟩;ext;exact ye h2 ⟨_,rfl,nofun,λ_=>zq k⟩
 have jU:∀{w:Str} {z:Xv} {a:TwS} {N:Rho->Sto->Prop} {R:Xv->Sto->Prop},w∈[("times":Str),"hand"]->N [some z,some (.str w)] S->WS (sIf (bE (eOp (dIn false) (za 1) (yn [(eC (.str "look")),(eC (.str "if")),(eC (.str "while"))]))) a zx [some z,some (.str w)] S) N R:=by
  intro w z a N R h k;refine zo ?_;ext;refine VG rfl rfl ?_;have h:w="times"\/w="hand":=by simpa using h
  rcases h with rfl|rfl<;>exact⟨_,rfl,nofun,λ_=>zq k⟩
 cases h with
 |cond hs ha hb=>
  ext;refine no ∅ ∅ (zh (zo ?_));ext;refine VG rfl rfl ?_;refine⟨_,rfl,λ_=> ?_,λz=>absurd z ∅⟩;ext;refine Uq (show 1+3<=1000 by decide) ?_;exact⟨rfl,Kn.refl⟩
 |whil hs ha hb=>
  ext;refine no ∅ ∅ (zh (zo ?_));ext;refine VG rfl rfl ?_;refine⟨_,rfl,λ_=> ?_,λz=>absurd z ∅⟩;ext;refine Uq (show 1+3<=1000 by decide) ?_;exact⟨rfl,Kn.refl⟩
 |times=>
  ext;refine no ∅ ∅ (zh (jU ∅ (zh (zo (xX ?_)))));ext;refine zS ⟨_,rfl,λ_=>⟨λ_=> ?_,nofun⟩,nofun⟩;ext;exact⟨rfl,Kn.refl⟩
 |hand=>
  ext;refine no ∅ ∅ (zh (jU ∅ (zh (no ∅ ∅ ?_))));ext;exact⟨rfl,Kn.refl⟩
theorem zlZ {m:TwE} {ρ:Rho} {Q':(Sto->Option (List Xv))->Sto->Prop} (h:W (m ρ S) λx S1=>∃l,x.tupOf=some l/\Q' (λ_=>some (zdk l)) S1):W (zlm m ρ S) Q':=W.bind (h.imp λx S1 h=>by
 obtain⟨l,e,k⟩:=h;rw[e]
 exact .of rfl k)
theorem YV (a b:List (List Xv)):yL (a++b)=yL a++yL b:=rW
theorem xV (a:List (List Xv)):(yL a).length=a.length:=rh _
theorem zag {b:Str} {rss:List (List (List Xv))} {i:Nat} {r:List (List Xv)} (h:rss[i]? =some r):xb b (rss.take (i+1))=(if i=0 then [] else xb b (rss.take i)++[w1 b])++r:=by
 have hi:=(rg.1 h).1;rw[sd hi,(rg.1 h).2];by_cases h0:i=0
 .subst h0;rw[if_pos rfl];rfl
 .rw[if_neg h0,zdw (by intro q;have:=congrArg v5 q;rw[sL] at this;have:min i rss.length=0:=this;omega),sv];rfl
theorem Yr {b:Str}:∀(l:List (List (List Xv))) (i:Nat),(xb b (l.take i)).length<=(xb b l).length
 |[],i=>by simp
 |a::t,0=>rS _
 |[a],i+1=>by rw[Ao,Bd];exact rj _
 |a::c::t,1=>by
  show a.length<=(a++w1 b::xb b (c::t)).length;rw[rk];omega
 |a::c::t,i+2=>by
  have:=Yr (b:=b) (c::t) (i+1);rw[Ao] at this;show (a++w1 b::xb b (c::t.take i)).length<=(a++w1 b::xb b (c::t)).length;rw[rk,rk,rl,rl];omega
theorem zpE {w:Str} (h:w∈[("if":Str),"while","times","hand"]):decide (w="if"\/w="while"\/w="times"\/w="hand")=true:=decide_eq_true (by simpa using h)
theorem zl0 {kd:Kd} {rows:List (List Xv)} {q:Nat} (h:Pg kd rows q):ShP fu kd rows q:=by
 induction h with
 | @plain x ps q h=>
  intro f S hf hl;obtain⟨f,rfl⟩:∃e,f=e+1:=⟨f-1,⋯⟩;obtain⟨hp,hl,w,r,rfl,hw⟩:=h.pts;rw[vV];walk_at "wr";unfold vU;ext;refine zci hp hl ?_ λS1 k1=> ?_
  .ext;exact zen h
  ext;obtain⟨r2,hx⟩:∃r2,x= .tup (.str w::r2):=by
   generalize fN:Xv.str w::r=ps at h;cases h<;>(obtain⟨e1,_⟩:=sq fN;cases e1;exact⟨_,rfl⟩)
  subst hx;refine zo ?_;ext;refine in4 ?_
  rw[decide_eq_false (show ¬ (w = "if" \/ w = "while" \/ w = "times" \/ w = "hand") from λq => by
   have hw:w="pass"\/w="gain"\/w="look"\/w="set"\/w="draw":=by simpa using hw
   rcases hw with rfl|rfl|rfl|rfl|rfl<;>exact absurd q ∅)]
  refine⟨_,rfl,λ_=> ?_,nofun⟩;ext;exact⟨zQ,k1.1,k1.app⟩
 | @nest x us rss hd bw q h1 h2 _ ih=>
  intro f S hf hl;obtain⟨f,rfl⟩:∃e,f=e+1:=⟨f-1,⋯⟩;rw[rl,rk,rC] at hl;obtain⟨hp,iX,w,r,rfl,hw⟩:=h1.pts;obtain⟨r2,hx,lB⟩:∃r2,x= .tup (.str w::r2)/\bw=if w="if" then "else" else "or":=by
   generalize fN:Xv.str w::r=ps at h1;cases h1<;>(obtain⟨e1,_⟩:=sq fN;cases e1;exact⟨_,rfl,rfl⟩)
  rw[vV];walk_at "wr";unfold vU;ext;refine zci hp iX ?_ λS1 k1=> ?_
  .ext;exact h1.words
  subst hx;ext;refine zo ?_;ext;refine in4 ?_;rw[zpE hw];refine⟨_,rfl,nofun,λ_=>zq ?_⟩;ext;refine zny ?_;ext;refine zbl ?_;have goal:∀{N:Rho->Sto->Prop},WS ((Wp (zlm (ze (xK fu) [(za 0)])) (gT 2 (yA (gN 3) (yA (gN 4) Yg))) (zk (sIf (bE (eOp dGt (za 3) (eC (.int 0)))) (yJ (eMt yg (za 1) [(za 2)])) zx) (yJ (eMt Xw (za 1) [(ze (ya fu f) [(za 4)])])))) [some (.tup (.str w::r2)),some (.ref S1.length),some (.str bw),none,none] (S1++[.lst [.str (wN (.str w::r))]])) (λρ1 S1=>WS ((zk (yJ (eMt yg (za 1) [(eC (.str "end"))])) (zG (za 1))) ρ1 S1) N (λv S'=>∃n,v= .ref n/\S'[n]? =some (.lst (yL ((Xv.str w::r)::(xb bw rss++[w1 "end"]))))/\S.length<=n/\Kn S S')) (λv S'=>∃n,v= .ref n/\S'[n]? =some (.lst (yL ((Xv.str w::r)::(xb bw rss++[w1 "end"]))))/\S.length<=n/\Kn S S'):=by
   intro N;obtain⟨tk,nd⟩:=h1.nd;refine vw (zlZ ?_);ext;refine (zac nd).imp ?_;rintro _ _ ⟨rfl,rfl⟩;refine⟨_,rfl,_,rfl,?_⟩;refine wG (λi ρ S3=>∃a3 a4:Option Xv,ρ=[some (.tup (.str w::r2)),some (.ref S1.length),some (.str bw),a3,a4]/\S3[S1.length]? =some (.lst (yL ((Xv.str w::r)::xb bw (rss.take i))))/\Kn S1 S3) (λ_ _ _ _ _=>rfl) ?_ ?_ ?_
   .rintro i z ρ S3 hz ⟨a3,a4,rfl,ai,kn⟩;obtain⟨z,ez,rfl⟩:=ze3 hz;rw[rq,rG] at ez;obtain⟨u,eu,rfl⟩:=ez;have hi:=(rg.1 eu).1;have jv:i<rss.length:=by omega
    have er:=r9 jv;have hle:=zgM (b:=bw) er;have kq:=Yr (b:=bw) rss i;have iJ:=Yr (b:=bw) rss (i+1);rw[zag er,rk] at iJ;refine .of rfl ?_;dsimp only[sM];refine zh (xm (λρ S4=>ρ=[some (.tup (.str w::r2)),some (.ref S1.length),some (.str bw),some (.int (i:Int)),some (.tup u)]/\S4[S1.length]? =some (.lst (yL ((Xv.str w::r)::(if i=0 then [] else xb bw (rss.take i)++[w1 bw]))))/\Kn S1 S4) (zo ?_) ?_)
    .ext;refine yd (λh0=> ?_) (λh0=> ?_)
     .ext;refine Yj ?_;ext;refine⟨⟨_,zm ai⟩,?_⟩;ext;refine xk (yN ai) (by rw[xV,rl];exact szM ⋯) ?_;ext;refine⟨rfl,?_,kn.set (.inr (rj _))⟩;rw[xa ai,if_neg ⋯,<-sR,YV];show _=some (Ce.lst (_++[Xv.str (wN (w1 bw))]));unfold w1;rw[va];rfl
     .ext;obtain rfl:i=0:=by omega
      exact⟨rfl,ai,kn⟩
    rintro ρ S4 ⟨rfl,jD,oI⟩;ext;refine Yj ?_;ext;refine⟨⟨_,zm jD⟩,?_⟩;ext;refine (ih i u _ eu er f S4 ⋯ ⋯).imp ?_;rintro _ S5 ⟨n,rfl,hn,gZ,k5⟩;ext;refine zaO (yN (k5.at jD)) (zm hn) ?_ ?_
    .rw[xV,xV,rl];exact sD (szM ⋯)
    ext;refine⟨_,_,rfl,?_,(oI.trans k5).set (.inr (rj _))⟩;rw[xa (k5.at jD),zag er,<-YV];rfl
   .exact⟨none,none,rfl,by rw[zQ];rfl,Kn.refl.app⟩
   .rintro ρ S3 ⟨a3,a4,rfl,ai,kn⟩;rw[zdl,rh,h2,sF] at ai;ext;refine Yj ?_;ext;refine⟨⟨_,zm ai⟩,?_⟩;ext;refine xk (yN ai) (by rw[xV,rl];exact szM ⋯) ?_;ext;refine⟨?_,k1.1,k1.trans (kn.set (.inr (rj _)))⟩;rw[xa ai,<-sR,YV];show _=some (Ce.lst (_++[Xv.str (wN (w1 "end"))]));unfold w1;rw[va];rfl
  refine⟨_,rfl,λe=> ?_,λe=> ?_⟩
  .rw[lB,if_pos (of_decide_eq_true e)] at goal;rw[lB,if_pos (of_decide_eq_true e)];ext;exact goal
  .rw[lB,if_neg (of_decide_eq_false e)] at goal;rw[lB,if_neg (of_decide_eq_false e)];ext;exact goal
 | @blk ds rss q h1 _ ih=>
  intro f S hf hl;obtain⟨f,rfl⟩:∃e,f=e+1:=⟨f-1,⋯⟩;rw[Xj];walk_at "wr";unfold wU;ext;refine vw (zdn ?_);ext;refine wG (λi ρ S3=>∃a2:Option Xv,ρ=[some (.tup ds),some (.ref S.length),a2]/\S3[S.length]? =some (.lst (yL (rss.take i).flatten))/\Kn S S3) (λ_ _ _ _ _=>rfl) ?_ ?_ ?_
  .rintro i x ρ S3 hx ⟨a2,rfl,ai,kn⟩;have hi:=(rg.1 hx).1;have kx:i<rss.length:=by omega
   have er:=r9 kx;have e3:(rss.take (i+1)).flatten=(rss.take i).flatten++rss[i]:=by rw[sd kx,t6];simp
   have hle:((rss.take i).flatten++rss[i]).length<=rss.flatten.length:=by
    rw[<-e3]
    conv=>rhs;rw[<-uh (i+1) rss,t6,rk]
    omega
   rw[rk] at hle;refine .of rfl ?_;dsimp only[sM];ext;refine Yj ?_;ext;refine⟨⟨_,zm ai⟩,?_⟩;ext;refine (ih i x _ hx er f S3 ⋯ ⋯).imp ?_;rintro _ S4 ⟨n,rfl,hn,gZ,k4⟩;ext;refine zaO (yN (k4.at ai)) (zm hn) ?_ ?_
   .rw[xV,xV];exact sD (szM ⋯)
   ext;refine⟨?_,(kn.trans k4).set (.inr (rj _))⟩;rw[xa (k4.at ai),e3,YV]
  .exact⟨none,rfl,zQ,Kn.refl.app⟩
  .rintro ρ S3 ⟨a2,rfl,ai,kn⟩;rw[h1,sF] at ai;ext;exact⟨ai,rj _,kn⟩
theorem Vl {P:Xv->Sto->Prop} {m n:Nat} {a b:List (List Xv)} (h1:S[m]? =some (.lst (yL a))) (h2:S[n]? =some (.lst (yL b))) (hl:a.length+b.length<=9000) (k:P (.ref S.length) (S++[.lst (yL (a++b))])):WO (wS (.ref m) (.ref n) S) P:=by
 rw[YV] at k;refine WO.of ?_ k;unfold wS;rw[zm h1,zm h2];exact if_pos (by rw[xV,xV];exact sD (szM ⋯))
noncomputable def lrB (fu f:Nat):TwS:=(sIf (bE (eOp (yk false) (eOp zM (za 2) (eC (.int 0))) (eC (.str "pass")))) (yJ (eMt yg (za 1) [(eC (.str "pass"))])) (sIf (bE (eOp (yk false) (eOp zM (za 2) (eC (.int 0))) (eC (.str "gain")))) (yJ (eMt yg (za 1) [(eOp xf (eC (.str "gain ")) (eFn zaE [(eOp zM (za 2) (eC (.int 1)))]))])) (sIf (bOr (bE (eOp (yk false) (eOp zM (za 2) (eC (.int 0))) (eC (.str "set")))) (bE (eOp (yk false) (eOp zM (za 2) (eC (.int 0))) (eC (.str "draw"))))) (yJ (eMt yg (za 1) [(eOp xf (eOp xf (eOp xf (eOp xf (eOp zM (za 2) (eC (.int 0))) (eC (.str " "))) (eOp zM (za 2) (eC (.int 1)))) (eC (.str " "))) (ze (yO fu) [(eOp zM (za 2) (eC (.int 2)))]))])) (sIf (bE (eOp (yk false) (eOp zM (za 2) (eC (.int 0))) (eC (.str "look")))) (yJ (eMt yg (za 1) [(eOp xf (eC (.str "look ")) (ze (yO fu) [(eOp zM (za 2) (eC (.int 1)))]))])) (zF (eOp wS (za 1) (ze (zI fu f) [(za 2)])) (gN 1))))))
theorem zkv {f:Nat}:Zh fu (yh fu f) (zI fu f)=(zk (zF (wv []) (gN 1)) (zk (Wp (iA (za 0)) (gN 2) (lrB fu f)) (zG (za 1)))):=rfl
def LrP (fu:Nat):Kd->List (List Xv)->Nat->Prop
 | .d x,rows,q=>∀(f:Nat) (S T0:Sto) (m:Nat) (l:List (List Xv)) (v0:Xv) (R:Xv->Sto->Prop),2*q<=f->l.length+rows.length<=2000->S[m]? =some (.lst (yL l))->T0.length<=m->Kn T0 S->
  WS (lrB fu f [some v0,some (.ref m),some x] S) (λρ S'=>∃m',ρ=[some v0,some (.ref m'),some x]/\S'[m']? =some (.lst (yL (l++rows)))/\T0.length<=m'/\Kn T0 S') R
 | .b ds,rows,q=>∀(f:Nat) (S:Sto) (x:Xv),2*q+1<=f->rows.length<=2000->(x= .tup ds\/∃m,x= .ref m/\S[m]? =some (.lst ds))->W (yh fu f [x] S) λv S'=>∃n,v= .ref n/\S'[n]? =some (.lst (yL rows))/\S.length<=n/\Kn S S'
 | .s _,_,_=>True
theorem zaQ {m:Nat} {l:List (List Xv)} {ps:List Xv} {T0:Sto} {v0:Xv} {e:TwE} {R:Xv->Sto->Prop} (hl:l.length+1<=2000) (ai:S[m]? =some (.lst (yL l))) (hm:T0.length<=m) (kT:Kn T0 S)
  (he:W (e [some v0,some (.ref m),some x] S) λv S'=>v= .str (wN ps)/\Kn S S'):
  WS (yJ (eMt yg (za 1) [e]) [some v0,some (.ref m),some x] S) (λρ S'=>∃m',ρ=[some v0,some (.ref m'),some x]/\S'[m']? =some (.lst (yL (l++[ps])))/\T0.length<=m'/\Kn T0 S') R:=by
 ext;refine Yj ?_;ext;refine⟨⟨_,zm ai⟩,?_⟩;ext;refine he.imp ?_;rintro _ S1 ⟨rfl,k1⟩;ext;refine xk (yN (k1.at ai)) (by rw[xV];exact szM ⋯) ?_;ext;refine⟨?_,hm,(kT.trans k1).set (.inr hm)⟩;rw[xa (k1.at ai),YV];rfl
theorem zkw {ps:List Xv} {f m:Nat} {l:List (List Xv)} {T0:Sto} {v0:Xv} {R:Xv->Sto->Prop} (h:Pl x ps) (hl:l.length+1<=2000) (ai:S[m]? =some (.lst (yL l))) (hm:T0.length<=m) (kT:Kn T0 S):
  WS (lrB fu f [some v0,some (.ref m),some x] S) (λρ S'=>∃m',ρ=[some v0,some (.ref m'),some x]/\S'[m']? =some (.lst (yL (l++[ps])))/\T0.length<=m'/\Kn T0 S') R:=by
 obtain⟨hp,lD,_⟩:=h.pts;unfold lrB;have no:∀{w v:Str} {r:List Xv} {a b:TwS} {N:Rho->Sto->Prop} {R:Xv->Sto->Prop},w≠v->WS (b [some v0,some (.ref m),some (.tup (.str w::r))] S) N R->WS (sIf (bE (eOp (yk false) (eOp zM (za 2) (eC (.int 0))) (eC (.str v)))) a b [some v0,some (.ref m),some (.tup (.str w::r))] S) N R:=by
  intro w v r a b N R h k;refine zo ?_;ext;exact ye h ⟨_,rfl,nofun,λ_=>k⟩
 have fI:∀{n:Nat},n<=999->n<=sizeLine:=λh=>sD (sx h ∅);have big:∀{w n:Str} {r:List Xv} {q:Xv} {N:Rho->Sto->Prop},Vu w->Vu n->(∀z∈(.str w:: .str n::q::r),Pt z)->(Xv.str w:: .str n::q::r).length<=12->
   W (eOp xf (eOp xf (eOp xf (eOp xf (eOp zM (za 2) (eC (.int 0))) (eC (.str " "))) (eOp zM (za 2) (eC (.int 1)))) (eC (.str " "))) (ze (yO fu) [(eOp zM (za 2) (eC (.int 2)))]) [some v0,some (.ref m),some (.tup [.str w,.str n,.tup (q::r)])] S) λv S'=>v= .str (wN (.str w:: .str n::q::r))/\Kn S S':=by
  intro w n r q N hw hn h1 h2;have h3:∀z∈q::r,Pt z:=λz hz=>h1 z (rF _ (rF _ hz));have h4:(q::r).length<=12:=by
   rw[rl,rl] at h2;omega
  have l1:=hw.le;have l2:=hn.le;have ls:((" ":Str)).length=1:=rfl;ext;refine wM (fI (by show _+1<=_;omega)) ?_;ext;refine wM (fI (by rw[Str.length_append,ls];omega)) ?_;ext;refine wM (fI (by rw[Str.length_append,Str.length_append,ls];omega)) ?_;ext;refine xn rfl rfl ?_;ext;refine (Tc h3 h4).imp ?_;rintro _ S1 ⟨rfl,k1⟩;have lr:=Ue h3 h4;refine wM (fI (by rw[Str.length_append,Str.length_append,Str.length_append,ls];omega)) ?_;refine⟨?_,k1⟩;rw[vF,vF];show Xv.str (w++" "++n++" "++wN (q::r))=Xv.str (w++" "++(n++" "++wN (q::r)));simp only[Str.append_assoc]
 cases h with
 |pass=>
  refine zo ?_;ext;refine zS ⟨_,rfl,λ_=> ?_,nofun⟩;refine zaQ hl ai hm kT ?_;ext;exact⟨by rw[va];rfl,Kn.refl⟩
 | @gain a ha=>
  refine no ∅ (zo ?_);ext;refine zS ⟨_,rfl,λ_=> ?_,nofun⟩;refine zaQ hl ai hm kT ?_;have w:=ha.pt.wd.le;have e:wN [.str "gain",a]="gain "++tx a:=by
   rw[vF,va];rfl
  rw[e];have fin:WO (xf (.str "gain ") (.str (tx a)) S) λv S'=>v= .str ("gain "++tx a)/\Kn S S':=wM (fI (by show 5+_<=_;omega)) ⟨rfl,Kn.refl⟩;ext;rcases ha.pt with⟨z,rfl,_⟩|⟨v,rfl,h0,h1⟩
  .exact zhy fin
  .exact zbi (zch h0 h1) fin
 | @look a b s hs ha hb=>
  refine no ∅ (no ∅ (zo (xX ?_)));ext;refine ye ∅ ⟨_,rfl,nofun,λ_=> ?_⟩;ext;refine ye ∅ ⟨_,rfl,nofun,λ_=>zo ?_⟩;ext;refine zS ⟨_,rfl,λ_=> ?_,nofun⟩;refine zaQ hl ai hm kT ?_;ext;have h3:(∀z∈[a,Xv.str s,b],Pt z):=λz hz=>hp z (rF _ hz);have h4:([a,Xv.str s,b]:List Xv).length<=12:=show 3<=12 by decide
  refine (Tc h3 h4).imp ?_;rintro _ S1 ⟨rfl,k1⟩;have lr:=Ue h3 h4;refine wM (fI (by show 5+_<=_;omega)) ⟨?_,k1⟩;rw[vF (p:= .str "look")];rfl
 | @set1 n a hn ha=>
  refine no ∅ (no ∅ (zo (xX ?_)));ext;refine zS ⟨_,rfl,λ_=>⟨λ_=> ?_,nofun⟩,nofun⟩;exact zaQ hl ai hm kT (big (N:=λ_ _=>True) (vB ∅) hn.wd hp lD)
 | @set3 n a b s hn hs ha hb=>
  refine no ∅ (no ∅ (zo (xX ?_)));ext;refine zS ⟨_,rfl,λ_=>⟨λ_=> ?_,nofun⟩,nofun⟩;exact zaQ hl ai hm kT (big (N:=λ_ _=>True) (vB ∅) hn.wd hp lD)
 | @draw n ws hn h9 h1 hw=>
  match ws,h1 with
  |v::ws,_=>
   refine no ∅ (no ∅ (zo (xX ?_)));ext;refine ye ∅ ⟨_,rfl,nofun,λ_=> ?_⟩;ext;refine zS ⟨_,rfl,λ_=> ?_,nofun⟩;exact zaQ hl ai hm kT (big (N:=λ_ _=>True) (vB ∅) hn.wd hp lD)
theorem zbm {c:Ce} {hd:List Xv} (h:c= .lst [.str (wN hd)]):(S++[c])[S.length]? =some (.lst (yL [hd])):=by
 rw[h];exact zQ
theorem zoh {P:Xv->Sto->Prop} {l:List Xv} {lo hi:Option Int} (k:P (.tup (L2.WJ l lo hi)) S):WO (zgf (.tup l) lo hi S) P:= .of (by unfold zgf;rfl) k
theorem zkx {us:List (List Xv)} {rss:List (List (List Xv))} {hd:List Xv} {bw:Str} {q f:Nat} (h1:Nx x us hd bw) (h2:us.length=rss.length) (ih:∀(i:Nat) u r,us[i]? =some u->rss[i]? =some r->LrP fu (.b u) r q) (hf:2*q+2<=f) (hl:(xb bw rss).length+2<=2000):
  W (zI fu f [x] S) λv S'=>∃n,v= .ref n/\S'[n]? =some (.lst (yL (hd::(xb bw rss++[w1 "end"]))))/\S.length<=n/\Kn S S':=by
 obtain⟨f,rfl⟩:∃e,f=e+1:=⟨f-1,⋯⟩;obtain⟨hp,lD,_⟩:=h1.pts;have fI:∀{n:Nat},n<=999->n<=sizeLine:=λh=>sD (sx h ∅);rw[wX];walk_at "wr";unfold xh;have no:∀{w v:Str} {r:List Xv} {a b:TwS} {N:Rho->Sto->Prop} {R:Xv->Sto->Prop},w≠v->WS (b [some (.tup (.str w::r)),none,none] S) N R->WS (sIf (bE (eOp (yk false) (eOp zM (za 0) (eC (.int 0))) (eC (.str v)))) a b [some (.tup (.str w::r)),none,none] S) N R:=by
  intro w v r a b N R h k;refine zo ?_;ext;exact ye h ⟨_,rfl,nofun,λ_=>k⟩
 have fin:∀{m:Nat} {S2:Sto} {a2:Option Xv} {rows:List (List Xv)} {N:Rho->Sto->Prop},S2[m]? =some (.lst (yL (hd::rows)))->rows.length+2<=2000->rows=xb bw rss->Kn S S2->WS (zG (eOp wS (za 1) (wv [(eC (.str "end"))])) [some x,some (.ref m),a2] S2) N λv S'=>∃n,v= .ref n/\S'[n]? =some (.lst (yL (hd::(xb bw rss++[w1 "end"]))))/\S.length<=n/\Kn S S':=by
  intro m S2 a2 rows N ai hl hr k2;subst hr;ext;have ea:(S2++[Ce.lst [.str "end"]])[S2.length]? =some (.lst (yL [w1 "end"])):=zbm (by unfold w1;rw[va];rfl);refine Vl (a:=hd::xb bw rss) (b:=[w1 "end"]) (Kn.refl.app.at ai) ea (by rw[rl,rC];omega) ?_;refine⟨_,rfl,zQ,?_,k2.app.app⟩;have:=k2.1;rw[rk];omega
 have one:∀{m:TwE} {e:TwE} {u:List Xv} {r:List (List Xv)} {P:Xv->Sto->Prop},us[0]? =some u->rss[0]? =some r->r.length<=1000\/r.length+2<=2000->(W (m [some x,none,none] S) λv S'=>v= .str (wN hd)/\Kn S S')->(∀S1,W (e [some x,none,none] S1) λv S'=>v= .tup u/\S1=S')->
   (∀n S1,S1[n]? =some (.lst (yL (hd::r)))->Kn S S1->P (.ref n) S1)->W (eOp wS (wv [m]) (ze (yh fu f) [e]) [some x,none,none] S) P:=by
  intro m e u r P eu er pe hm he k;ext;refine hm.imp ?_;rintro _ S1 ⟨rfl,k1⟩;ext;refine (he _).imp ?_;rintro _ _ ⟨rfl,rfl⟩;ext;refine (ih 0 u r eu er f _ _ ⋯ ⋯ (.inl rfl)).imp ?_;rintro _ S3 ⟨n,rfl,hn,gZ,k3⟩;have ea:(S1++[Ce.lst [.str (wN hd)]])[S1.length]? =some (.lst (yL [hd])):=zbm rfl;refine Vl (a:=[hd]) (b:=r) (k3.at ea) hn (by rw[rC];omega) ?_;exact k _ _ zQ (k1.app.trans k3).app
 have mZ:∀{w wp s:Str} {a b:Xv} {r:List Xv},wp=w++" "->wp.length<=10->(∀z∈[a,Xv.str s,b],Pt z)->W (eOp xf (eC (.str wp)) (ze (yO fu) [(eOp zM (za 0) (eC (.int 1)))]) [some (.tup (.str w:: .tup [a,.str s,b]::r)),none,none] S) λv S'=>v= .str (wN [.str w,a,.str s,b])/\Kn S S':=by
  intro w wp s a b r e fL h3;ext;have h4:([a,Xv.str s,b]:List Xv).length<=12:=show 3<=12 by decide
  refine (Tc h3 h4).imp ?_;rintro _ S1 ⟨rfl,k1⟩;have lr:=Ue h3 h4;refine wM (fI ⋯) ⟨?_,k1⟩;rw[vF (p:= .str w),e];rfl
 cases h1 with
 | @cond a b s u v hs ha hb=>
  obtain⟨r1,r2,rfl⟩:∃r1 r2,rss=[r1,r2]:=by
   match rss,h2 with
   |[r1,r2],_=>exact⟨r1,r2,rfl⟩
  have ka:r1.length+(r2.length+1)+2<=2000:=by
   have:(xb "else" [r1,r2]).length=r1.length+(r2.length+1):=by
    show (r1++w1 "else"::r2).length=_;rw[rk];rfl
   omega
  refine zh (zo ?_);ext;refine zS ⟨_,rfl,λ_=> ?_,nofun⟩;refine zh (zbN ?_);refine one (u:=u) (r:=r1) rfl rfl ⋯ (mZ rfl ∅ λz hz=>hp z (rF _ hz)) (λS1=>by ext;exact xn rfl rfl ⟨rfl,rfl⟩) ?_;intro n S1 hn k1;dsimp only[sM];ext;have ea:(S1++[Ce.lst [.str "else"]])[S1.length]? =some (.lst (yL [w1 "else"])):=zbm (by unfold w1;rw[va];rfl);refine Vl (b:=[w1 "else"]) (Kn.refl.app.at hn) ea (by rw[rl,rC];omega) ?_;have k2:Kn S ((S1++[Ce.lst [.str "else"]])++[Ce.lst (yL (([.str "if",a,.str s,b]::r1)++[w1 "else"]))]):=k1.app.app;have a2:((S1++[Ce.lst [.str "else"]])++[Ce.lst (yL (([.str "if",a,.str s,b]::r1)++[w1 "else"]))])[(S1++[Ce.lst [.str "else"]]).length]? =some (Ce.lst (yL (([.str "if",a,.str s,b]::r1)++[w1 "else"]))):=zQ;generalize (S1++[Ce.lst [.str "else"]])++[Ce.lst (yL (([.str "if",a,.str s,b]::r1)++[w1 "else"]))]=S3 at k2 a2 ⊢;generalize (S1++[Ce.lst [.str "else"]]).length=n2 at a2 ⊢;ext;refine xn rfl (z:= .tup v) rfl ?_;ext;refine (ih 1 v r2 rfl rfl f _ _ ⋯ ⋯ (.inl rfl)).imp ?_;rintro _ S4 ⟨n3,rfl,my,gZ,k4⟩;refine Vl (k4.at a2) my (by rw[rk,rl,rC];omega) ?_;refine fin (rows:=r1++w1 "else"::r2) ?_ (by rw[rk,rl];omega) rfl (k2.trans k4).app;rw[zQ,sv];rfl
 | @whil a b s u hs ha hb=>
  obtain⟨r1,rfl⟩:∃r1,rss=[r1]:=by
   match rss,h2 with
   |[r1],_=>exact⟨r1,rfl⟩
  have hl:r1.length+2<=2000:=hl;refine zh (no ∅ (zo ?_));ext;refine zS ⟨_,rfl,λ_=> ?_,nofun⟩;refine zbN ?_;refine one (u:=u) (r:=r1) rfl rfl (.inr hl) (mZ rfl ∅ λz hz=>hp z (rF _ hz)) (λS1=>by ext;exact xn rfl rfl ⟨rfl,rfl⟩) ?_;intro n S1 hn k1;exact fin hn hl rfl k1
 | @times k u h0 h1=>
  obtain⟨r1,rfl⟩:∃r1,rss=[r1]:=by
   match rss,h2 with
   |[r1],_=>exact⟨r1,rfl⟩
  have hl:r1.length+2<=2000:=hl;refine zh (no ∅ (no ∅ (zo ?_)));ext;refine zS ⟨_,rfl,λ_=> ?_,nofun⟩;refine zbN ?_;refine one (u:=u) (r:=r1) rfl rfl (.inr hl) ?_ (λS1=>by ext;exact xn rfl rfl ⟨rfl,rfl⟩) ?_
  .ext;refine zbi (zch h0 h1) ?_;have:=(zdv h0 h1).le;refine wM (fI (by show 6+(nt k).length<=_;omega)) ⟨?_,Kn.refl⟩;rw[vF,va];rfl
  intro n S1 hn k1;exact fin hn hl rfl k1
 | @hand us kM kL=>
  obtain⟨u0,ut,rfl⟩:∃a t,us=a::t:=by
   cases us with
   |nil=>exact absurd kM ∅
   |cons a t=>exact⟨a,t,rfl⟩
  obtain⟨r0,rt,rfl⟩:∃a t,rss=a::t:=by
   cases rss with
   |nil=>cases h2
   |cons a t=>exact⟨a,t,rfl⟩
  have pJ:=zgM (b:="or") (l:=r0::rt) (i:=0) (r:=r0) rfl;refine zh (no ∅ (no ∅ (no ∅ ?_)));refine zh (zbN ?_);refine one (u:=u0) (r:=r0) rfl rfl ⋯ (by ext;exact⟨by rw[va];rfl,Kn.refl⟩) (λS1=>by ext;exact xn (z:= .tup u0) rfl (Zx ∅ rfl) ⟨rfl,rfl⟩) ?_;intro n S1 hn k1;dsimp only[sM];refine vw (zdn ?_);ext;refine zoh ?_;rw[show L2.WJ ((u0::ut).map Xv.tup) (some 1) none=ut.map Xv.tup from WA _ 1];refine⟨_,rfl,_,rfl,?_⟩;refine wG (λi ρ S3=>∃(m:Nat) (a2:Option Xv),ρ=[some (.tup [.str "hand",.tup ((u0::ut).map Xv.tup)]),some (.ref m),a2]/\S3[m]? =some (.lst (yL (w1 "hand"::xb "or" ((r0::rt).take (i+1)))))/\Kn S S3) (λ_ _ _ _ _=>rfl) ?_ ?_ ?_
  .rintro i z ρ S3 hz ⟨m,a2,rfl,ai,kn⟩;rw[rq,rG] at hz;obtain⟨u,eu,rfl⟩:=hz;have hi:=(rg.1 eu).1;have jv:i<rt.length:=by
    have:ut.length+1=rt.length+1:=h2;omega
   have er:=r9 jv;have mV:(r0::rt)[i+1]? =some rt[i]:=by simpa using er
   have kq:=Yr (b:="or") (r0::rt) (i+1);have iJ:=Yr (b:="or") (r0::rt) (i+1+1);rw[zag mV,if_neg ⋯,rk,rk,rC] at iJ;rw[zag mV,if_neg ⋯];generalize xb "or" ((r0::rt).take (i+1))=done at ai kq iJ ⊢;refine .of rfl ?_;dsimp only[sM];ext;have ea:(S3++[Ce.lst [.str "or"]])[S3.length]? =some (.lst (yL [w1 "or"])):=zbm (by unfold w1;rw[va];rfl);refine Vl (b:=[w1 "or"]) (Kn.refl.app.at ai) ea (by rw[rl,rC];omega) ?_;have k2:Kn S ((S3++[Ce.lst [.str "or"]])++[Ce.lst (yL ((w1 "hand"::done)++[w1 "or"]))]):=kn.app.app;have a2:((S3++[Ce.lst [.str "or"]])++[Ce.lst (yL ((w1 "hand"::done)++[w1 "or"]))])[(S3++[Ce.lst [.str "or"]]).length]? =some (Ce.lst (yL ((w1 "hand"::done)++[w1 "or"]))):=zQ;generalize (S3++[Ce.lst [.str "or"]])++[Ce.lst (yL ((w1 "hand"::done)++[w1 "or"]))]=S4 at k2 a2 ⊢;generalize (S3++[Ce.lst [.str "or"]]).length=n2 at a2 ⊢;ext;refine (ih (i+1) u _ (by simpa using eu) mV f _ _ ⋯ ⋯ (.inl rfl)).imp ?_;rintro _ S5 ⟨n3,rfl,my,gZ,k5⟩;refine Vl (k5.at a2) my (by rw[rk,rl,rC];omega) ?_;refine⟨_,_,rfl,?_,(k2.trans k5).app⟩;rw[zQ];rfl
  .exact⟨n,none,rfl,hn,k1⟩
  .rintro ρ S3 ⟨m,a2,rfl,ai,kn⟩;have:ut.length+1=rt.length+1:=h2;rw[rh,show ut.length+1=(r0::rt).length from this,sF] at ai;exact fin ai hl rfl kn
theorem zpF {kd:Kd} {rows:List (List Xv)} {q:Nat} (h:Pg kd rows q):LrP fu kd rows q:=by
 induction h with
 | @plain x ps q h=>
  intro f S T0 m l v0 R hf hl ai hm kT;exact zkw h hl ai hm kT
 | @nest x us rss hd bw q h1 h2 _ ih=>
  intro f S T0 m l v0 R hf hl ai hm kT;rw[rl,rk,rC] at hl;obtain⟨_,_,w,r,rfl,hw⟩:=h1.pts;obtain⟨r2,hx⟩:∃r2,x= .tup (.str w::r2):=by
   generalize fN:Xv.str w::r=ps at h1;cases h1<;>(obtain⟨e1,_⟩:=sq fN;cases e1;exact⟨_,rfl⟩)
  have ne:w≠"pass"/\w≠"gain"/\w≠"set"/\w≠"draw"/\w≠"look":=by
   have hw:w="if"\/w="while"\/w="times"\/w="hand":=by simpa using hw
   rcases hw with rfl|rfl|rfl|rfl<;>decide
  obtain⟨n1,n2,n3,n4,n5⟩:=ne;subst hx;unfold lrB;have no:∀{v:Str} {a b:TwS} {N:Rho->Sto->Prop} {R:Xv->Sto->Prop},w≠v->WS (b [some v0,some (.ref m),some (.tup (.str w::r2))] S) N R->WS (sIf (bE (eOp (yk false) (eOp zM (za 2) (eC (.int 0))) (eC (.str v)))) a b [some v0,some (.ref m),some (.tup (.str w::r2))] S) N R:=by
   intro v a b N R h k;refine zo ?_;ext;exact ye h ⟨_,rfl,nofun,λ_=>k⟩
  refine no n1 (no n2 (zo (xX ?_)));ext;refine ye n3 ⟨_,rfl,nofun,λ_=> ?_⟩;ext;refine ye n4 ⟨_,rfl,nofun,λ_=>no n5 ?_⟩;ext;refine (zkx h1 h2 ih ⋯ ⋯).imp ?_;rintro _ S1 ⟨n,rfl,hn,gZ,k1⟩;refine Vl (k1.at ai) hn (by rw[rl,rk,rC];omega) ?_;refine⟨_,rfl,zQ,?_,(kT.trans k1).app⟩;have:=(kT.trans k1).1;exact this
 | @blk ds rss q h1 _ ih=>
  intro f S x hf hl hx;obtain⟨f,rfl⟩:∃e,f=e+1:=⟨f-1,⋯⟩;rw[XH];walk_at "wr";rw[zkv];ext;have loop:∀get:Sto->Option (List Xv),(∀S2,Kn S S2->get S2=some ds)->∀{N:Rho->Sto->Prop} {R:Xv->Sto->Prop},(∀n S2 a2,S2[n]? =some (.lst (yL rss.flatten))->S.length<=n->Kn S S2->N [some x,some (.ref n),a2] S2)->WS (Vo get (gN 2) (lrB fu f) (ds.length+1) 0 [some x,some (.ref S.length),none] (S++[Ce.lst []])) N R:=by
   intro get jx N R k;refine wG (λi ρ S2=>∃(m:Nat) (a2:Option Xv),ρ=[some x,some (.ref m),a2]/\S2[m]? =some (.lst (yL (rss.take i).flatten))/\S.length<=m/\Kn S S2) ?_ ?_ ?_ ?_
   .rintro i ρ S2 _ ⟨m,a2,_,_,_,kn⟩;exact jx S2 kn
   .rintro i z ρ S2 hz ⟨m,a2,rfl,ai,hm,kn⟩;have hi:=(rg.1 hz).1;have kx:i<rss.length:=by omega
    have er:=r9 kx;have e3:(rss.take (i+1)).flatten=(rss.take i).flatten++rss[i]:=by rw[sd kx,t6];simp
    have hle:((rss.take i).flatten++rss[i]).length<=rss.flatten.length:=by
     rw[<-e3]
     conv=>rhs;rw[<-uh (i+1) rss,t6,rk]
     omega
    rw[rk] at hle;refine .of rfl ?_;dsimp only[sM];refine xm _ (ih i z _ hz er f S2 S m _ x _ ⋯ ⋯ ai hm kn) ?_;rintro ρ S3 ⟨m',rfl,fi,mz,kn'⟩;exact⟨m',_,rfl,by rw[e3];exact fi,mz,kn'⟩
   .exact⟨S.length,none,rfl,zQ,rj _,Kn.refl.app⟩
   .rintro ρ S2 ⟨m,a2,rfl,ai,hm,kn⟩;rw[h1,sF] at ai;exact k m S2 a2 ai hm kn
  rcases hx with rfl|⟨m,rfl,ai⟩
  .refine vw (zka ?_);ext;refine loop _ (λ_ _=>rfl) ?_;intro n S2 a2 h1 h2 h3;ext;exact⟨h1,h2,h3⟩
  .refine vw (zj9 ?_);ext;refine⟨m,ds,rfl,zm (Kn.refl.app.at ai),ds,zm (Kn.refl.app.at ai),loop _ (λS2 k2=>zm (k2.at ai)) ?_⟩;intro n S2 a2 h1 h2 h3;ext;exact⟨h1,h2,h3⟩
theorem Kp.of_kn {w:Nat->Prop} (h:Kn S S'):Kp w S S':=⟨h.1,λn c e _=>h.2 n c e (λz=>z)⟩
theorem Vv.put {o k l a:Nat} {wss:List (List Str)} {ms:List Nat} {c:Ce} (h:Vv S o wss k l ms) (h1:a≠o) (h2:a≠l) (h3:a∉ms):Vv (S.set a c) o wss k l ms:=by
 have st:∀{n:Nat} {d:Ce},a≠n->S[n]? =some d->(S.set a c)[n]? =some d:=λq e=>by rw[sY q];exact e
 exact⟨st h1 h.ob,st h2 h.li,h.len,λi m ws p q=>st (λz=>h3 (by rw[z];exact rV p)) (h.at_ i m ws p q)⟩
structure xO (S:Sto) (o:Nat) (wss:List (List Str)) (k l:Nat) (ms:List Nat):Prop where
 rw:Vv S o wss k l ms
 ne:∀ws∈wss,ws≠[]
 lt:∀m∈ms,m<S.length
theorem xO.keep {o k l:Nat} {wss:List (List Str)} {ms:List Nat} (h:xO S o wss k l ms) (q:Kn S S'):xO S' o wss k l ms:=⟨h.rw.keep q,h.ne,λm hm=>by have:=h.lt m hm;have:=q.1;omega⟩
theorem xO.o_lt {o k l:Nat} {wss:List (List Str)} {ms:List Nat} (h:xO S o wss k l ms):o<S.length:=(rg.1 h.rw.ob).1
theorem xO.l_lt {o k l:Nat} {wss:List (List Str)} {ms:List Nat} (h:xO S o wss k l ms):l<S.length:=(rg.1 h.rw.li).1
theorem Vm {wss:List (List Str)} {k:Nat} {ws:List Str} {t:List (List Str)} (h:wss.drop k=ws::t):wss[k]? =some ws/\wss.drop (k+1)=t:=by
 have e:(wss.drop k)[0]? =some ws:=by rw[h];rfl
 rw[List.getElem?_drop,Nat.add_zero] at e;exact⟨e,by rw[<-B8,h];rfl⟩
theorem Xq {wss a b:List (List Str)} {k:Nat} (h:wss.drop k=a++b):wss.drop (k+a.length)=b:=by
 rw[<-B8,h,B9]
theorem xO.fw1 {o k l:Nat} {wss:List (List Str)} {ms:List Nat} {w:Str} {r:List Str} {t:List (List Str)} (h:xO S o wss k l ms) (e:wss.drop k=(w::r)::t):W (zR fu [.ref o] S) λv S'=>v= .str w/\S=S':=by
 have e1:=(Vm e).1;refine (Uf h.rw (sD (rg.1 e1).1) h.ne).imp ?_;rw[e1];exact λ_ _ h=>h
theorem xO.fw0 {o k l:Nat} {wss:List (List Str)} {ms:List Nat} (h:xO S o wss k l ms) (e:wss.length=k):W (zR fu [.ref o] S) λv S'=>v= .non/\S=S':=by
 refine (Uf h.rw ⋯ h.ne).imp ?_;rw[sy ⋯];exact λ_ _ h=>h
theorem xO.take {o k l:Nat} {wss:List (List Str)} {ms:List Nat} {ws:List Str} {t:List (List Str)} (h:xO S o wss k l ms) (e:wss.drop k=ws::t):W (xN fu [.ref o] S) λv S'=>∃m,v= .ref m/\Txs S' m ws/\xO S' o wss (k+1) l ms/\Kp (· =o) S S':=by
 refine (zhI h.rw (Vm e).1).imp ?_;rintro v S1 ⟨m,rfl,h1,h2,k1⟩;exact⟨m,rfl,h1,⟨h2,h.ne,λm hm=>by have:=h.lt m hm;have:=k1.1;omega⟩,k1⟩
theorem xO.alone {o k l:Nat} {wss:List (List Str)} {ms:List Nat} {w:Str} {t:List (List Str)} (h:xO S o wss k l ms) (e:wss.drop k=[w]::t):W (yw fu [.ref o,.str w] S) λv S'=>v= .non/\xO S' o wss (k+1) l ms/\Kp (· =o) S S':=by
 walk_at "wr";unfold vA;refine zo (xX ?_);ext;refine wc ?_;ext;refine⟨_,_,rfl,h.rw.ob,rfl,?_⟩;ext;refine (h.fw1 e).imp ?_;rintro _ _ ⟨rfl,rfl⟩;ext;refine WO.of (show znn (.str w) S=some (.bl false,S) from rfl) ?_;refine⟨_,rfl,nofun,λ_=> ?_⟩;ext;refine wc ?_;ext;refine⟨_,_,rfl,h.rw.ob,rfl,?_⟩;ext;refine (h.take e).imp ?_;rintro _ S1 ⟨m,rfl,h1,h2,k1⟩;ext;have tl:∀{S:Sto} {n:Nat},S[n]? =some (.lst [.str w])->xY S 40 (.ref n)=some (.lst [.str w]):=by
  intro S n e;show (zY S (.ref n)).bind _=_;rw[zm e];rfl
 have ea:(S1++[Ce.lst [.str w]])[S1.length]? =some (.lst [.str w]):=zQ;have kk:Kn S1 (S1++[Ce.lst [.str w]]):=Kn.refl.app;refine znV (b:=true) (tl (kk.at h1)) (tl ea) rfl ?_ ?_
 .show (if (1:Nat)=1 then zaB (eqG 39) [D.str w] [D.str w] else some false)=some true;rw[if_pos rfl];show ((some (w==w)).bind λa=>(some true).map (a&& ·))=some true;rw[beq_self_eq_true];rfl
 refine⟨_,rfl,nofun,λ_=>zq ?_⟩;exact⟨rfl,h2.keep kk,k1.trans (Kp.of_kn kk)⟩
noncomputable def wd (ps:List Xv):List Str:=ps.map tx
def Stp (rest:List (List Str)):Prop:=∀w r t,rest=(w::r)::t->w="else"\/w="or"\/w="end"
def zcj (fu:Nat):Kd->List (List Xv)->Nat->Prop
 | .d x,rows,q=>∀(f op:Nat) (S:Sto) (o:Nat) (wss:List (List Str)) (k l:Nat) (ms:List Nat) (rest:List (List Str)),4*q+1<=f->op+q<=12->rows.length<=2000->xO S o wss k l ms->wss.drop k=rows.map wd++rest->
  W (zP fu f [.ref o,.int (op:Int)] S) λv S'=>v=x/\xO S' o wss (k+rows.length) l ms/\Kp (· =o) S S'
 | .b ds,rows,q=>∀(f op:Nat) (S:Sto) (o:Nat) (wss:List (List Str)) (k l:Nat) (ms:List Nat) (rest:List (List Str)),4*q+2<=f->op+q<=12->rows.length<=2000->xO S o wss k l ms->wss.drop k=rows.map wd++rest->(rest=[]->k<=wss.length)->Stp rest->
  W (zB fu f [.ref o,.int (op:Int)] S) λv S'=>v= .tup ds/\xO S' o wss (k+rows.length) l ms/\Kp (· =o) S S'
 | .s _,_,_=>True
theorem zah {w:Str} {t:List (List Str)} (h:w="else"\/w="or"\/w="end"):Stp ([w]::t):=by
 intro w' r t' e;obtain⟨e1,_⟩:=sq e;obtain⟨rfl,_⟩:=sq e1;exact h
theorem zck {u:List Xv} {r:List (List Xv)} {q f op o k l:Nat} {wss rest:List (List Str)} {ms:List Nat} (ih:zcj fu (.b u) r q) (hf:4*q+3<=f) (fH:op+q<=12) (hl:r.length<=2000) (h:xO S o wss k l ms) (e:wss.drop k=r.map wd++[("end":Str)]::rest):
  W (zC fu f [.ref o,.int (op:Int)] S) λv S'=>v= .tup u/\xO S' o wss (k+r.length+1) l ms/\Kp (· =o) S S':=by
 obtain⟨f,rfl⟩:∃e,f=e+1:=⟨f-1,⋯⟩;rw[Yp];walk_at "wr";unfold vn;ext;refine (ih f op S o wss k l ms _ ⋯ fH hl h e nofun (zah (.inr (.inr rfl)))).imp ?_;rintro _ S1 ⟨rfl,h1,k1⟩;have e1:=Xq e;rw[rh] at e1;ext;refine wc ?_;ext;refine⟨_,_,rfl,h1.rw.ob,rfl,?_⟩;ext;refine (h1.alone e1).imp ?_;rintro _ S2 ⟨rfl,h2,k2⟩;ext;exact⟨rfl,h2,k1.trans k2⟩
theorem zky {u v:List Xv} {t:Xv} {r r':List (List Xv)} {q f op o k l:Nat} {wss rest:List (List Str)} {ms:List Nat} (ih:zcj fu (.b u) r q) (ih':zcj fu (.b v) r' q) (hf:4*q+4<=f) (fH:op+q<=12) (hl:r.length<=2000) (mC:r'.length<=2000) (h:xO S o wss k l ms) (e:wss.drop k=r.map wd++[("else":Str)]::(r'.map wd++[("end":Str)]::rest)):
  W (yb fu f [.ref o,t,.int (op:Int)] S) λz S'=>z= .tup [.str "if",t,.tup u,.tup v]/\xO S' o wss (k+r.length+1+r'.length+1) l ms/\Kp (· =o) S S':=by
 obtain⟨f,rfl⟩:∃e,f=e+1:=⟨f-1,⋯⟩;rw[Vq];walk_at "wr";unfold Vg;ext;refine (ih f op S o wss k l ms _ ⋯ fH hl h e nofun (zah (.inl rfl))).imp ?_;rintro _ S1 ⟨rfl,h1,k1⟩;have e1:=Xq e;rw[rh] at e1;ext;refine wc ?_;ext;refine⟨_,_,rfl,h1.rw.ob,rfl,?_⟩;ext;refine (h1.alone e1).imp ?_;rintro _ S2 ⟨rfl,h2,k2⟩;ext;refine (zck ih' ⋯ fH mC h2 (Vm e1).2).imp ?_;rintro _ S3 ⟨rfl,h3,k3⟩;ext;exact⟨rfl,h3,k1.trans (k2.trans k3)⟩
noncomputable def orT:List (List (List Xv))->List (List Xv)
 |[]=>[]
 |r::t=>w1 "or"::(r++orT t)
theorem zeo:∀{r:List (List Xv)} {t:List (List (List Xv))},xb "or" (r::t)=r++orT t
 |r,[]=>by show r=r++[];rw[sT]
 |r,a::t=>by
  show r++w1 "or"::xb "or" (a::t)=r++w1 "or"::(a++orT t);rw[zeo]
theorem zkz {rt:List (List (List Xv))} {rest:List (List Str)}:Stp ((orT rt).map wd++[("end":Str)]::rest):=by
 cases rt with
 |nil=>exact zah (.inr (.inr rfl))
 |cons r t=>exact zah (w:="or") (.inr (.inl rfl))
theorem zl1 {T0:Sto} {q f op o l c:Nat} {wss rest:List (List Str)} {ms:List Nat} {R:Xv->Sto->Prop} (hf:4*q+2<=f) (fH:op+q<=12) (hc:T0.length<=c) (ho:o<T0.length) (ju:l<T0.length) (gF:∀m∈ms,m<T0.length):
  ∀(n:Nat) (ut:List (List Xv)) (rt:List (List (List Xv))) (S:Sto) (k:Nat) (done:List Xv),ut.length<n->ut.length=rt.length->(∀(i:Nat) u r,ut[i]? =some u->rt[i]? =some r->zcj fu (.b u) r q)->(orT rt).length<=2000->xO S o wss k l ms->wss.drop k=(orT rt).map wd++[("end":Str)]::rest->S[c]? =some (.lst done)->done.length+ut.length<=10->Kp (· =o) T0 S->
  WS (Vr (bE (eOp zd4 (xS "Rows" "first_word" (zR fu) (za 0) []) (eC (.str "or")))) (zk (yJ (xS "Rows" "take_alone" (yw fu) (za 0) [(eC (.str "or"))])) (yJ (eMt yg (za 2) [(ze (zB fu f) [(za 0),(za 1)])]))) n [some (.ref o),some (.int (op:Int)),some (.ref c)] S)
   (λρ S'=>ρ=[some (.ref o),some (.int (op:Int)),some (.ref c)]/\S'[c]? =some (.lst (done++ut.map Xv.tup))/\xO S' o wss (k+(orT rt).length) l ms/\Kp (· =o) T0 S') R:=by
 intro n
 induction n with
 |zero=>intro ut rt S k done h;omega
 |succ n ih=>
  intro ut rt S k done hn hlen hR pe h e ai lA kp;refine Xx ?_;ext;refine wc ?_;ext;refine⟨_,_,rfl,h.rw.ob,rfl,?_⟩;ext;cases rt with
  |nil=>
   have oW:ut=[]:=sX.1 hlen;subst oW;refine (h.fw1 (w:="end") (r:=[]) e).imp ?_;rintro _ _ ⟨rfl,rfl⟩;ext;refine zd5 ?_;rw[decide_eq_false (show ¬(("end":Str)="or") by decide)];refine⟨_,rfl,nofun,λ_=> ?_⟩;exact⟨rfl,by rw[ai,ux,sT],h,kp⟩
  |cons r rt=>
   obtain⟨u,ut,rfl⟩:∃a t,ut=a::t:=by
    cases ut with
    |nil=>cases hlen
    |cons a t=>exact⟨a,t,rfl⟩
   have e':wss.drop k=[("or":Str)]::(r.map wd++((orT rt).map wd++[("end":Str)]::rest)):=by
    rw[e];show [("or":Str)]::(((r++orT rt).map wd)++_)=_;rw[rW,sv]
   have pd:r.length+(orT rt).length+1<=2000:=by
    have:(orT (r::rt)).length=r.length+(orT rt).length+1:=by
     show (w1 "or"::(r++orT rt)).length=_;rw[rl,rk]
    omega
   refine (h.fw1 e').imp ?_;rintro _ _ ⟨rfl,rfl⟩;ext;refine zd5 ?_;rw[decide_eq_true rfl];refine⟨_,rfl,λ_=> ?_,nofun⟩;ext;refine wc ?_;ext;refine⟨_,_,rfl,h.rw.ob,rfl,?_⟩;ext;refine (h.alone e').imp ?_;rintro _ S1 ⟨rfl,h1,k1⟩;have hX:=k1.2 _ _ ai (show ¬c=o by omega);have e1:=(Vm e').2;ext;refine Yj ?_;ext;refine⟨⟨_,zm hX⟩,?_⟩;ext;refine (hR 0 u r rfl rfl f op S1 o wss _ l ms _ hf fH ⋯ h1 e1 (λz=>by simp at z) zkz).imp ?_;rintro _ S2 ⟨rfl,h2,k2⟩;have c4:=k2.2 _ _ hX (show ¬c=o by omega);have e2:=Xq e1;rw[rh] at e2;rw[rl] at lA;ext;refine xk (yN c4) (zaY ⋯) ?_;ext;have h3:xO (S2.set c (.lst (done++[.tup u]))) o wss (k+1+r.length) l ms:=⟨h2.rw.put ⋯ ⋯ (λz=>by have:=gF _ z;omega),h2.ne,λm hm=>by rw[t7];exact h2.lt m hm⟩;refine xm _ (ih ut rt _ _ (done++[.tup u]) (by rw[rl] at hn;omega) (by simpa using hlen) (λi u r a b=>hR (i+1) u r (by simpa using a) (by simpa using b)) ⋯ h3 e2 (xa c4) (by rw[rk,rC];omega) ((kp.trans (k1.trans k2)).set (.inr hc))) ?_;rintro ρ S3 ⟨rfl,a3,h4,k4⟩;refine⟨rfl,by rw[a3,sv];rfl,?_,k4⟩;have:k+(orT (r::rt)).length=k+1+r.length+(orT rt).length:=by
    have:(orT (r::rt)).length=r.length+(orT rt).length+1:=by
     show (w1 "or"::(r++orT rt)).length=_;rw[rl,rk]
    omega
   rw[this];exact h4
theorem zep {us:List (List Xv)} {rss:List (List (List Xv))} {q f op o k l:Nat} {wss rest:List (List Str)} {ms:List Nat} (d5:Big fu) (h2:us.length=rss.length) (kM:2<=us.length) (kL:us.length<=10) (ih:∀(i:Nat) u r,us[i]? =some u->rss[i]? =some r->zcj fu (.b u) r q) (hf:4*q+3<=f) (fH:op+q<=12) (hl:(xb "or" rss).length<=2000) (h:xO S o wss k l ms) (e:wss.drop k=(xb "or" rss).map wd++[("end":Str)]::rest):
  W (zH fu f [.ref o,.int (op:Int)] S) λz S'=>z= .tup (us.map Xv.tup)/\xO S' o wss (k+(xb "or" rss).length+1) l ms/\Kp (· =o) S S':=by
 obtain⟨f,rfl⟩:∃e,f=e+1:=⟨f-1,⋯⟩;obtain⟨u0,u1,ut,rfl⟩:∃a b t,us=a::b::t:=by
  match us,kM with
  |a::b::t,_=>exact⟨a,b,t,rfl⟩
 obtain⟨r0,r1,rt,rfl⟩:∃a b t,rss=a::b::t:=by
  match rss,h2 with
  |a::b::t,_=>exact⟨a,b,t,rfl⟩
 have ka:(xb "or" (r0::r1::rt)).length=r0.length+1+r1.length+(orT rt).length:=by
  rw[zeo];show (r0++w1 "or"::(r1++orT rt)).length=_;rw[rk,rl,rk];omega
 have e0:wss.drop k=r0.map wd++[("or":Str)]::(r1.map wd++((orT rt).map wd++[("end":Str)]::rest)):=by
  rw[e,zeo];show (r0++w1 "or"::(r1++orT rt)).map wd++_=_;rw[rW,sj,rW,sv,sR,sv];rfl
 have kL:ut.length+1+1<=10:=kL;rw[Yz];walk_at "wr";unfold Zb;ext;refine (ih 0 u0 r0 rfl rfl f op S o wss k l ms _ ⋯ fH ⋯ h e0 (λz=>by simp at z) (zah (.inr (.inl rfl)))).imp ?_;rintro _ S1 ⟨rfl,h1,k1⟩;have e1:=Xq e0;rw[rh] at e1;ext;have a2:(S1++[Ce.lst [.tup u0]])[S1.length]? =some (.lst [.tup u0]):=zQ;have kN:xO (S1++[Ce.lst [.tup u0]]) o wss (k+r0.length) l ms:=h1.keep Kn.refl.app;have kk:Kp (· =o) S (S1++[Ce.lst [.tup u0]]):=k1.trans (Kp.of_kn Kn.refl.app);have ol:o<S1.length:=h1.o_lt;have ll:l<S1.length:=h1.l_lt;have ml:=h1.lt;have k0:Kp (· =o) S1 (S1++[Ce.lst [.tup u0]]):=Kp.of_kn Kn.refl.app;generalize iK:S1++[Ce.lst [.tup u0]]=S2 at a2 kN kk k0 ⊢;refine wc ?_;ext;refine⟨_,_,rfl,kN.rw.ob,rfl,?_⟩;ext;refine (kN.alone e1).imp ?_;rintro _ S3 ⟨rfl,h3,k3⟩;have a3:=k3.2 _ _ a2 (show ¬S1.length=o by omega);have e2:=(Vm e1).2;ext;refine Yj ?_;ext;refine⟨⟨_,zm a3⟩,?_⟩;ext;refine (ih 1 u1 r1 rfl rfl f op S3 o wss _ l ms _ ⋯ fH ⋯ h3 e2 (λz=>by simp at z) zkz).imp ?_;rintro _ S4 ⟨rfl,h4,k4⟩;have a4:=k4.2 _ _ a3 (show ¬S1.length=o by omega);have e3:=Xq e2;rw[rh] at e3;ext;refine xk (yN a4) (zaY (by show 1<=100;decide)) ?_;ext;have h5:xO (S4.set S1.length (.lst ([.tup u0]++[.tup u1]))) o wss (k+r0.length+1+r1.length) l ms:=⟨h4.rw.put ⋯ ⋯ (λz=>by have:=ml _ z;omega),h4.ne,λm hm=>by rw[t7];exact h4.lt m hm⟩;refine xm _ (zaW (zl1 (T0:=S1) (c:=S1.length) (rest:=rest) ⋯ fH (rj _) ol ll ml fu ut rt _ _ _ (by have:=d5.le;omega) (by simpa using h2) (λi u r a b=>ih (i+2) u r (by simpa using a) (by simpa using b)) ⋯ h5 e3 (xa a4) (by show 2+_<=10;omega) ((k0.trans (k3.trans k4)).set (.inr (rj _))))) ?_;rintro ρ S5 ⟨rfl,a5,h6,k5⟩;have e4:=Xq e3;rw[rh] at e4;ext;refine wc ?_;ext;refine⟨_,_,rfl,h6.rw.ob,rfl,?_⟩;ext;refine (h6.alone e4).imp ?_;rintro _ S6 ⟨rfl,h7,k6⟩;have a6:=k6.2 _ _ a5 (show ¬S1.length=o by omega);ext;refine xg a6 ?_;refine⟨rfl,?_,k1.trans (k5.trans k6)⟩;rw[ka,show k+(r0.length+1+r1.length+(orT rt).length)+1=k+r0.length+1+r1.length+(orT rt).length+1 by omega];exact h7
theorem zl2 {m:Nat} {v:Int} (h0:0<=v) (h1:v<=999999999) (ai:Txs S m [nt v]):W (Wf fu [.ref m] S) λr S'=>r= .int v/\Kn S S':=by
 have e:zY S (.ref m)=some [.str (nt v)]:=zm ai;walk_at "wr";unfold ZP;refine zh (zo ?_);ext;refine xw e ?_;ext;rw[show (!decide ((([Xv.str (nt v)]:List Xv).length:Int)=1))=false from rfl];refine⟨nofun,λ_=>zq ?_⟩;ext;refine xx e (z:= .str (nt v)) rfl ?_;ext;exact Vj h0 h1
theorem Pg.pos {rows:List (List Xv)} {q:Nat} (h:Pg (.d x) rows q):1<=rows.length/\∃ps rest w r,rows=ps::rest/\wd ps=w::r/\w≠"else"/\w≠"or"/\w≠"end":=by
 cases h with
 |plain h=>
  obtain⟨_,_,w,r,rfl,hw⟩:=h.pts;refine⟨rj _,_,_,w,r.map tx,rfl,rfl,?_⟩;have hw:w="pass"\/w="gain"\/w="look"\/w="set"\/w="draw":=by simpa using hw
  rcases hw with rfl|rfl|rfl|rfl|rfl<;>decide
 |nest h1=>
  obtain⟨_,_,w,r,rfl,hw⟩:=h1.pts;refine⟨by rw[rl];omega,_,_,w,r.map tx,rfl,rfl,?_⟩;have hw:w="if"\/w="while"\/w="times"\/w="hand":=by simpa using hw
  rcases hw with rfl|rfl|rfl|rfl<;>decide
theorem zfE {α:Type}:∀{l:List (List α)},(∀r∈l,1<=r.length)->l.length<=l.flatten.length
 |[],_=>rj _
 |a::t,h=>by
  have:=zfE (l:=t) λr hr=>h r (rF _ hr);have:=h a (rM ..);rw[ub,rk,rl];omega
theorem zpG {w:Str} {b:Bool} {P:Xv->Sto->Prop} (hb:(true !=[Xv.non,.str "else",.str "or",.str "end"].any λz=>zcx z (.str w))=b) (k:P (.bl b) S):WO (dIn true (.str w) (.tup [.non,.str "else",.str "or",.str "end"]) S) P:=by
 refine VG rfl rfl ?_;rw[hb];exact k
theorem zpY {w:Str} (h:w≠"else"/\w≠"or"/\w≠"end"):(true !=[Xv.non,.str "else",.str "or",.str "end"].any λz=>zcx z (.str w))=true:=by
 show (true !=(false||(decide (Str.ofString "else"=w)||(decide (Str.ofString "or"=w)||(decide (Str.ofString "end"=w)||false)))))=true;rw[decide_eq_false (tf h.1),decide_eq_false (tf h.2.1),decide_eq_false (tf h.2.2)];rfl
theorem zoi {T0:Sto} {q f op o l kb:Nat} {wss rest:List (List Str)} {ms:List Nat} {ds:List Xv} {rss:List (List (List Xv))} {R:Xv->Sto->Prop} (hf:4*q+1<=f) (fH:op+q<=12) (ho:o<T0.length) (ju:l<T0.length) (gF:∀m∈ms,m<T0.length) (h1:ds.length=rss.length) (hp:∀(i:Nat) x r,ds[i]? =some x->rss[i]? =some r->Pg (.d x) r q) (ih:∀(i:Nat) x r,ds[i]? =some x->rss[i]? =some r->zcj fu (.d x) r q)
  (hl:rss.flatten.length<=2000) (hlen:ds.length<=2000) (e:wss.drop kb=rss.flatten.map wd++rest) (mj:rest=[]->kb<=wss.length) (fM:Stp rest):
  ∀(n i:Nat) (S:Sto),ds.length-i<n->i<=ds.length->xO S o wss (kb+(rss.take i).flatten.length) l ms->S[T0.length]? =some (.lst (ds.take i))->Kp (· =o) T0 S->
  WS (Vr (bE (eOp (dIn true) (xS "Rows" "first_word" (zR fu) (za 0) []) (yn [(eC .non),(eC (.str "else")),(eC (.str "or")),(eC (.str "end"))]))) (yJ (eMt yg (za 2) [(ze (zP fu f) [(za 0),(za 1)])])) n [some (.ref o),some (.int (op:Int)),some (.ref T0.length)] S)
   (λρ S'=>ρ=[some (.ref o),some (.int (op:Int)),some (.ref T0.length)]/\S'[T0.length]? =some (.lst ds)/\xO S' o wss (kb+rss.flatten.length) l ms/\Kp (· =o) T0 S') R:=by
 intro n
 induction n with
 |zero=>intro i S h;omega
 |succ n oK=>
  intro i S hn hi h ai kp;have ei:wss.drop (kb+(rss.take i).flatten.length)=(rss.drop i).flatten.map wd++rest:=by
   have e':wss.drop kb=(rss.take i).flatten.map wd++((rss.drop i).flatten.map wd++rest):=by
    rw[e,<-sv,<-rW,<-t6,uh]
   have:=Xq e';rwa [rh] at this
  refine Xx ?_;ext;refine wc ?_;ext;refine⟨_,_,rfl,h.rw.ob,rfl,?_⟩;ext;by_cases jL:i<ds.length
  .have jv:i<rss.length:=by omega
   have ed:=r9 jL;have er:=r9 jv;obtain⟨qU,ps,rr,w,r,ke,hw,dM⟩:=(hp i _ _ ed er).pos;have ei':wss.drop (kb+(rss.take i).flatten.length)=rss[i].map wd++((rss.drop (i+1)).flatten.map wd++rest):=by
    rw[ei,tD jv,ub,rW,sv]
   have qq:wss.drop (kb+(rss.take i).flatten.length)=(w::r)::(rr.map wd++((rss.drop (i+1)).flatten.map wd++rest)):=by
    rw[ei',ke,sj,hw];rfl
   have hle:=zhJ er;refine (h.fw1 qq).imp ?_;rintro _ _ ⟨rfl,rfl⟩;ext;refine zpG (zpY dM) ?_;refine⟨_,rfl,λ_=> ?_,nofun⟩;ext;refine Yj ?_;ext;refine⟨⟨_,zm ai⟩,?_⟩;ext;refine (ih i _ _ ed er f op S o wss _ l ms _ hf fH ⋯ h ei').imp ?_;rintro _ S2 ⟨rfl,h2,k2⟩;have c4:=k2.2 _ _ ai (show ¬T0.length=o by omega);ext;refine xk (yN c4) (by rw[sL];exact szM ⋯) ?_;ext;have e3:(rss.take (i+1)).flatten.length=(rss.take i).flatten.length+rss[i].length:=by rw[sd jv,t6,rk];simp
   refine oK (i+1) _ ⋯ ⋯ ?_ ?_ ((kp.trans k2).set (.inr (rj _)))
   .rw[e3,<-uM];exact⟨h2.rw.put ⋯ ⋯ (λz=>by have:=gF _ z;omega),h2.ne,λm hm=>by rw[t7];exact h2.lt m hm⟩
   .rw[xa c4,sd jL]
  .obtain rfl:i=ds.length:=by omega
   rw[sF] at ai;rw[h1,sF] at h;rw[h1,sF,um,List.flatten_nil,ux,List.nil_append] at ei;have fin:([some (Xv.ref o),some (.int (op:Int)),some (.ref T0.length)]:Rho)=[some (.ref o),some (.int (op:Int)),some (.ref T0.length)]/\S[T0.length]? =some (.lst ds)/\xO S o wss (kb+rss.flatten.length) l ms/\Kp (· =o) T0 S:=⟨rfl,ai,h,kp⟩;cases rest with
   |nil=>
    have:wss.length=kb+rss.flatten.length:=by
     have h3:=congrArg v5 e;rw[uN,sT,rh] at h3;have:=mj rfl;omega
    refine (h.fw0 this).imp ?_;rintro _ _ ⟨rfl,rfl⟩;ext;show WO (dIn true .non (.tup [.non,.str "else",.str "or",.str "end"]) S) _;refine VG rfl rfl ?_;rw[show (true !=[Xv.non,.str "else",.str "or",.str "end"].any λz=>zcx z .non)=false from rfl];exact⟨_,rfl,nofun,λ_=>fin⟩
   |cons ws t=>
    cases ws with
    |nil=>
     have:[]∈wss:=rV (Vm ei).1;exact absurd rfl (h.ne _ this)
    |cons w r=>
     refine (h.fw1 ei).imp ?_;rintro _ _ ⟨rfl,rfl⟩;ext;refine zpG (b:=false) ?_ ⟨_,rfl,nofun,λ_=>fin⟩;rcases fM w r t rfl with rfl|rfl|rfl<;>rfl
theorem zl3 {kd:Kd} {rows:List (List Xv)} {q:Nat} (d5:Big fu) (h:Pg kd rows q):zcj fu kd rows q:=by
 induction h with
 | @plain x ps q hp=>
  intro f op S o wss k l ms rest hf fH hl h e;obtain⟨f,rfl⟩:∃e,f=e+1:=⟨f-1,⋯⟩;obtain⟨pk,_,w,r,rfl,hw⟩:=hp.pts;rw[Zc];walk_at "wr";unfold Za;ext;refine wc ?_;ext;refine⟨_,_,rfl,h.rw.ob,rfl,?_⟩;ext;refine (h.take e).imp ?_;rintro _ S1 ⟨m,rfl,hm,h1,k1⟩;ext;refine xx (zm hm) (z:= .str w) (Zx ∅ rfl) ?_;ext;refine zo ?_;ext;refine in4 ?_
  rw[decide_eq_false (show ¬ (w = "if" \/ w = "while" \/ w = "times" \/ w = "hand") from λq => by
   have hw:w="pass"\/w="gain"\/w="look"\/w="set"\/w="draw":=by simpa using hw
   rcases hw with rfl|rfl|rfl|rfl|rfl<;>exact absurd q ∅)]
  refine⟨_,rfl,λ_=> ?_,nofun⟩;ext;refine zaA (zm hm) ?_;rw[show L2.WJ ((wd (Xv.str w::r)).map Xv.str) (some 1) none=(r.map tx).map Xv.str from WA _ 1];ext;refine (zfC hp zQ).imp ?_;rintro _ S2 ⟨rfl,k2⟩;have kk:Kn S1 S2:=Kn.refl.app.trans k2;exact⟨rfl,h1.keep kk,k1.trans (Kp.of_kn kk)⟩
 | @nest x us rss hd bw q hx h2 _ ih=>
  intro f op S o wss k l ms rest hf fH hl h e;obtain⟨f,rfl⟩:∃e,f=e+1:=⟨f-1,⋯⟩;obtain⟨pk,_,w,r,rfl,hw⟩:=hx.pts;have hlen:((Xv.str w::r)::(xb bw rss++[w1 "end"])).length=(xb bw rss).length+1+1:=by rw[rl,rk];rfl
  rw[hlen] at hl ⊢;have e0:wss.drop k=wd (Xv.str w::r)::((xb bw rss).map wd++[("end":Str)]::rest):=by
   rw[e,sj,rW,sR,sv];rfl
  rw[Zc];walk_at "wr";unfold Za;ext;refine wc ?_;ext;refine⟨_,_,rfl,h.rw.ob,rfl,?_⟩;ext;refine (h.take e0).imp ?_;rintro _ S1 ⟨m,rfl,hm,h1,k1⟩;have e1:=(Vm e0).2;ext;refine xx (zm hm) (z:= .str w) (Zx ∅ rfl) ?_;ext;refine zo ?_;ext;refine in4 ?_;rw[zpE hw];refine⟨_,rfl,nofun,λ_=>zq ?_⟩;refine zh (zo ?_);ext;refine yd (λz=>absurd z ⋯) (λ_=>zq ?_);have no:∀{w v:Str} {a b:TwS} {N:Rho->Sto->Prop} {R:Xv->Sto->Prop},w≠v->WS (b [some (.ref o),some (.int (op:Int)),some (.ref m),some (.str w)] S1) N R->WS (sIf (bE (eOp (yk false) (za 3) (eC (.str v)))) a b [some (.ref o),some (.int (op:Int)),some (.ref m),some (.str w)] S1) N R:=by
   intro w v a b N R h k;refine zo ?_;ext;exact ye h ⟨_,rfl,nofun,λ_=>k⟩
  have cut:∀{P:Xv->Sto->Prop},(∀m2 S2,Txs S2 m2 (r.map tx)->Kn S1 S2->P (.ref m2) S2)->WO (Wo (.ref m) (some 1) none S1) P:=by
   intro P k;refine zaA (zm hm) ?_;rw[show L2.WJ ((wd (Xv.str w::r)).map Xv.str) (some 1) none=(r.map tx).map Xv.str from WA _ 1];exact k _ _ zQ Kn.refl.app
  have ek:k+((xb bw rss).length+1+1)=k+1+(xb bw rss).length+1:=by omega
  rw[ek];generalize fN:Xv.str w::r=ps at hx;cases hx with
  | @cond a b s u v hs ha hb=>
   obtain⟨e2,rfl⟩:=sq fN;cases e2;obtain⟨r1,r2,rfl⟩:∃r1 r2,rss=[r1,r2]:=by
    match rss,h2 with
    |[r1,r2],_=>exact⟨r1,r2,rfl⟩
   have fB:(xb "else" [r1,r2]).length=r1.length+1+r2.length:=by
    show (r1++w1 "else"::r2).length=_;rw[rk,rl];omega
   refine zh (zo ?_);ext;refine zS ⟨_,rfl,λ_=> ?_,nofun⟩;ext;refine cut λm2 S2 ik k2=> ?_;ext;refine (Ta ha hb hs ik).imp ?_;rintro _ S3 ⟨rfl,k3⟩;ext;have h3:xO S3 o wss (k+1) l ms:=h1.keep (k2.trans k3);have e3:wss.drop (k+1)=r1.map wd++[("else":Str)]::(r2.map wd++[("end":Str)]::rest):=by
    rw[e1];show (r1++w1 "else"::r2).map wd++_=_;rw[rW,sj,sv,sR];rfl
   refine (zky (op:=op+1) (ih 0 u r1 rfl rfl) (ih 1 v r2 rfl rfl) ⋯ ⋯ ⋯ ⋯ h3 e3).imp ?_;rintro _ S4 ⟨rfl,h4,k4⟩;refine⟨rfl,?_,k1.trans ((Kp.of_kn (k2.trans k3)).trans k4)⟩;rw[fB,show k+1+(r1.length+1+r2.length)+1=k+1+r1.length+1+r2.length+1 by omega];exact h4
  | @whil a b s u hs ha hb=>
   obtain⟨e2,rfl⟩:=sq fN;cases e2;obtain⟨r1,rfl⟩:∃r1,rss=[r1]:=by
    match rss,h2 with
    |[r1],_=>exact⟨r1,rfl⟩
   have hl:r1.length+1+1<=2000:=hl;refine zh (no ∅ (zq (zh (zo ?_))));ext;refine zS ⟨_,rfl,λ_=> ?_,nofun⟩;ext;refine cut λm2 S2 ik k2=> ?_;ext;refine (Ta ha hb hs ik).imp ?_;rintro _ S3 ⟨rfl,k3⟩;ext;refine (zck (op:=op+1) (ih 0 u r1 rfl rfl) ⋯ ⋯ ⋯ (h1.keep (k2.trans k3)) e1).imp ?_;rintro _ S4 ⟨rfl,h4,k4⟩;ext;exact⟨rfl,h4,k1.trans ((Kp.of_kn (k2.trans k3)).trans k4)⟩
  | @times j u h0 h9=>
   obtain⟨e2,rfl⟩:=sq fN;cases e2;obtain⟨r1,rfl⟩:∃r1,rss=[r1]:=by
    match rss,h2 with
    |[r1],_=>exact⟨r1,rfl⟩
   have hl:r1.length+1+1<=2000:=hl;refine zh (no ∅ (zq (zh (no ∅ (zq (zh (zo ?_)))))));ext;refine zS ⟨_,rfl,λ_=> ?_,nofun⟩;ext;refine cut λm2 S2 ik k2=> ?_;ext;refine (zl2 h0 h9 ik).imp ?_;rintro _ S3 ⟨rfl,k3⟩;ext;refine (zck (op:=op+1) (ih 0 u r1 rfl rfl) ⋯ ⋯ ⋯ (h1.keep (k2.trans k3)) e1).imp ?_;rintro _ S4 ⟨rfl,h4,k4⟩;ext;exact⟨rfl,h4,k1.trans ((Kp.of_kn (k2.trans k3)).trans k4)⟩
  | @hand us kM kL=>
   obtain⟨e2,rfl⟩:=sq fN;cases e2;refine zh (no ∅ (zq (zh (no ∅ (zq (zh (no ∅ (zq ?_))))))));refine zh (zo ?_);ext;refine xw (zm hm) ?_;ext;refine⟨λz=>absurd (show (!decide (((1:Nat):Int)=1))=true from z) ∅,λ_=>zq ?_⟩;ext;refine (zep (op:=op+1) d5 h2 kM kL ih ⋯ ⋯ ⋯ h1 e1).imp ?_;rintro _ S4 ⟨rfl,h4,k4⟩;ext;exact⟨rfl,h4,k1.trans k4⟩
 | @blk ds rss q h1 hp ih=>
  intro f op S o wss k l ms rest hf fH hl h e mj fM;obtain⟨f,rfl⟩:∃e,f=e+1:=⟨f-1,⋯⟩;have hlen:ds.length<=2000:=by
   have:=zfE (l:=rss) λr hr=>by
    obtain⟨i,hi,rfl⟩:=tV.1 hr;exact (hp i _ _ (r9 ⋯) (r9 hi)).pos.1
   omega
  rw[Xl];walk_at "wr";unfold ZQ;ext;have h':xO (S++[Ce.lst []]) o wss k l ms:=h.keep Kn.refl.app;refine xm _ (zaW (zoi (T0:=S) (rest:=rest) ⋯ fH h.o_lt h.l_lt h.lt h1 hp ih hl hlen e mj fM fu 0 _ (by have:=d5.le;omega) (rS _) h' zQ (Kp.of_kn Kn.refl.app))) ?_;rintro ρ S3 ⟨rfl,ai,h3,k3⟩;ext;refine xg ai ?_;exact⟨rfl,h3,k3⟩
noncomputable def zcl:List (List (List Xv))->Nat
 |[]=>0
 |r::t=>r.length+1+zcl t
theorem zdx (r:List (List Xv)):∀l:List (List (List Xv)),zcl (l++[r])=zcl l+(r.length+1)
 |[]=>by simp[zcl]
 |a::t=>by
  show a.length+1+zcl (t++[r])=a.length+1+zcl t+(r.length+1);rw[zdx r t];omega
theorem zhM {b:Str}:∀l:List (List (List Xv)),(xb b l).length<=zcl l/\(l≠[]->(xb b l).length+1<=zcl l)
 |[]=>⟨rj _,λh=>absurd rfl h⟩
 |[a]=>⟨by show a.length<=a.length+1+0;omega,λ_=>rj _⟩
 |a::c::t=>by
  have:=(zhM (b:=b) (c::t)).2 (by intro q;cases q);have e:(xb b (a::c::t)).length=a.length+((xb b (c::t)).length+1):=by
   show (a++w1 b::xb b (c::t)).length=_;rw[rk,rl]
  have e2:zcl (a::c::t)=a.length+1+zcl (c::t):=rfl;exact⟨⋯,λ_=>by omega⟩
def GB (bs:List (Str×Int)) (l:List Xv) (q c:Nat):Prop:=∃n q' c' rows,Tr bs (.b l) n q' true c'/\q'<=q/\c'<=c/\Pg (.b l) rows q/\rows.length+1<=c
def GD (bs:List (Str×Int)) (x:Xv) (q c:Nat):Prop:=∃n q' c' rows,Tr bs (.d x) n q' true c'/\q'<=q/\c'<=c/\Pg (.d x) rows q/\rows.length<=c
def GS (bs:List (Str×Int)) (us:List (List Xv)) (q c:Nat):Prop:=∃n q' c' rss,Tr bs (.s us) n q' true c'/\q'<=q/\c'<=c/\us.length=rss.length/\(∀(i:Nat) u r,us[i]? =some u->rss[i]? =some r->Pg (.b u) r q)/\zcl rss<=c
theorem Tr.app {r:List Xv} {m:Int} {p e:Nat} {h:Bool} (hr:Tr bs (.b r) m p h e):∀{l:List Xv} {n:Int} {q c:Nat} {g:Bool},Tr bs (.b l) n q g c->∃c',c'+1=c+e/\Tr bs (.b (l++r)) (n+m) (max q p) (g&&h) c':=by
 intro l
 induction l with
 |nil=>
  intro n q c g hl;cases hl;refine⟨e,⋯,?_⟩;rw[uA,Nat.zero_max,tI];exact hr
 |cons x l ih=>
  intro n q c g hl;cases hl with
  | @cons _ _ n1 m1 q1 p1 c1 e1 g1 h1 t1 t2=>
   obtain⟨c',hc,t3⟩:=ih t2;refine⟨c1+c',⋯,?_⟩;have:=Tr.cons t1 t3;rw[<-An,<-Be,<-Aj] at this;exact this
theorem Tr.one {n:Int} {q c:Nat} {g:Bool} (h:Tr bs (.d x) n q g c):Tr bs (.b [x]) n q g (c+1):=by
 have:=Tr.cons h .nil;rw[Int.add_zero,Nat.max_zero,x5] at this;exact this
theorem Tr.snoc {l:List Xv} {n m:Int} {q p c e:Nat} {g h:Bool} (hl:Tr bs (.b l) n q g c) (hx:Tr bs (.d x) m p h e):Tr bs (.b (l++[x])) (n+m) (max q p) (g&&h) (c+e):=by
 obtain⟨c',hc,t⟩:=Tr.app hx.one hl;obtain rfl:c'=c+e:=by omega
 exact t
theorem Tr.snocs {u:List Xv} {m:Int} {p e:Nat} {h:Bool} (hu:Tr bs (.b u) m p h e):∀{us:List (List Xv)} {n:Int} {q c:Nat} {g:Bool},Tr bs (.s us) n q g c->Tr bs (.s (us++[u])) (n+m) (max q p) (g&&h) (c+e):=by
 intro us
 induction us with
 |nil=>
  intro n q c g hl;cases hl;have:=Tr.conss hu .nils;rw[Int.add_zero,Nat.max_zero,x5,Nat.add_zero] at this;rw[uA,Nat.zero_max,tI,y9];exact this
 |cons x l ih=>
  intro n q c g hl;cases hl with
  | @conss _ _ n1 m1 q1 p1 c1 e1 g1 h1 t1 t2=>
   have:=Tr.conss t1 (ih t2);rw[<-An,<-Be,<-Aj,<-uM] at this;exact this
theorem GB.nil {q:Nat}:GB bs [] q 1:=⟨0,0,1,[],.nil,rS _,rj _,.nil,rj _⟩
theorem GB.snoc {l:List Xv} {q c e:Nat} (h:GB bs l q c) (g:GD bs x q e):GB bs (l++[x]) q (c+e):=by
 obtain⟨n,q1,c1,r1,t1,a1,b1,p1,d1⟩:=h;obtain⟨m,q2,c2,r2,t2,a2,b2,p2,d2⟩:=g;exact⟨_,_,_,_,t1.snoc t2,Nat.max_le.2 ⟨a1,a2⟩,Ba b1 b2,p1.snoc p2,by rw[rk];omega⟩
theorem GS.nil {q:Nat}:GS bs [] q 0:=⟨0,0,0,[],.nils,rS _,rj _,rfl,λi u r h=>by simp at h,rj _⟩
theorem GS.snoc {us:List (List Xv)} {u:List Xv} {q c e:Nat} (h:GS bs us q c) (g:GB bs u q e):GS bs (us++[u]) q (c+e):=by
 obtain⟨n,q1,c1,rss,t1,a1,b1,hl,p1,d1⟩:=h;obtain⟨m,q2,c2,r2,t2,a2,b2,p2,d2⟩:=g;refine⟨_,_,_,rss++[r2],Tr.snocs t2 t1,Nat.max_le.2 ⟨a1,a2⟩,Ba b1 b2,by rw[rk,rk,hl];rfl,λi v r h1 h2=> ?_,by rw[zdx];omega⟩;by_cases hi:i<us.length
 .rw[rB hi] at h1;rw[rB ⋯] at h2;exact p1 i v r h1 h2
 .have:=(rg.1 h1).1;rw[rk,rC] at this;obtain rfl:i=us.length:=by omega
  rw[rL (rj _),tY] at h1;rw[rL ⋯,show us.length-rss.length=0 by omega] at h2;cases h1;cases h2;exact p2
theorem GB.s1 {u:List Xv} {q c:Nat} (h:GB bs u q c):GS bs [u] q c:=by
 have:=GS.nil.snoc h;rw[y9] at this;exact this
theorem GS.deed {us:List (List Xv)} {q c:Nat} {tk:Option Int} {hd:List Xv} {bw:Str} (h:GS bs us q c) (nd:Nd x us tk true) (ow:Own bs x true) (nx:Nx x us hd bw):GD bs x (1+q) (c+1):=by
 obtain⟨n,q1,c1,rss,t1,a1,b1,hl,p1,d1⟩:=h;refine⟨_,_,_,_,Tr.deed nd ow t1,by rw[if_pos rfl];omega,uo b1,by rw[uC];exact .nest nx hl p1,?_⟩;have dM:rss≠[]:=by
  intro q;rw[q] at hl;have hl:us.length=0:=hl;cases nx with
  |hand h2 _=>omega
  |_=>cases hl
 have:=(zhM (b:=bw) rss).2 dM;rw[rl,rk,rC];omega
theorem GD.mono {q q2 c c2:Nat} (h:GD bs x q c) (hq:q<=q2) (hc:c<=c2):GD bs x q2 c2:=by
 obtain⟨n,q1,c1,r,t1,a1,b1,p,d⟩:=h;exact⟨n,q1,c1,r,t1,⋯,⋯,p.mono hq,⋯⟩
theorem GB.mono {l:List Xv} {q q2 c c2:Nat} (h:GB bs l q c) (hq:q<=q2) (hc:c<=c2):GB bs l q2 c2:=by
 obtain⟨n,q1,c1,r,t1,a1,b1,p,d⟩:=h;exact⟨n,q1,c1,r,t1,⋯,⋯,p.mono hq,⋯⟩
theorem GS.mono {l:List (List Xv)} {q q2 c c2:Nat} (h:GS bs l q c) (hq:q<=q2) (hc:c<=c2):GS bs l q2 c2:=by
 obtain⟨n,q1,c1,r,t1,a1,b1,hl,p,d⟩:=h;exact⟨n,q1,c1,r,t1,⋯,⋯,hl,λi u r a b=>(p i u r a b).mono hq,⋯⟩
def zhN (fu:Nat) (ns:List Int) (bs:List (Str×Int)) (stop q:Nat):Prop:=∀f,3*q+2<=f->∀(S:Sto) (k:Nat),Sc ns S->k<=stop->W (yc fu f [.ref 0,.int (k:Int),.tup (bs.map yK),.int (q:Int),.int (stop:Int)] S) λv S'=>∃(l:List Xv) (k':Nat),v= .tup [.tup l,.int (k':Int)]/\k<=k'/\k'<=stop/\GB bs l q (12*(k'-k)+1)/\Kn S S'
def zcm (fu:Nat) (ns:List Int) (bs:List (Str×Int)) (stop q:Nat):Prop:=∀f,3*q+1<=f->∀(S:Sto) (k:Nat),Sc ns S->k<stop->W (zT fu f [.ref 0,.int (k:Int),.tup (bs.map yK),.int (q:Int),.int (stop:Int)] S) λv S'=>∃(x:Xv) (k':Nat),v= .tup [x,.int (k':Int)]/\k<k'/\k'<=stop/\GD bs x q (12*(k'-k))/\Kn S S'
def zpH (fu:Nat) (ns:List Int) (bs:List (Str×Int)) (stop q:Nat):Prop:=∀f,3*q<=f->∀(S:Sto) (k:Nat),Sc ns S->k<stop->W (ym fu f [.ref 0,.int (k:Int),.tup (bs.map yK),.int (q:Int),.int (stop:Int)] S) λv S'=>∃(x:Xv) (k':Nat),v= .tup [x,.int (k':Int)]/\k<k'/\k'<=stop/\GD bs x q (12*(k'-k))/\Kn S S'
theorem zoj {stop q:Nat} (gq:stop<=63) (hB:zhN fu ns bs stop q):zpH fu ns bs stop (q+1):=by
 intro f hf S k hs hk;obtain⟨f,rfl⟩:∃e,f=e+1:=⟨f-1,⋯⟩;rw[XF];walk_at "wr";unfold Zf;ext;refine (xi hs ⟨⋯,⋯⟩ ∅ ∅).imp ?_;rintro _ _ ⟨rfl,m0,m1,rfl⟩;ext;refine xm (λρ S2=>∃m:Nat,ρ=[some (.ref 0),some (.int (k:Int)),some (.tup (bs.map yK)),some (.int ((q+1:Nat):Int)),some (.int (stop:Int)),some (.int (m:Int)),none,none,none,none]/\2<=m/\m<=8/\S2=S) (zo ?_) ?_
 .ext;refine (xi hs ⟨⋯,⋯⟩ ∅ ∅).imp ?_;rintro _ _ ⟨rfl,_,_,rfl⟩;ext;refine yd (λh=> ?_) (λh=> ?_)
  .ext;exact⟨∅,∅,rfl⟩
  .ext;obtain⟨c,hc⟩:∃c:Nat,wA ns k 10193 3=c:=⟨(wA ns k 10193 3).toNat,⋯⟩;rw[hc] at m0 m1 ⊢;exact⟨2+c,by rw[tT];rfl,⋯,⋯,rfl⟩
 rintro ρ S2 ⟨m,rfl,ik,qL,rfl⟩;ext;refine vw (zbP ?_);ext;refine⟨⟨⋯,⋯⟩,_,rfl,?_⟩;refine wG (λi ρ S3=>∃(us:List (List Xv)) (k':Nat) (a8 a9:Option Xv),ρ=[some (.ref 0),some (.int (k:Int)),some (.tup (bs.map yK)),some (.int ((q+1:Nat):Int)),some (.int (stop:Int)),some (.int (m:Int)),some (.ref S2.length),some (.int (k':Int)),a8,a9]/\us.length=i/\k<k'/\k'<=stop/\GS bs us q (12*(k'-k-1)+i)/\S3[S2.length]? =some (.lst (us.map Xv.tup))/\Kn S2 S3) (λ_ _ _ _ _=>rfl) ?_ ?_ ?_
 .rintro i w ρ S3 hw ⟨us,k',a8,a9,rfl,m7,lq,il,hG,ai,kn⟩;obtain⟨hi,rfl⟩:=Wt hw;refine .of rfl ?_;dsimp only[sM];refine zh (UO ?_);ext;rw[show ((q+1:Nat):Int)-1=(q:Int) by omega];refine (hB f ⋯ S3 k' (hs.keep kn) il).imp ?_;rintro _ S4 ⟨l,k2,rfl,g1,g2,gB,k4⟩;refine .of rfl ?_;dsimp only[sM];ext;refine Yj ?_;ext;refine⟨⟨_,zm (k4.at ai)⟩,?_⟩;ext;refine xk (yN (k4.at ai)) (by rw[rh];exact zaY ⋯) ?_;ext;refine⟨us++[l],k2,_,_,rfl,by rw[rk,m7];rfl,⋯,g2,(hG.snoc gB).mono (rj _) ⋯,?_,(kn.trans k4).set (.inr (rj _))⟩;rw[xa (k4.at ai),rW];rfl
 .refine⟨[],k+1,none,none,?_,rfl,⋯,⋯,GS.nil.mono (rj _) (rS _),zQ,Kn.refl.app⟩;rw[tT];rfl
 .rintro ρ S3 ⟨us,k',a8,a9,rfl,m7,lq,il,hG,ai,kn⟩;rw[Zw,sH] at m7 hG;ext;refine xg ai ?_;ext;refine⟨_,k',rfl,lq,il,?_,kn⟩;have ow:=Own.hand (us:=us.map Xv.tup) (by rw[rh];omega) (bs:=bs);rw[rh,decide_eq_true (show 2<=us.length/\us.length<=8 from ⟨⋯,⋯⟩)] at ow;exact (hG.deed .hand ow (.hand ⋯ ⋯)).mono ⋯ ⋯
theorem zkA {stop q:Nat} (gq:stop<=63) (kD:Vs 1000 bs) (hB:∀p,q=p+1->zhN fu ns bs stop p):zcm fu ns bs stop q:=by
 intro f hf S k hs hk;obtain⟨f,rfl⟩:∃e,f=e+1:=⟨f-1,⋯⟩;rw[XE];walk_at "wr";unfold Ze;ext;refine (xi hs ⟨⋯,⋯⟩ ∅ ∅).imp ?_;rintro _ _ ⟨rfl,w0,w1,rfl⟩;generalize wA ns k 10187 11=w at w0 w1;ext;have plain:WS (zG (yn [(ze (wV fu) [(za 0),(za 1),(za 2)]),(eOp xj (za 1) (eC (.int 1)))]) [some (.ref 0),some (.int (k:Int)),some (.tup (bs.map yK)),some (.int (q:Int)),some (.int (stop:Int)),some (.int w),none,none,none,none] S) (λ_ _=>False) (λv S'=>∃(x:Xv) (k':Nat),v= .tup [x,.int (k':Int)]/\k<k'/\k'<=stop/\GD bs x q (12*(k'-k))/\Kn S S'):=by
  ext;refine (zlY hs ⟨⋯,⋯⟩ kD).imp ?_;rintro x S2 ⟨tr,k2⟩;ext;obtain⟨⟨ps,hp⟩,tr⟩:=tr;exact⟨x,k+1,rfl,⋯,⋯,⟨1,0,1,[ps],tr,rS _,⋯,.plain hp,by show 1<=_;omega⟩,k2⟩
 have plain:∀{N:Rho->Sto->Prop},WS (zG (yn [(ze (wV fu) [(za 0),(za 1),(za 2)]),(eOp xj (za 1) (eC (.int 1)))]) [some (.ref 0),some (.int (k:Int)),some (.tup (bs.map yK)),some (.int (q:Int)),some (.int (stop:Int)),some (.int w),none,none,none,none] S) N (λv S'=>∃(x:Xv) (k':Nat),v= .tup [x,.int (k':Int)]/\k<k'/\k'<=stop/\GD bs x q (12*(k'-k))/\Kn S S'):=by
  intro N;rcases plain with⟨_,_,_,h⟩|h
  .exact h.elim
  .exact .inr h
 refine zo (xX ?_);ext;refine yd (λh=>⟨λ_=>plain,nofun⟩) (λh=> ?_);ext;refine yd (λh=>plain) (λh2=> ?_);obtain⟨p,rfl⟩:∃p,q=p+1:=⟨q-1,⋯⟩;have mS:=hB p rfl;have e1:((p+1:Nat):Int)-1=(p:Int):=by omega
 refine zq ?_;refine zh (zo ?_);ext;refine yd (λh3=> ?_) (λh3=>zq ?_)
 .ext;exact zoj gq mS f ⋯ S k hs hk
 refine zh (UO ?_);ext;rw[e1,show (k:Int)+1=((k+1:Nat):Int) by omega];refine (mS f ⋯ S (k+1) hs ⋯).imp ?_;rintro _ S2 ⟨l,k2,rfl,g1,g2,gB,fW⟩;refine .of rfl ?_;dsimp only[sM];have fB:=hs.keep fW;refine zh (zo ?_);ext;refine yd (λh4=> ?_) (λh4=>zq ?_)
 .ext;refine (zgG (bs:=bs) fB ⟨⋯,⋯⟩).imp ?_;rintro _ _ ⟨⟨a,b,s,rfl,gX,ha,hb⟩,rfl⟩;ext;have ow:=Own.whil (s:=s) (u:= .tup l) ha.1 hb.1 (bs:=bs);rw[ha.2,hb.2] at ow;exact⟨_,k2,rfl,⋯,g2,(gB.s1.deed .whil ow (.whil gX (ha.so kD) (hb.so kD))).mono ⋯ ⋯,fW⟩
 refine zh (zo ?_);ext;refine yd (λh5=> ?_) (λh5=>zq ?_)
 .ext;refine (xi fB ⟨⋯,⋯⟩ ∅ ∅).imp ?_;rintro _ _ ⟨rfl,d0,d1,rfl⟩;ext;refine xm (λρ S3=>∃j:Int,ρ=[some (.ref 0),some (.int (k:Int)),some (.tup (bs.map yK)),some (.int ((p+1:Nat):Int)),some (.int (stop:Int)),some (.int w),some (.tup l),some (.int (k2:Int)),some (.int j),none]/\0<=j/\j<=60/\S3=S2) (zo ?_) ?_
  .ext;refine (xi fB ⟨⋯,⋯⟩ ∅ ∅).imp ?_;rintro _ _ ⟨rfl,_,_,rfl⟩;ext;refine yd (λh6=> ?_) (λh6=> ?_)
   .ext;refine (xi fB ⟨⋯,⋯⟩ ∅ ∅).imp ?_;rintro _ _ ⟨rfl,c0,c1,rfl⟩;ext;exact⟨c0,⋯,rfl⟩
   .ext;exact⟨d0,⋯,rfl⟩
  rintro ρ S3 ⟨j,rfl,j0,j1,rfl⟩;ext;have ow:=Own.times (k:=j) (u:= .tup l) (bs:=bs);rw[decide_eq_true ⟨j0,j1⟩] at ow;exact⟨_,k2,rfl,⋯,g2,(gB.s1.deed .times ow (.times j0 ⋯)).mono ⋯ ⋯,fW⟩
 refine zh (UO ?_);ext;rw[e1];refine (mS f ⋯ S2 k2 fB g2).imp ?_;rintro _ S3 ⟨l2,k3,rfl,g3,g4,ql,ny⟩;refine .of rfl ?_;dsimp only[sM];ext;refine (zgG (bs:=bs) (fB.keep ny) ⟨⋯,⋯⟩).imp ?_;rintro _ _ ⟨⟨a,b,s,rfl,gX,ha,hb⟩,rfl⟩;ext;have ow:=Own.cond (s:=s) (u:= .tup l) (w:= .tup l2) ha.1 hb.1 (bs:=bs);rw[ha.2,hb.2] at ow;exact⟨_,k3,rfl,⋯,g4,((gB.s1.snoc ql).deed .cond ow (.cond gX (ha.so kD) (hb.so kD))).mono ⋯ ⋯,fW.trans ny⟩
theorem zkB {T0:Sto} {stop q f:Nat} {R:Xv->Sto->Prop} (gq:stop<=63) (hf:3*q+1<=f) (hD:zcm fu ns bs stop q) (kc:Sc ns T0) {k0:Nat}:∀(m:Nat) (k:Nat) (g:Bool) (l:List Xv) (a7:Option Xv) (S:Sto),stop-k<m->k0<=k->k<=stop->GB bs l q (12*(k-k0)+1)->l.length<=k-k0->S[T0.length]? =some (.lst l)->Kn T0 S->
  WS (Vr (XO (bE (za 6)) (bE (eOp dLt (za 1) (za 4)))) (zk (zF (eOp dGt (ze (zp fu) [(za 0),(za 1),(eC (.int 10247)),(eC (.int 3))]) (eC (.int 0))) (gN 6)) (zk (zF (ze (zT fu f) [(za 0),(za 1),(za 2),(za 3),(za 4)]) (gT 2 (yA (gN 7) (yA (gN 1) Yg)))) (yJ (eMt yg (za 5) [(za 7)])))) m [some (.ref 0),some (.int (k:Int)),some (.tup (bs.map yK)),some (.int (q:Int)),some (.int (stop:Int)),some (.ref T0.length),some (.bl g),a7] S)
   (λρ S'=>∃(l:List Xv) (k':Nat) (g:Bool) (a7:Option Xv),ρ=[some (.ref 0),some (.int (k':Int)),some (.tup (bs.map yK)),some (.int (q:Int)),some (.int (stop:Int)),some (.ref T0.length),some (.bl g),a7]/\k0<=k'/\k'<=stop/\GB bs l q (12*(k'-k0)+1)/\S'[T0.length]? =some (.lst l)/\Kn T0 S') R:=by
 intro m
 induction m with
 |zero=>intro k g l a7 S h;omega
 |succ m ih=>
  intro k g l a7 S hm pO mD hG hl ai kn;have stopN:(λρ S'=>∃(l:List Xv) (k':Nat) (g:Bool) (a7:Option Xv),ρ=[some (.ref 0),some (.int (k':Int)),some (.tup (bs.map yK)),some (.int (q:Int)),some (.int (stop:Int)),some (.ref T0.length),some (.bl g),a7]/\k0<=k'/\k'<=stop/\GB bs l q (12*(k'-k0)+1)/\S'[T0.length]? =some (.lst l)/\Kn T0 S') [some (.ref 0),some (.int (k:Int)),some (.tup (bs.map yK)),some (.int (q:Int)),some (.int (stop:Int)),some (.ref T0.length),some (.bl g),a7] S:=⟨l,k,g,a7,rfl,pO,mD,hG,ai,kn⟩;refine Xx (xl ?_);ext;refine⟨λhg=> ?_,λhg=>⟨nofun,λ_=>stopN⟩⟩;ext;refine yd (λgG=> ?_) (λgG=>stopN);have gG:k<stop:=by omega
  have hs:=kc.keep kn;ext;refine (xi hs ⟨⋯,⋯⟩ ∅ ∅).imp ?_;rintro _ _ ⟨rfl,_,_,rfl⟩;ext;refine UO ?_;ext;refine (hD f hf S k hs gG).imp ?_;rintro _ S2 ⟨x,k2,rfl,g1,g2,gD,fW⟩;refine .of rfl ?_;dsimp only[sM];ext;refine Yj ?_;ext;refine⟨⟨_,zm (fW.at ai)⟩,?_⟩;ext;refine xk (yN (fW.at ai)) (zaY ⋯) ?_;ext;exact ih k2 _ (l++[x]) _ _ ⋯ ⋯ g2 ((hG.snoc gD).mono (rj _) ⋯) (by rw[rk,rC];omega) (by rw[xa (fW.at ai)]) ((kn.trans fW).set (.inr (rj _)))
theorem zkC {stop q:Nat} (d5:Big fu) (gq:stop<=63) (hD:zcm fu ns bs stop q):zhN fu ns bs stop q:=by
 intro f hf S k hs hk;obtain⟨f,rfl⟩:∃e,f=e+1:=⟨f-1,⋯⟩;rw[Xm];walk_at "wr";unfold wW;ext;have jk:Sc ns (S++[Ce.lst []]):=hs.keep Kn.refl.app;refine (xi jk ⟨⋯,⋯⟩ ∅ ∅).imp ?_;rintro _ _ ⟨rfl,_,_,rfl⟩;ext;refine xm _ (zaW (zkB (T0:=S) (k0:=k) gq ⋯ hD hs fu k _ [] none _ (by have:=d5.le;omega) (rj _) hk (by rw[tY];exact .nil) (rS _) zQ Kn.refl.app)) ?_;rintro ρ S3 ⟨l,k',g,a7,rfl,h1,h2,hG,ai,kn⟩;ext;refine xg ai ?_;ext;exact⟨l,k',rfl,h1,h2,hG,kn⟩
theorem zkD {stop:Nat} (d5:Big fu) (gq:stop<=63) (hb:Vs 1000 bs):∀q,zhN fu ns bs stop q/\zcm fu ns bs stop q
 |0=>by
  have hD:zcm fu ns bs stop 0:=zkA gq hb λp e=>by omega
  exact⟨zkC d5 gq hD,hD⟩
 |q+1=>by
  have hD:zcm fu ns bs stop (q+1):=zkA gq hb λp e=>by
   obtain rfl:q=p:=by omega
   exact (zkD d5 gq hb q).1
  exact⟨zkC d5 gq hD,hD⟩
theorem zkE {T0:Sto} {stop q f:Nat} {R:Xv->Sto->Prop} (gq:stop<=63) (hf:3*q+1<=f) (hD:zcm fu ns bs stop q) (kc:Sc ns T0):∀(m:Nat) (k:Nat) (l:List Xv) (a6:Option Xv) (S:Sto),stop-k<m->k<=stop->GB bs l q (12*k+1)->l.length<=k->S[T0.length]? =some (.lst l)->Kn T0 S->
  WS (Vr (bE (eOp dLt (za 5) (za 3))) (zk (zF (ze (zT fu f) [(za 0),(za 5),(za 1),(za 2),(za 3)]) (gT 2 (yA (gN 6) (yA (gN 5) Yg)))) (yJ (eMt yg (za 4) [(za 6)]))) m [some (.ref 0),some (.tup (bs.map yK)),some (.int (q:Int)),some (.int (stop:Int)),some (.ref T0.length),some (.int (k:Int)),a6] S)
   (λρ S'=>∃(l:List Xv) (k':Nat) (a6:Option Xv),ρ=[some (.ref 0),some (.tup (bs.map yK)),some (.int (q:Int)),some (.int (stop:Int)),some (.ref T0.length),some (.int (k':Int)),a6]/\k'<=stop/\GB bs l q (12*k'+1)/\l.length<=k'/\S'[T0.length]? =some (.lst l)/\Kn T0 S') R:=by
 intro m
 induction m with
 |zero=>intro k l a6 S h;omega
 |succ m ih=>
  intro k l a6 S hm mD hG hl ai kn;refine Xx ?_;ext;refine yd (λgG=> ?_) (λgG=>⟨l,k,a6,rfl,mD,hG,hl,ai,kn⟩);have gG:k<stop:=by omega
  have hs:=kc.keep kn;refine zh (UO ?_);ext;refine (hD f hf S k hs gG).imp ?_;rintro _ S2 ⟨x,k2,rfl,g1,g2,gD,fW⟩;refine .of rfl ?_;dsimp only[sM];ext;refine Yj ?_;ext;refine⟨⟨_,zm (fW.at ai)⟩,?_⟩;ext;refine xk (yN (fW.at ai)) (zaY ⋯) ?_;ext;exact ih k2 (l++[x]) _ _ ⋯ g2 ((hG.snoc gD).mono (rj _) ⋯) (by rw[rk,rC];omega) (by rw[xa (fW.at ai)]) ((kn.trans fW).set (.inr (rj _)))
theorem zpI {stop:Nat} (d5:Big fu) (gq:stop<=63) (hb:Vs 1000 bs) (hs:Sc ns S):W (Uc fu [.ref 0,.tup (bs.map yK),.int 4,.int (stop:Int)] S) λv S'=>∃l:List Xv,v= .ref S.length/\S'[S.length]? =some (.lst l)/\GB bs l 4 760/\l.length<=63/\Kn S S':=by
 walk_at "wr";unfold XG;ext;refine xm _ (zaW (zkE (T0:=S) (q:=4) gq ∅ (zkD d5 gq hb 4).2 hs fu 0 [] none _ (by have:=d5.le;omega) (rS _) .nil (rS _) zQ Kn.refl.app)) ?_;rintro ρ S3 ⟨l,k',a6,rfl,h1,hG,hl,ai,kn⟩;ext;exact⟨l,rfl,ai,hG.mono (rj _) ⋯,⋯,kn⟩
def zai (bs:List (Str×Int)):Prop:=bs.length<=30/\∀b∈bs,NmZ b.1/\0<=b.2/\b.2<=999999999
theorem Vs.bf (hB:Vs 1000 bs):zai bs:=⟨by have:=hB.len;omega,λb hb=>⟨hB.nm b hb,by have:=hB.sz b hb;omega,by have:=hB.sz b hb;omega⟩⟩
theorem ziF {T0:Sto} {o l:Nat} {wss:List (List Str)} {ms:List Nat} {R:Xv->Sto->Prop} (hB:zai bs) (hlen:bs.length<=wss.length)
  (jm:∀(i:Nat) b,bs[i]? =some b->wss[i]? =some [("box":Str),b.1,nt b.2]) (gY:∀w r,wss[bs.length]? =some (w::r)->w≠"box") (hw:∀ws∈wss,ws≠[]) (kh:o<T0.length) (ju:l<T0.length) (gF:∀m∈ms,m<T0.length):
  ∀(n i:Nat) (a2:Option Xv) (S:Sto),bs.length-i<n->i<=bs.length->Vv S o wss i l ms->S[T0.length]? =some (.lst ((bs.take i).map yK))->Kp (· =o) T0 S->
  WS (Vr (bE (eOp zd4 (xS "Rows" "first_word" (zR fu) (za 0) []) (eC (.str "box")))) (zk (zF (xS "Rows" "taken" (xN fu) (za 0) []) (gN 2)) (zk (sIf (bE (eOp zdS (eFn ww [(za 2)]) (eC (.int 3)))) Zu zx) (yJ (eMt yg (za 1) [(yn [(ze (xL fu) [(eOp Ye (za 2) (eC (.int 1)))]),(ze (xq fu) [(eOp Ye (za 2) (eC (.int 2)))])])])))) n [some (.ref o),some (.ref T0.length),a2] S)
   (λρ S'=>∃a2,ρ=[some (.ref o),some (.ref T0.length),a2]/\S'[T0.length]? =some (.lst (bs.map yK))/\Vv S' o wss bs.length l ms/\Kp (· =o) T0 S') R:=by
 intro n
 induction n with
 |zero=>intro i a2 S h;omega
 |succ n ih=>
  intro i a2 S hn hi h ai kp;refine Xx ?_;ext;refine wc ?_;ext;refine⟨_,_,rfl,h.ob,rfl,?_⟩;ext;refine (Uf h ⋯ hw).imp ?_;rintro _ _ ⟨rfl,rfl⟩;ext;by_cases jL:i<bs.length
  .have hr:=jm i _ (r9 jL);have hb:=uk jL;rw[hr];show WO (zd4 (.str "box") (.str "box") S) _;refine zd5 ?_;rw[decide_eq_true rfl];refine⟨_,rfl,λ_=> ?_,nofun⟩;ext;refine wc ?_;ext;refine⟨_,_,rfl,h.ob,rfl,?_⟩;ext;refine (zhI h hr).imp ?_;rintro _ S1 ⟨m,rfl,hm,h1,k1⟩;have hX:=k1.2 _ _ ai (show ¬T0.length=o by omega);have hm:zY S1 (.ref m)=some [.str "box",.str bs[i].1,.str (nt bs[i].2)]:=zm hm;obtain⟨iz,s1,s9⟩:=hB.2 _ hb;ext;refine zo ?_;ext;refine xw hm ?_;ext;rw[show (!decide ((([Xv.str "box",.str bs[i].1,.str (nt bs[i].2)]:List Xv).length:Int)=3))=false from rfl];refine⟨nofun,λ_=>zq ?_⟩;ext;refine Yj ?_;ext;refine⟨⟨_,zm hX⟩,?_⟩;ext;refine xx hm (z:= .str bs[i].1) rfl ?_;ext;refine iz.from.imp ?_
   rintro _ S2 ⟨rfl,k2⟩;ext;refine xx (k2.lst hm) (z:= .str (nt bs[i].2)) rfl ?_;ext;refine (Vj ⋯ ⋯).imp ?_;rintro _ S3 ⟨rfl,k3⟩;have kk:Kn S1 S3:=k2.trans k3;ext;have kF:=kk.at hX;refine xk (yN kF) (by rw[rh,sL];have:=hB.1;exact zaY ⋯) ?_;ext;refine ih (i+1) _ _ ⋯ ⋯ ?_ ?_ (((kp.trans k1).trans (Kp.of_kn kk)).set (.inr (rj _)))
   .exact (h1.keep kk).put ⋯ ⋯ (λz=>by have:=gF _ z;omega)
   .rw[xa kF,sd jL,rW];rfl
  .obtain rfl:i=bs.length:=by omega
   rw[sF] at ai;have fin:∃qv,[some (Xv.ref o),some (.ref T0.length),a2]=[some (.ref o),some (.ref T0.length),qv]/\S[T0.length]? =some (.lst (bs.map yK))/\Vv S o wss bs.length l ms/\Kp (· =o) T0 S:=⟨_,rfl,ai,h,kp⟩;cases he:wss[bs.length]? with
   |none=>exact zlL ⟨_,rfl,nofun,λ_=>fin⟩
   |some ws=>
    cases ws with
    |nil=>exact absurd rfl (hw _ (rV he))
    |cons w r=>
     refine zd5 ?_;rw[decide_eq_false (gY w r he)];exact⟨_,rfl,nofun,λ_=>fin⟩
theorem zfF {o l:Nat} {wss:List (List Str)} {ms:List Nat} (d5:Big fu) (hB:zai bs) (hlen:bs.length<=wss.length)
  (jm:∀(i:Nat) b,bs[i]? =some b->wss[i]? =some [("box":Str),b.1,nt b.2]) (gY:∀w r,wss[bs.length]? =some (w::r)->w≠"box") (hw:∀ws∈wss,ws≠[]) (gF:∀m∈ms,m<S.length) (h:Vv S o wss 0 l ms):
  W (ZR fu [.ref o] S) λv S'=>v= .tup (bs.map yK)/\Vv S' o wss bs.length l ms/\Kp (· =o) S S':=by
 walk_at "wr";unfold Wg;ext;have h1:Vv (S++[Ce.lst []]) o wss 0 l ms:=h.keep Kn.refl.app;have hb:=hB.1;refine xm _ (zaW (ziF (T0:=S) hB hlen jm gY hw (rg.1 h.ob).1 (rg.1 h.li).1 gF fu 0 none _ (by have:=d5.le;omega) (rS _) h1 zQ (Kp.of_kn Kn.refl.app))) ?_;rintro ρ S3 ⟨a2,rfl,ai,h3,k3⟩;ext;refine xg ai ?_;exact⟨rfl,h3,k3⟩
theorem ziG {P:Xv->Sto->Prop} {ρ:Rho} {n:TwI} {wss:List (List Str)} (hl:wss.length<=2100) (jh:∀ws∈wss,ws≠[]/\ws.length<=12/\∀w∈ws,Vu w)
  (hn:W (n ρ S) λget S1=>(∀S',Kn S1 S'->get S'=some ((wss.map (Txt.join " ")).map Xv.str))/\Kn S S1)
  (hz:∀ws∈wss,(Txt.join " " ws).length<=sizeLine)
  (k:∀(ms:List Nat) (S':Sto),Kn S S'->ms.length=wss.length->(∀(i m:Nat) (ws:List Str),ms[i]? =some m->wss[i]? =some ws->Txs S' m ws)->(∀m∈ms,m<S'.length)->P (.ref S'.length) (S'++[.lst (ms.map Xv.ref)])):
  W (xQ [none] n (gN 0) xR (zbW UQ (za 0) [(eC (.str " "))]) ρ S) P:=by
 refine zdX (hn.imp ?_);rintro get S1 ⟨hg,k1⟩;refine⟨(wss.map (Txt.join " ")).map Xv.str,hg S1 Kn.refl,?_⟩;refine zbQ (by rw[rh,rh];exact sD (szM ⋯)) (λi es S2=>∃ms:List Nat,es=ms.map Xv.ref/\ms.length=i/\(∀(j m:Nat) (ws:List Str),ms[j]? =some m->wss[j]? =some ws->Txs S2 m ws)/\(∀m∈ms,m<S2.length)/\Kn S1 S2) (λi es S2 _ h=>by obtain⟨_,_,_,_,_,k2⟩:=h;exact hg _ k2) ?_ ⟨[],rfl,rfl,(λj m ws h=>by simp at h),(λm h=>by cases h),Kn.refl⟩ ?_
 .rintro i w es S2 hw nY ⟨ms,rfl,gF,iI,gG,k2⟩;rw[rq,rq,B7,rG] at hw;obtain⟨ws,e,rfl⟩:=hw;obtain⟨ne,qz,oU⟩:=jh ws (rV e);have g9:Txt.split (Txt.join " " ws) " "=ws:=zcf (c:=32) ne λp hp=>(oU p hp).sp;refine .of rfl ?_;ext;refine⟨rfl,?_⟩;refine zaF ?_;show W (za 0 [some (.str (Txt.join " " ws))] S2) _;ext;refine⟨⟨_,rfl⟩,?_⟩;ext;refine zfh ⟨hz ws (rV e),rfl,by rw[g9];exact yU ⋯⟩ ?_;rw[g9];refine⟨ms++[S2.length],by rw[rW];rfl,by rw[rk,gF];rfl,?_,?_,k2.app⟩
  .intro j m oj hj lu;by_cases pQ:j<ms.length
   .rw[rB pQ] at hj;exact (Kn.refl.app).at (iI j m oj hj lu)
   .have:=(rg.1 hj).1;rw[rk,rC] at this;obtain rfl:j=ms.length:=by omega
    rw[rL (rj _),tY] at hj;cases hj;rw[gF,e] at lu;cases lu;exact zQ
  .intro m hm;rw[rk,rC];rw[sA,sG] at hm;rcases hm with hm|rfl
   .have:=gG m hm;omega
   .omega
 .rintro es S2 _ ⟨ms,rfl,gF,iI,gG,k2⟩;exact k ms S2 (k1.trans k2) (by rw[gF,rh,rh]) iI gG
theorem zgN {o:Nat} {wss:List (List Str)} {t:Str} (dM:wss≠[]) (hl:wss.length<=2100) (jh:∀ws∈wss,ws≠[]/\ws.length<=12/\∀w∈ws,Vu w) (hz:∀ws∈wss,(Txt.join " " ws).length<=sizeLine)
  (pB:∀ws∈wss,10∉(Txt.join " " ws).cps.toList) (ht:t=Txt.join "\n" (wss.map (Txt.join " "))) (p4:t.length<=sizeLine) (p5:t≠"") (ho:S[o]? =some (.ins "Rows" [])):
  W (xU fu [.ref o,.str t] S) λv S'=>v= .non/\∃l ms,Vv S' o wss 0 l ms/\(∀m∈ms,m<S'.length)/\Kp (· =o) S S':=by
 have kh:=(rg.1 ho).1;have g9:Txt.split t "\n"=wss.map (Txt.join " "):=by
  rw[ht];refine zcf (c:=10) (by simpa using dM) λp hp=> ?_;rw[t9] at hp;obtain⟨ws,h,rfl⟩:=hp;exact pB ws h
 walk_at "wr";unfold wI;refine zh (Tw ?_);ext;refine⟨_,_,rfl,Kn.refl.app.at ho,show 0<1000 by decide,?_⟩;have k1:Kp (· =o) S ((S++[Ce.lst []]).set o (.ins "Rows" (VH "rows" (.ref S.length) []))):=(Kp.of_kn Kn.refl.app).set (.inl rfl);have js:((S++[Ce.lst []]).set o (.ins "Rows" (VH "rows" (.ref S.length) [])))[o]? =some (.ins "Rows" [("rows",.ref S.length)]):=xa (Kn.refl.app.at ho);generalize (S++[Ce.lst []]).set o (.ins "Rows" (VH "rows" (.ref S.length) []))=S1 at k1 js ⊢;refine zh (zo ?_);ext;refine zem ?_;rw[decide_eq_false p5];refine⟨_,rfl,λ_=>Tw ?_,nofun⟩;refine ziG hl jh ?_ hz ?_
 .refine zkh (n:=S1.length) ?_;refine zaF ?_;ext;refine⟨⟨_,rfl⟩,?_⟩;ext;refine zfh ⟨p4,rfl,by rw[g9,rh];exact sD (szM ⋯)⟩ ?_;rw[g9];exact⟨rfl,zm zQ,Kn.refl.app⟩
 intro ms S2 k2 gF iI gG;ext;refine⟨_,_,rfl,k2.app.at js,show 1<1000 by decide,?_⟩;refine Tw ?_;have kA:Kn S1 (S2++[Ce.lst (ms.map Xv.ref)]):=k2.app;have kB:Kn S2 (S2++[Ce.lst (ms.map Xv.ref)]):=Kn.refl.app;have kQ:(S2++[Ce.lst (ms.map Xv.ref)])[S2.length]? =some (.lst (ms.map Xv.ref)):=zQ;have oA:=kA.at js;have kl:∀(i m:Nat) (ws:List Str),ms[i]? =some m->wss[i]? =some ws->Txs (S2++[Ce.lst (ms.map Xv.ref)]) m ws:=λi m ws a b=>kB.at (iI i m ws a b);have km:∀m∈ms,m<(S2++[Ce.lst (ms.map Xv.ref)]).length:=λm hm=>by
  have:=gG m hm;rw[rk];omega
 generalize S2++[Ce.lst (ms.map Xv.ref)]=S3 at kA kQ oA kl km ⊢;generalize S2.length=l at kQ ⊢;have ne:∀{n:Nat} {xs:List Xv},S3[n]? =some (.lst xs)->o≠n:=λe q=>by rw[<-q,oA] at e;cases e
 have o4:(S3.set o (.ins "Rows" (VH "rows" (.ref l) [("rows",.ref S.length)])))[o]? =some (.ins "Rows" [("rows",.ref l)]):=xa oA;ext;refine⟨_,_,rfl,o4,show 1<1000 by decide,rfl,l,ms,⟨xa o4,?_,gF,λi m ws a b=> ?_⟩,?_,?_⟩
 .rw[sY (ne kQ),sY (ne kQ)];exact kQ
 .have e:=kl i m ws a b;unfold Txs at e ⊢;rw[sY (ne e),sY (ne e)];exact e
 .intro m hm;rw[t7,t7];exact km m hm
 .exact ((k1.trans (Kp.of_kn kA)).set (.inl rfl)).set (.inl rfl)
theorem zfG {o:Nat} (ho:S[o]? =some (.ins "Rows" [])):
  W (xU fu [.ref o,.str ""] S) λv S'=>v= .non/\∃l ms,Vv S' o [] 0 l ms/\(∀m∈ms,m<S'.length)/\Kp (· =o) S S':=by
 have kh:=(rg.1 ho).1;walk_at "wr";unfold wI;refine zh (Tw ?_);ext;refine⟨_,_,rfl,Kn.refl.app.at ho,show 0<1000 by decide,?_⟩;have k1:Kp (· =o) S ((S++[Ce.lst []]).set o (.ins "Rows" (VH "rows" (.ref S.length) []))):=(Kp.of_kn Kn.refl.app).set (.inl rfl);have js:((S++[Ce.lst []]).set o (.ins "Rows" (VH "rows" (.ref S.length) [])))[o]? =some (.ins "Rows" [("rows",.ref S.length)]):=xa (Kn.refl.app.at ho);have al:((S++[Ce.lst []]).set o (.ins "Rows" (VH "rows" (.ref S.length) [])))[S.length]? =some (.lst []):=zgy zQ ⋯;generalize (S++[Ce.lst []]).set o (.ins "Rows" (VH "rows" (.ref S.length) []))=S1 at k1 js al ⊢;refine zh (zo ?_);ext;refine zem ?_;rw[decide_eq_true rfl];refine⟨_,rfl,nofun,λ_=>zq (Tw ?_)⟩;ext;refine⟨_,_,rfl,js,show 1<1000 by decide,rfl,S.length,[],⟨xa js,zgy al ⋯,rfl,λi m ws a b=>by simp at a⟩,(λm hm=>by cases hm),k1.set (.inl rfl)⟩
noncomputable def Zl (b:Str×Int):Str:=wN [.str "box",.str b.1,.int b.2]
theorem zhO (b:Str×Int):Zl b="box "++b.1++" "++nt b.2:=by
 unfold Zl;rw[vF,vF,va];show ("box":Str)++" "++(b.1++" "++nt b.2)="box "++b.1++" "++nt b.2;rw[show ("box ":Str)="box"++" " from rfl];simp only[Str.append_assoc]
theorem ziH {P:Xv->Sto->Prop} {ρ:Rho} {m e:TwE} {f:Nat->Xv} (hl:bs.length<=10) (hm:W (m ρ S) λv S1=>v= .tup (bs.map yK)/\Kn S S1)
  (he:∀(i:Nat) b S2,bs[i]? =some b->W (e [some (.str b.1),some (.int b.2)] S2) λv S3=>v=f i/\Kn S2 S3)
  (k:∀S',Kn S S'->P (.ref S'.length) (S'++[.lst ((rY bs.length).map f)])):W (xQ [none,none] (iT m) (gT 2 (yA (gN 0) (yA (gN 1) Yg))) xR e ρ S) P:=by
 refine zdX ((UG hm).imp ?_);rintro get S1 ⟨hg,k1⟩;refine⟨bs.map yK,hg S1 Kn.refl,?_⟩;refine zbQ (by rw[rh];exact yU ⋯) (λi es S2=>Kn S1 S2/\es=(rY i).map f) (λ_ _ _ _ h=>hg _ h.1) ?_ ⟨Kn.refl,rfl⟩ ?_
 .rintro i w es S2 hw nY ⟨k2,rfl⟩;rw[rq,rG] at hw;obtain⟨b,e0,rfl⟩:=hw;refine .of rfl ?_;ext;refine⟨rfl,?_⟩;refine (he i b S2 e0).imp ?_;rintro _ S3 ⟨rfl,k3⟩;exact⟨k2.trans k3,by rw[A3,rW];rfl⟩
 .rintro es S2 _ ⟨k2,rfl⟩;rw[rh];exact k S2 (k1.trans k2)
theorem zhP {P:Xv->Sto->Prop} {a b:List Xv} (h1:zY S x=some a) (h2:zY S y=some b) (h:a.length+b.length<=sizeLine) (k:P (.ref S.length) (S++[.lst (a++b)])):WO (wS x y S) P:= .of (by unfold wS;rw[h1,h2];exact if_pos h) k
theorem zl4 {a:Str}:Str.empty++a=a:=Str.empty_append a
theorem zai.row (hB:zai bs):∀b∈bs,(Zl b).length<=120:=λb hb=>by
 obtain⟨iz,s1,s9⟩:=hB.2 b hb;refine Ue (λp hp=> ?_) (show 3<=12 by decide);simp only[rX,uO,or_false] at hp;rcases hp with rfl|rfl|rfl
 .exact Zj ∅
 .exact .inl ⟨_,rfl,iz.wd⟩
 .exact .inr ⟨_,rfl,⋯,⋯⟩
noncomputable def txt (bs:List (Str×Int)) (rows:List (List Xv)):Str:=Txt.join "\n" (bs.map Zl++rows.map wN)
theorem zfH (bs:List (Str×Int)):(rY bs.length).map (λi=>Xv.str (Zl (bs.getD i ("",0))))=(bs.map Zl).map Xv.str:=by
 rw[t8];apply z4
 .simp
 .intro i p q;have hi:i<bs.length:=by simpa using q
  rw[sZ,sZ,w5,rp,r9 hi];rfl
theorem zhQ {rows:List (List Xv)} (hB:zai bs) (hR:∀ps∈rows,zaf ps):∀t∈bs.map Zl++rows.map wN,t.length<=120:=by
 intro t ht;rw[sA,t9,t9] at ht;rcases ht with⟨b,hb,rfl⟩|⟨ps,hp,rfl⟩
 .exact hB.row b hb
 .obtain⟨a,b,_⟩:=hR ps hp;exact Ue a b
theorem zgO {rows:List (List Xv)} (hB:zai bs) (hR:∀ps∈rows,zaf ps) (hl:rows.length<=2000):JoinOk "\n" (bs.map Zl++rows.map wN)=true:=by
 have:=hB.1;refine zhH (B:=120) (zhQ hB hR) ?_;rw[rk,rh,rh];show (bs.length+rows.length)*120+(bs.length+rows.length)*1<=_;omega
theorem zgP {rows:List (List Xv)} (hB:zai bs) (hR:∀ps∈rows,zaf ps) (hl:rows.length<=2000):(txt bs rows).length<=(bs.length+rows.length)*121/\(txt bs rows).length<=sizeLine:=by
 have hb:=hB.1;have a:(txt bs rows).length<=(bs.length+rows.length)*121:=by
  unfold txt;rw[Vk];have h1:=StrLaws.join_length_le "\n" (bs.map Zl++rows.map wN);have h2:=StrLaws.sumLen_le (B:=120) _ (zhQ hB hR);have h3:(("\n":Str)).length=1:=rfl;rw[h3,rk,rh,rh] at h1;rw[rk,rh,rh] at h2;omega
 exact⟨a,si a (si (show _<=300000 by omega) ∅)⟩
theorem zl5 {P:Xv->Sto->Prop} {b:Str×Int} {e1 e2:TwE} {ρ:Rho} (iz:NmZ b.1) (s1:0<=b.2) (s9:b.2<=999999999) (h1:∀S,W (e1 ρ S) λv S'=>v= .str b.1/\S=S') (h2:∀S,W (e2 ρ S) λv S'=>v= .int b.2/\S=S') (k:P (.str (Zl b)) S):W (eOp xf (eOp xf (eOp xf (eC (.str "box ")) e1) (eC (.str " "))) (eFn zaE [e2]) ρ S) P:=by
 have l1:=iz.wd.le;have l2:=(zdv s1 s9).le;have ls:((" ":Str)).length=1:=rfl;have lb:(("box ":Str)).length=4:=rfl;ext;refine (h1 S).imp ?_;rintro _ _ ⟨rfl,rfl⟩;refine wM (yU ⋯) ?_;ext;refine wM (yU (by rw[Str.length_append];omega)) ?_;ext;refine (h2 S).imp ?_;rintro _ _ ⟨rfl,rfl⟩;ext;refine zbi (zch s1 s9) ?_;refine wM (yU (by rw[Str.length_append,Str.length_append];show _+(nt b.2).length<=_;omega)) ?_;rw[zhO] at k;exact k
theorem zhR {ds:List Xv} {rows:List (List Xv)} {q:Nat} (hB:Vs 1000 bs) (h9:bs.length<=9) (hd:Pg (.b ds) rows q) (hq:q<=12) (hl:rows.length<=2000):
  W (TQ fu [.tup [.tup (bs.map yK),.tup ds]] S) λv S'=>v= .str (txt bs rows)/\Kn S S':=by
 walk_at "wr";unfold TN;ext;refine ziH (bs:=bs) (f:=λi=> .str (Zl (bs.getD i ("",0)))) ⋯ ?_ ?_ ?_
 .ext;exact⟨rfl,Kn.refl⟩
 .intro i b S2 e;have hb:=rV e;obtain⟨s1,s9⟩:=hB.sz b hb;have wd:Vu b.1:=NmZ.wd (hB.nm b hb);have wn:=zdv (v:=b.2) ⋯ ⋯;have l1:=wd.le;have l2:=wn.le;have ls:((" ":Str)).length=1:=rfl;have lb:(("box ":Str)).length=4:=rfl;rw[rp,e];refine zhA ?_;ext;refine⟨?_,?_⟩
  .rw[Str.length_append];exact yU (by show 0+4<=100;decide)
  refine zhA ?_;ext;refine zlN (yU ⋯) ⟨_,rfl,?_,?_⟩
  .rw[Str.length_append,Str.length_append];exact yU (by show 0+4+_<=100;omega)
  refine zhA ?_;ext;refine⟨?_,?_⟩
  .rw[Str.length_append,Str.length_append,Str.length_append];exact yU (by show 0+4+_+1<=100;omega)
  refine zhA ?_;ext;refine zlM (zch ⋯ ⋯) (yU (by show (nt b.2).length<=100;omega)) ⟨_,rfl,?_,?_⟩
  .rw[Str.length_append,Str.length_append,Str.length_append,Str.length_append];exact yU (by show 0+4+_+1+(nt b.2).length<=100;omega)
  refine zn0 ⟨?_,Kn.refl⟩;show Xv.str (Str.empty++"box "++b.1++" "++nt b.2)=Xv.str (Zl b);rw[zhO,zl4]
 .intro S2 k2;rw[zfH];have jH:(S2++[Ce.lst ((bs.map Zl).map Xv.str)])[S2.length]? =some (.lst ((bs.map Zl).map Xv.str)):=zQ;have k1:Kn S (S2++[Ce.lst ((bs.map Zl).map Xv.str)]):=k2.app;generalize S2++[Ce.lst ((bs.map Zl).map Xv.str)]=S3 at jH k1 ⊢;generalize S2.length=n1 at jH ⊢;ext;refine zaF ?_;ext;refine⟨⟨_,rfl⟩,?_⟩;ext;refine (zl0 hd 40 S3 ⋯ hl).imp ?_;rintro _ S4 ⟨n,rfl,hn,_,k4⟩;ext;refine zhP (zm (k4.at jH)) (zm hn) (sD (szM (by rw[xV,rh,rh];omega))) ?_;ext;refine zbh (yN zQ) (ts:=bs.map Zl++rows.map wN) ?_ (zgO hB.bf hd.rowok hl) ⟨rfl,(k1.trans k4).app⟩;rw[<-Wz (bs.map Zl++rows.map wN),rW,t8 (l:=rows)];rfl
theorem zfI {c:Nat} {sep:Str}:∀{ts:List Str},c∈(Str.join sep ts).cps.toList->c∈sep.cps.toList\/∃t∈ts,c∈t.cps.toList
 |[],h=>by cases h
 |[t],h=> .inr ⟨t,rM ..,h⟩
 |t::u::r,h=>by
  have h:c∈(t++sep++Str.join sep (u::r)).cps.toList:=h;rw[wZ,wZ,sA,sA] at h;rcases h with (h|h)|h
  .exact .inr ⟨t,rM ..,h⟩
  .exact .inl h
  .rcases zfI h with h|⟨z,hz,h⟩
   .exact .inl h
   .exact .inr ⟨z,rF _ hz,h⟩
noncomputable def zgQ (b:Str×Int):List Str:=[("box":Str),b.1,nt b.2]
noncomputable def wk (bs:List (Str×Int)) (rows:List (List Xv)):List (List Str):=bs.map zgQ++rows.map wd
theorem zcn {rows:List (List Xv)}:(wk bs rows).map (Txt.join " ")=bs.map Zl++rows.map wN:=by
 unfold wk;rw[rW,t8,t8];rfl
theorem zkF {rows:List (List Xv)} (hB:zai bs) (hR:∀ps∈rows,zaf ps):∀ws∈wk bs rows,ws≠[]/\ws.length<=12/\∀w∈ws,Vu w:=by
 intro ws h;unfold wk at h;rw[sA,t9,t9] at h;rcases h with⟨b,hb,rfl⟩|⟨ps,hp,rfl⟩
 .obtain⟨iz,s1,s9⟩:=hB.2 b hb;refine⟨(by intro q;cases q),show 3<=12 by decide,λw hw=> ?_⟩;unfold zgQ at hw;simp only[rX,uO,or_false] at hw;rcases hw with rfl|rfl|rfl
  .exact vB ∅
  .exact iz.wd
  .exact zdv ⋯ ⋯
 .obtain⟨h1,h2,w,r,h3,_⟩:=hR ps hp;refine⟨(by rw[h3];intro q;cases q),by unfold wd;rw[rh];exact h2,λw hw=> ?_⟩;unfold wd at hw;rw[t9] at hw;obtain⟨p,iG,rfl⟩:=hw;exact (h1 p iG).wd
theorem zkG {ws:List Str} (h:ws.length<=12/\∀w∈ws,Vu w):(Txt.join " " ws).length<=120/\10∉(Txt.join " " ws).cps.toList:=by
 rw[Vk];constructor
 .have h1:=StrLaws.join_length_le " " ws;have h2:=StrLaws.sumLen_le (B:=9) ws (λt ht=>(h.2 t ht).le);have h3:((" ":Str)).length=1:=rfl;rw[h3] at h1;omega
 .intro q;rcases zfI q with q|⟨t,ht,q⟩
  .exact absurd q ∅
  .exact (h.2 t ht).nl q
theorem Vs.bx (hB:Vs 1000 bs) (h9:bs.length<=9):bxF bs=true:=by
 unfold bxF;rw[decide_eq_true ⟨h9,hB.nd⟩,decide_eq_true hB.pr,tI,x5,rT];refine⟨?_,?_⟩
 .rw[sr];intro b hb;have:=hB.nm b hb;exact this.2.2.nm this.1 this.2.1
 .unfold szF;rw[sr];intro b hb;exact decide_eq_true (hB.sz b hb)
theorem Vs.as (hB:Vs 1000 bs):∀b∈bs,asc b.1/\b.1.length<=100:=by
 intro b hb;have:=hB.nm b hb;exact⟨this.2.2.asc,⋯⟩
theorem zfJ {sep t:Str} {r:List Str}:t.length<=(Txt.join sep (t::r)).length:=by
 rw[Vk];cases r with
 |nil=>exact rj _
 |cons u r=>
  show t.length<=(t++sep++Str.join sep (u::r)).length;rw[Str.length_append,Str.length_append];omega
theorem zok {rows:List (List Xv)} (hB:zai bs) (hR:∀ps∈rows,zaf ps) (h:wk bs rows≠[]):txt bs rows≠"":=by
 intro e;have ok:=zkF hB hR;unfold txt at e;rw[<-zcn] at e;cases hw:wk bs rows with
 |nil=>exact h hw
 |cons ws t=>
  rw[hw] at e ok;obtain⟨h1,_,h3⟩:=ok ws (rM ..);cases ws with
  |nil=>exact h1 rfl
  |cons w r=>
   have a:=zfJ (sep:="\n") (t:=Txt.join " " (w::r)) (r:=t.map (Txt.join " "));have b:=zfJ (sep:=" ") (t:=w) (r:=r);have c:=(h3 w (rM ..)).pos;rw[show Txt.join "\n" (Txt.join " " (w::r)::t.map (Txt.join " "))="" from e] at a;have a:(Txt.join " " (w::r)).length<=0:=a;omega
theorem zol {rows:List (List Xv)} {o:Nat} (hB:zai bs) (hR:∀ps∈rows,zaf ps) (hl:rows.length<=2000) (ho:S[o]? =some (.ins "Rows" [])):
  W (xU fu [.ref o,.str (txt bs rows)] S) λv S'=>v= .non/\∃l ms,xO S' o (wk bs rows) 0 l ms/\Kp (· =o) S S':=by
 have ok:=zkF hB hR;have fL:(wk bs rows).length=bs.length+rows.length:=by unfold wk;rw[rk,rh,rh]
 have hb:=hB.1;have dM:∀ws∈wk bs rows,ws≠[]:=λws h=>(ok ws h).1;by_cases h0:wk bs rows=[]
 .have e:txt bs rows="":=by
   unfold txt;rw[<-zcn,h0];rfl
  rw[e];refine (zfG ho).imp ?_;rintro _ S1 ⟨rfl,l,ms,h1,h2,k1⟩;exact⟨rfl,l,ms,⟨by rw[h0];exact h1,dM,h2⟩,k1⟩
 .refine (zgN (wss:=wk bs rows) h0 ⋯ ok (λws h=>by have:=(zkG (ok ws h).2).1;exact sD (sx this ∅)) (λws h=>(zkG (ok ws h).2).2) (by rw[zcn];rfl) (zgP hB hR hl).2 (zok hB hR h0) ho).imp ?_;rintro _ S1 ⟨rfl,l,ms,h1,h2,k1⟩;exact⟨rfl,l,ms,⟨h1,dM,h2⟩,k1⟩
theorem zkH {rows:List (List Xv)} {o l:Nat} {ms:List Nat} (d5:Big fu) (hB:zai bs) (hR:∀ps∈rows,zaf ps) (h:xO S o (wk bs rows) 0 l ms):
  W (ZR fu [.ref o] S) λv S'=>v= .tup (bs.map yK)/\xO S' o (wk bs rows) bs.length l ms/\Kp (· =o) S S':=by
 refine (zfF d5 hB (by unfold wk;rw[rk,rh];omega) ?_ ?_ h.ne h.lt h.rw).imp ?_
 .intro i b e;have hi:=(rg.1 e).1;unfold wk;rw[rB (by rw[rh];exact hi),rq,e];rfl
 .intro w r e;unfold wk at e;rw[rL (by rw[rh];omega),rh,tY,rq,rG] at e;obtain⟨ps,e1,e2⟩:=e;obtain⟨_,_,w',r',rfl,hw⟩:=hR ps (rV e1);have e2:w'::r'.map tx=w::r:=e2;rw[<-(sq e2).1];exact hw
 .rintro _ S1 ⟨rfl,h1,k1⟩;exact⟨rfl,⟨h1,h.ne,λm hm=>by have:=h.lt m hm;have:=k1.1;omega⟩,k1⟩
theorem zkI {ds:List Xv} {rows:List (List Xv)} {q o l:Nat} {ms:List Nat} (d5:Big fu) (hd:Pg (.b ds) rows q) (hq:q<=12) (hl:rows.length<=2000) (h:xO S o (wk bs rows) bs.length l ms):
  W (zB fu 60 [.ref o,.int 0] S) λv S'=>v= .tup ds/\xO S' o (wk bs rows) (wk bs rows).length l ms/\Kp (· =o) S S':=by
 have e:(wk bs rows).drop bs.length=rows.map wd++[]:=by
  unfold wk;rw[sT];have:=B9 (l₁:=bs.map zgQ) (l₂:=rows.map wd);rwa [rh] at this
 have fL:(wk bs rows).length=bs.length+rows.length:=by unfold wk;rw[rk,rh,rh]
 refine (zl3 d5 hd 60 0 S o _ _ l ms [] ⋯ ⋯ hl h e (λ_=>by omega) (λw r t z=>by cases z)).imp ?_;rw[fL];exact λ_ _ h=>h
theorem zom {ds:List Xv} {rows:List (List Xv)} {q q' c:Nat} {n:Int} (d5:Big fu) (hB:Vs 1000 bs) (h9:bs.length<=9) (hd:Pg (.b ds) rows q) (hq:q<=12) (hl:rows.length<=2000) (tr:Tr bs (.b ds) n q' true c) (jn:q'<=12) (hn:n<=100) (hc:c<=1000):
  W (zeg fu [.str (txt bs rows)] S) λv S'=>v= .tup [.tup (bs.map yK),.tup ds]/\Kn S S':=by
 walk_at "wr";unfold zef;ext;refine zlD ?_;ext;have k0:Kn S (S++[Ce.ins "Rows" []]):=Kn.refl.app;have o0:(S++[Ce.ins "Rows" []])[S.length]? =some (.ins "Rows" []):=zQ;refine (zol hB.bf hd.rowok hl o0).imp ?_;rintro _ S1 ⟨rfl,l,ms,h1,k1⟩;refine⟨rfl,?_⟩;ext;refine (zkH d5 hB.bf hd.rowok h1).imp ?_;rintro _ S2 ⟨rfl,h2,k2⟩;ext;refine (zkI d5 hd hq hl h2).imp ?_;rintro _ S3 ⟨rfl,h3,k3⟩;ext;refine zo ?_;ext;refine wc ?_;ext;refine⟨_,_,rfl,h3.rw.ob,rfl,?_⟩;ext;refine (h3.fw0 rfl).imp ?_;rintro _ _ ⟨rfl,rfl⟩;ext;show WO (zjq .non S3) _;refine WO.of rfl ?_;refine⟨_,rfl,nofun,λ_=>zq ?_⟩;have kp:Kp (· =S.length) S S3:=(Kp.of_kn k0).trans (k1.trans (k2.trans k3));have kn:Kn S S3:=⟨kp.1,λn c e _=>kp.2 n c e (λq=>by have:=(rg.1 e).1;omega)⟩;ext;refine zo (Zv (Zn ?_));ext;refine (zkl ⋯ hB.as (hB.bx h9) tr hc ⋯).imp ?_;rintro _ S4 ⟨rfl,k4⟩;rw[decide_eq_true jn,decide_eq_true hn];refine⟨_,rfl,nofun,λ_=>zq ?_⟩;ext;exact⟨rfl,kn.trans k4⟩
inductive ShX (n:Nat):List Xv->List D->Nat->Nat->Prop where
 |nil:ShX n [] [] 0 0
 |int {i:Int} {r:List Xv} {ds:List D} {w e:Nat}:i.natAbs<2^n->ShX n r ds w e->ShX n (.int i::r) (.int i::ds) (n+1+w) e
 |str {z:Str} {r:List Xv} {ds:List D} {w e:Nat}:z.length<=n->(z.cps.toList.all λc=>decide (c<16^8))=true->ShX n r ds w e->ShX n (.str z::r) (.str z::ds) (n+1+w) e
 |tup {l r:List Xv} {ds ds':List D} {w e w' e':Nat}:ShX n l ds w e->ShX n r ds' w' e'->ShX n (.tup l::r) (.tup ds::ds') (w+1+w') (max (e+1) e')
theorem ShX.sh {n:Nat} {xs:List Xv} {ds:List D} {w e:Nat} (h:ShX n xs ds w e):Sh n ds w e:=by
 induction h with
 |nil=>exact .nil
 |int h _ ih=>exact .int h ih
 |str h h2 _ ih=>exact .str h h2 ih
 |tup _ _ h1 h2=>exact .tup h1 h2
theorem ShX.told {n:Nat} {xs:List Xv} {ds:List D} {w e:Nat} (h:ShX n xs ds w e):∀k,e<=k->∀S,Yi (xY S k) xs=some ds:=by
 induction h with
 |nil=>intro k _ S;rfl
 | @int i r ds w e h _ ih=>
  intro k hk S;unfold Yi;rw[ih k hk S,show xY S k (.int i)=some (.int i) by cases k<;>rfl];rfl
 | @str z r ds w e h h2 _ ih=>
  intro k hk S;unfold Yi;rw[ih k hk S,show xY S k (.str z)=some (.str z) by cases k<;>rfl];rfl
 | @tup l r ds ds' w e w' e' _ _ dW dU=>
  intro k hk S;obtain⟨k,rfl⟩:∃m,k=m+1:=⟨k-1,⋯⟩;unfold Yi;rw[dU (k+1) ⋯ S,show xY S (k+1) (.tup l)=(Yi (xY S k) l).map .tup from rfl,dW k ⋯ S];rfl
def Sz (W E:Nat) (xs:List Xv):Prop:=∃ds w e,ShX 30 xs ds w e/\w<=W/\e<=E
theorem Sz.nil {E:Nat}:Sz 0 E []:=⟨_,_,_,.nil,rj _,rS _⟩
theorem Sz.mono {W E W' E':Nat} {l:List Xv} (h:Sz W E l) (h1:W<=W') (h2:E<=E'):Sz W' E' l:=by
 obtain⟨ds,w,e,h,a,b⟩:=h;exact⟨ds,w,e,h,⋯,⋯⟩
theorem Sz.int {W E:Nat} {i:Int} {r:List Xv} (h:i.natAbs<2^30) (h2:Sz W E r):Sz (31+W) E (.int i::r):=by
 obtain⟨ds,w,e,h3,a,b⟩:=h2;exact⟨_,_,_,.int h h3,⋯,b⟩
theorem Sz.str {W E:Nat} {z:Str} {r:List Xv} (h:z.length<=30) (h1:asc z) (h2:Sz W E r):Sz (31+W) E (.str z::r):=by
 obtain⟨ds,w,e,h3,a,b⟩:=h2;refine⟨_,_,_,.str h ?_ h3,⋯,b⟩;rw[sr];intro c hc;have h1:z.cps.all (· <128)=true:=h1;rw[Array.all_eq_true'] at h1;have:=h1 c (Array.mem_def.2 hc);have:c<128:=of_decide_eq_true this;exact decide_eq_true (Ar this ∅)
theorem Sz.tup {W E W':Nat} {l r:List Xv} (h:Sz W E l) (h2:Sz W' (E+1) r):Sz (W+1+W') (E+1) (.tup l::r):=by
 obtain⟨ds,w,e,h3,a,b⟩:=h;obtain⟨ds',w',e',kK,a',b'⟩:=h2;exact⟨_,_,_,.tup h3 kK,⋯,⋯⟩
theorem ShX.app {n:Nat} {xs ys:List Xv} {ds es:List D} {w e w' e':Nat} (h:ShX n xs ds w e) (g:ShX n ys es w' e'):∃e2,ShX n (xs++ys) (ds++es) (w+w') e2/\e2<=max e e':=by
 induction h with
 |nil=>exact⟨e',by rw[y9];exact g,⋯⟩
 |int h _ ih=>
  obtain⟨e2,ih,hb⟩:=ih;exact⟨_,by rw[uM];exact .int h ih,hb⟩
 |str h h2 _ ih=>
  obtain⟨e2,ih,hb⟩:=ih;exact⟨_,by rw[uM];exact .str h h2 ih,hb⟩
 |tup h1 _ _ ih=>
  obtain⟨e2,ih,hb⟩:=ih;exact⟨_,by rw[uM];exact .tup h1 ih,⋯⟩
theorem Sz.cons {W E W':Nat} {r:List Xv} (h:Sz W E [x]) (h2:Sz W' E r):Sz (W+W') E (x::r):=by
 obtain⟨ds,w,e,h3,a,b⟩:=h;obtain⟨ds',w',e',kK,a',b'⟩:=h2;obtain⟨e2,h4,h5⟩:=h3.app kK;exact⟨_,_,_,h4,⋯,⋯⟩
theorem Sz.all {W E:Nat}:∀{l:List Xv},(∀x∈l,Sz W E [x])->Sz (l.length*W) E l
 |[],_=>Sz.nil.mono (by simp) (rj _)
 |x::r,h=>by
  have:=(h x (rM ..)).cons (Sz.all λy hy=>h y (rF _ hy));refine this.mono ?_ (rj _);rw[rl,Nat.succ_mul];omega
theorem Sz.rep {W E:Nat} {l:List Xv} (h:Sz W E [.tup l]) (hE:E<=100) (hW:W<=500000):∃z:Str,∀S,UR [.tup l] S=some (.str z,S):=by
 obtain⟨ds,w,e,h,a,b⟩:=h;have hs:=h.sh;have ht:=h.told 100 ⋯;cases h with
 | @tup _ _ dd _ _ _ _ _ h1 h2=>
  cases h2;refine⟨(D.py (.tup dd)).shown,λS=> ?_⟩;have ht:=ht S;unfold Yi Yi at ht;unfold UR;dsimp only;cases q:xY S 100 (.tup l) with
  |none=>rw[q] at ht;cases ht
  |some d=>
   rw[q] at ht;cases ht;rw[rE,if_pos ⟨⟨_,.inl rfl⟩,30,_,_,hs,∅,∅,⋯,⋯⟩]
theorem SOp.sz {a:Xv} {W E:Nat} {r:List Xv} (h:SOp a) (h2:Sz W E r):Sz (31+W) E (a::r):=by
 rcases h with⟨z,rfl,h⟩|⟨v,rfl,h0,h1⟩
 .exact .str (by have:=h.2.1;omega) h.wd.asc h2
 .exact .int ⋯ h2
theorem zl6 {ws:List Int} (h:∀w∈ws,0<=w/\w<=999999999):Sz (ws.length*31) 0 (ws.map Xv.int):=by
 have:=Sz.all (W:=31) (E:=0) (l:=ws.map Xv.int) λx hx=>by
  obtain⟨v,hv,rfl⟩:=t9.1 hx;have:=h v hv;exact Sz.int ⋯ Sz.nil
 rwa [rh] at this
theorem Pl.sz {ps:List Xv} (h:Pl x ps):Sz 450 2 [x]:=by
 have lt:∀{z:Str} {W E:Nat} {r:List Xv},Vu z->Sz W E r->Sz (31+W) E (.str z::r):=λh h2=> .str (by have:=h.le;omega) h.asc h2;have sg:∀{s:Str},s∈TS\/s∈RS->Vu s:=by
  rintro s (h|h)
  .rcases zfD h with⟨z,e,h⟩|⟨v,e,_⟩
   .cases e;exact h
   .cases e
  .rcases zmG h with⟨z,e,h⟩|⟨v,e,_⟩
   .cases e;exact h
   .cases e
 cases h with
 |pass=>exact (Sz.tup (E:=1) (lt (vB ∅) .nil) .nil).mono ∅ ∅
 |gain ha=>exact (Sz.tup (E:=1) (lt (vB ∅) (ha.sz .nil)) .nil).mono ∅ ∅
 |look hs ha hb=>exact (Sz.tup (E:=1) (lt (vB ∅) (.tup (E:=0) (ha.sz (lt (sg (.inl hs)) (hb.sz .nil))) .nil)) .nil).mono ∅ ∅
 |set1 hn ha=>exact (Sz.tup (E:=1) (lt (vB ∅) (lt hn.wd (.tup (E:=0) (ha.sz .nil) .nil))) .nil).mono ∅ ∅
 |set3 hn hs ha hb=>exact (Sz.tup (E:=1) (lt (vB ∅) (lt hn.wd (.tup (E:=0) (ha.sz (lt (sg (.inr hs)) (hb.sz .nil))) .nil))) .nil).mono ∅ ∅
 | @draw n ws hn h9 h1 hw=>
  exact (Sz.tup (E:=1) (lt (vB ∅) (lt hn.wd (.tup (E:=0) (zl6 hw) .nil))) .nil).mono ⋯ ∅
theorem Vs.sz1 (hB:Vs 1000 bs):Sz 630 1 (bs.map yK):=by
 have:=Sz.all (W:=63) (E:=1) (l:=bs.map yK) λx hx=>by
  obtain⟨b,hb,rfl⟩:=t9.1 hx;obtain⟨s1,s9⟩:=hB.sz b hb;have w:=NmZ.wd (hB.nm b hb);exact Sz.tup (W:=62) (E:=0) (Sz.str (by have:=w.le;omega) w.asc (.int ⋯ .nil)) .nil
 rw[rh] at this;exact this.mono (by have:=hB.len;omega) (rj _)
theorem zaj {z:Str} {W E:Nat} {r:List Xv} (h:Vu z) (h2:Sz W E r):Sz (31+W) E (.str z::r):= .str (by have:=h.le;omega) h.asc h2
theorem zhS {a b:Xv} {s:Str} {W E:Nat} {r:List Xv} (hs:s∈TS) (ha:SOp a) (hb:SOp b) (h2:Sz W (E+1) r):Sz (94+W) (E+1) (.tup [a,.str s,b]::r):=by
 have sw:Vu s:=by
  rcases zfD hs with⟨z,e,h⟩|⟨v,e,_⟩
  .cases e;exact h
  .cases e
 exact (Sz.tup (E:=E) (ha.sz (zaj sw (hb.sz .nil))) h2).mono ⋯ (rj _)
theorem zhT {bw:Str} {E:Nat}:∀{us:List (List Xv)} {rss:List (List (List Xv))},us.length=rss.length->(∀(i:Nat) u r,us[i]? =some u->rss[i]? =some r->Sz (450*r.length) E u)->Sz (450*(xb bw rss).length+us.length) (E+1) (us.map Xv.tup)
 |[],rss,_,_=>Sz.nil.mono (rS _) (rj _)
 |[u],rss,hl,h=>by
  match rss,hl with
  |[r],_=>exact (Sz.tup (h 0 u r rfl rfl) .nil).mono (show 450*r.length+1+0<=450*r.length+1 by omega) (rj _)
 |u::v::t,rss,hl,h=>by
  match rss,hl with
  |r::s::rt,hl=>
   have ih:=zhT (bw:=bw) (E:=E) (us:=v::t) (rss:=s::rt) (by simpa using hl) λi u r a b=>h (i+1) u r (by simpa using a) (by simpa using b);refine (Sz.tup (h 0 u r rfl rfl) ih).mono ?_ (rj _);have e:(xb bw (r::s::rt)).length=r.length+((xb bw (s::rt)).length+1):=by
    show (r++w1 bw::xb bw (s::rt)).length=_;rw[rk,rl]
   rw[e];simp only[rl];omega
theorem zfK {E:Nat}:∀{ds:List Xv} {rss:List (List (List Xv))},ds.length=rss.length->(∀(i:Nat) x r,ds[i]? =some x->rss[i]? =some r->Sz (450*r.length) E [x])->Sz (450*rss.flatten.length) E ds
 |[],rss,_,_=>Sz.nil.mono (rS _) (rj _)
 |x::t,rss,hl,h=>by
  match rss,hl with
  |r::rt,hl=>
   have ih:=zfK (E:=E) (ds:=t) (rss:=rt) (by simpa using hl) λi u r a b=>h (i+1) u r (by simpa using a) (by simpa using b);refine ((h 0 x r rfl rfl).cons ih).mono ?_ (rj _);rw[ub,rk];omega
def SzP:Kd->List (List Xv)->Nat->Prop
 | .d x,rows,q=>Sz (450*rows.length) (3*q+2) [x]
 | .b ds,rows,q=>Sz (450*rows.length) (3*q+2) ds
 | .s _,_,_=>True
theorem Pg.sz {kd:Kd} {rows:List (List Xv)} {q:Nat} (h:Pg kd rows q):SzP kd rows q:=by
 induction h with
 |plain h=>exact h.sz.mono (show 450<=450*1 by decide) ⋯
 | @nest x us rss hd bw q h1 h2 _ ih=>
  have ih:∀(i:Nat) u r,us[i]? =some u->rss[i]? =some r->Sz (450*r.length) (3*q+2) u:=ih;have bl:=zhT (bw:=bw) h2 ih;show Sz (450*(hd::(xb bw rss++[w1 "end"])).length) (3*(q+1)+2) [x];rw[rl,rk,rC];cases h1 with
  | @cond a b s u v hs ha hb=>exact (Sz.tup (E:=3*q+3) (zaj (vB ∅) (zhS hs ha hb bl)) .nil).mono (by show _<=_;have:([u,v]:List (List Xv)).length=2:=rfl;omega) ⋯
  | @whil a b s u hs ha hb=>exact (Sz.tup (E:=3*q+3) (zaj (vB ∅) (zhS hs ha hb bl)) .nil).mono (by have:([u]:List (List Xv)).length=1:=rfl;omega) ⋯
  | @times k u h0 h9=>exact (Sz.tup (E:=3*q+3) (zaj (vB ∅) (Sz.int ⋯ bl)) .nil).mono (by have:([u]:List (List Xv)).length=1:=rfl;omega) ⋯
  |hand ha hb=>exact (Sz.tup (E:=3*q+4) (zaj (vB ∅) (Sz.tup (E:=3*q+3) bl .nil)) .nil).mono ⋯ ⋯
 |blk h1 _ ih=>exact zfK h1 ih
theorem zkJ {ds:List Xv} {rows:List (List Xv)} {q:Nat} (hB:Vs 1000 bs) (h:Pg (.b ds) rows q) (hq:q<=12) (hl:rows.length<=1000):∃z:Str,∀S,UR [.tup [.tup (bs.map yK),.tup ds]] S=some (.str z,S):=by
 have hs:Sz (450*rows.length) (3*q+2) ds:=h.sz;exact Sz.rep (W:=630+1+(450*1000+1+0)+1+0) (E:=40) (Sz.tup (E:=39) (Sz.tup (E:=38) (hB.sz1.mono (rj _) ∅) (Sz.tup (E:=38) (hs.mono ⋯ ⋯) .nil)) .nil) ∅ ∅
theorem zdy {ds:List Xv} {rows:List (List Xv)} {q:Nat} (hB:zai bs) (h:Pg (.b ds) rows q) (hq:q<=12) (hl:rows.length<=2000) (hx:x= .tup ds\/∃m,x= .ref m/\S[m]? =some (.lst ds)):
  W (wL fu [.tup (bs.map yK),x] S) λv S'=>∃n,v= .ref n/\S'[n]? =some (.lst ((bs.map Zl++rows.map wN).map Xv.str))/\S.length<=n/\Kn S S':=by
 have hb:=hB.1;walk_at "wr";unfold wK;ext;refine Xo (xs:=bs.map yK) (f:=λi=> .str (Zl (bs.getD i ("",0)))) (by rw[rh];exact yU ⋯) (UG (by ext;exact⟨rfl,Kn.refl⟩)) ?_ ?_
 .intro i w S2 hw k2;rw[rq,rG] at hw;obtain⟨b,e,rfl⟩:=hw;obtain⟨iz,s1,s9⟩:=hB.2 b (rV e);rw[rp,e];refine zl5 (b:=b) iz s1 s9 (λS=> ?_) (λS=> ?_) ⟨rfl,Kn.refl⟩
  .show W (eOp zM (za 0) (eC (.int 0)) [some (.tup [.str b.1,.int b.2])] S) _;ext;exact⟨rfl,rfl⟩
  .show W (eOp zM (za 0) (eC (.int 1)) [some (.tup [.str b.1,.int b.2])] S) _;ext;exact⟨rfl,rfl⟩
 intro S2 k2;rw[rh,zfH];have jH:(S2++[Ce.lst ((bs.map Zl).map Xv.str)])[S2.length]? =some (.lst ((bs.map Zl).map Xv.str)):=zQ;have k1:Kn S (S2++[Ce.lst ((bs.map Zl).map Xv.str)]):=k2.app;generalize S2++[Ce.lst ((bs.map Zl).map Xv.str)]=S3 at jH k1 ⊢;generalize S2.length=n1 at jH ⊢;ext;refine (zpF h 40 S3 x ⋯ hl (by rcases hx with rfl|⟨m,rfl,e⟩;exact .inl rfl;exact .inr ⟨m,rfl,k1.at e⟩)).imp ?_;rintro _ S4 ⟨n,rfl,hn,_,k4⟩;ext;refine zhP (zm (k4.at jH)) (zm hn) (sD (szM (by rw[xV,rh,rh];omega))) ?_;refine⟨_,rfl,?_,(k1.trans k4).1,(k1.trans k4).app⟩;show _=some (Ce.lst ((bs.map Zl++rows.map wN).map Xv.str));rw[zQ,rW,t8 (l:=rows)];rfl
theorem zl7 {ds:List Xv} {rows:List (List Xv)} {q:Nat} (hB:zai bs) (h:Pg (.b ds) rows q) (hq:q<=12) (hl:rows.length<=2000) (hx:x= .tup ds\/∃m,x= .ref m/\S[m]? =some (.lst ds)):
  W (wY fu [.tup (bs.map yK),x] S) λv S'=>v= .int ((txt bs rows).length:Int)/\Kn S S':=by
 walk_at "wr";unfold ZY;ext;refine zaF ?_;ext;refine⟨⟨_,rfl⟩,?_⟩;ext;refine (zdy hB h hq hl hx).imp ?_;rintro _ S1 ⟨n,rfl,hn,_,k1⟩;ext;refine zbh (yN hn) (ts:=bs.map Zl++rows.map wN) (Wz _) (zgO hB h.rowok hl) ?_;ext;exact zbk (zgP hB h.rowok hl).2 ⟨rfl,k1⟩
theorem op0 {v:Int} (h0:0<=v) (h1:v<=999999999):GOp bs (.int v):= .num h0 h1
theorem so0 {v:Int} (h0:0<=v) (h1:v<=999999999):SOp (.int v):= .inr ⟨v,rfl,h0,h1⟩
theorem zfL {a b:Int} {s:Str} {u w:Xv} (ha:0<=a/\a<=999999999) (hb:0<=b/\b<=999999999):Own bs (.tup [.str "if",.tup [.int a,.str s,.int b],u,w]) true:=by
 have:=Own.cond (bs:=bs) (s:=s) (u:=u) (w:=w) (op0 ha.1 ha.2 (bs:=bs)).1 (op0 hb.1 hb.2 (bs:=bs)).1;rw[(op0 ha.1 ha.2 (bs:=bs)).2,(op0 hb.1 hb.2 (bs:=bs)).2] at this;exact this
theorem zkK {a b:Int} {s:Str} {u:Xv} (ha:0<=a/\a<=999999999) (hb:0<=b/\b<=999999999):Own bs (.tup [.str "while",.tup [.int a,.str s,.int b],u]) true:=by
 have:=Own.whil (bs:=bs) (s:=s) (u:=u) (op0 ha.1 ha.2 (bs:=bs)).1 (op0 hb.1 hb.2 (bs:=bs)).1;rw[(op0 ha.1 ha.2 (bs:=bs)).2,(op0 hb.1 hb.2 (bs:=bs)).2] at this;exact this
theorem zeq {q:Nat}:GD bs (.tup [.str "pass"]) q 1:=⟨1,0,1,[[.str "pass"]],.pl ∅ ∅ ∅ ∅ .pass,rS _,rj _,.plain .pass,rj _⟩
theorem zl8 {q:Nat}:GB bs [.tup [.str "pass"]] q 2:=GB.nil.snoc zeq
theorem GD.b1 {q c:Nat} (h:GD bs x q c):GB bs [x] q (c+1):=(GB.nil.snoc h).mono (rj _) ⋯
theorem GD.b2 {q c:Nat} (h:GD bs x q c):GB bs [x,.tup [.str "pass"]] q (c+2):=((GB.nil.snoc h).snoc zeq).mono (rj _) ⋯
theorem GD.b3 {q c:Nat} (h:GD bs x q c):GB bs [.tup [.str "pass"],x] q (c+2):=((GB.nil.snoc zeq).snoc h).mono (rj _) ⋯
theorem ziI {q c m:Nat} {l:List Xv} (hs:Sc ns S) (ai:S[m]? =some (.lst l)) (h:GB bs l q c):W (Yv fu [.ref 0,.ref m] S) λv S'=>∃m' l',v= .ref m'/\S'[m']? =some (.lst l')/\GB bs l' (q+8) (c+32)/\Kn S S':=by
 walk_at "wr";unfold vq;refine zh (vw (zbP ?_));ext;refine (xi hs ∅ ∅ ∅).imp ?_;rintro _ _ ⟨rfl,d0,d1,rfl⟩;generalize wA ns 8 10253 8=dd at d0 d1;ext;obtain⟨cnt,mM⟩:∃n:Nat,(1:Int)+dd=n:=⟨(1+dd).toNat,⋯⟩;rw[mM];refine⟨⟨⋯,⋯⟩,_,rfl,?_⟩;refine wG (λi ρ S3=>∃(m':Nat) (l':List Xv) (a2 a3:Option Xv),ρ=[some (.ref 0),some (.ref m'),a2,a3]/\S3[m']? =some (.lst l')/\GB bs l' (q+i) (c+4*i)/\Kn S S3) (λ_ _ _ _ _=>rfl) ?_ ?_ ?_
 .rintro i w ρ S3 hw ⟨m',l',a2,a3,rfl,fi,hG,kn⟩;obtain⟨hi,rfl⟩:=Wt hw;rw[sH] at hi;rw[uA];have fin:∀{b:Int} {l2:List Xv},GB bs l2 (1+(q+i)) (c+4*i+4)->∃(m':Nat) (l':List Xv) (a2 a3:Option Xv),[some (Xv.ref 0),some (.ref S3.length),some (.int (i:Int)),some (.int b)]=[some (.ref 0),some (.ref m'),a2,a3]/\(S3++[Ce.lst l2])[m']? =some (.lst l')/\GB bs l' (q+(i+1)) (c+4*(i+1))/\Kn S (S3++[Ce.lst l2]):=by
   intro b l2 hz;refine⟨_,l2,_,_,rfl,zQ,?_,kn.app⟩;rw[show q+(i+1)=1+(q+i) by omega,show c+4*(i+1)=c+4*i+4 by omega];exact hz
  refine .of rfl ?_;dsimp only[sM];ext;refine (xi (hs.keep kn) ⟨⋯,⋯⟩ ∅ ∅).imp ?_;rintro _ _ ⟨rfl,w0,w1,rfl⟩;have ki:0<=(i:Int)/\(i:Int)<=999999999:=⟨⋯,⋯⟩;ext;refine zo ?_;ext;refine yd (λh0=> ?_) (λh0=>zo ?_)
  .ext;refine xg fi ?_;ext;exact fin (((hG.s1.snoc zl8).deed .cond (zfL ki ∅) (.cond ∅ (so0 ki.1 ki.2) (so0 ∅ ∅))).b1.mono ⋯ ⋯)
  ext;refine yd (λh0=> ?_) (λh0=>zo ?_)
  .ext;refine xg fi ?_;ext;exact fin ((((GB.nil (bs:=bs)).s1.snoc hG).deed .cond (zfL ∅ ki) (.cond ∅ (so0 ∅ ∅) (so0 ki.1 ki.2))).b2.mono ⋯ ⋯)
  ext;refine yd (λh0=> ?_) (λh0=>zo ?_)
  .ext;refine xg fi ?_;ext;exact fin ((hG.s1.deed .whil (zkK ki ∅) (.whil ∅ (so0 ki.1 ki.2) (so0 ∅ ∅))).b3.mono ⋯ ⋯)
  ext;refine yd (λh0=> ?_) (λh0=> ?_)
  .ext;refine WK ∅ ?_;ext;refine xg fi ?_;ext;have m0:=sV (i:Int) (show (2:Int)≠0 by decide);have m1:=sW (i:Int) (show (0:Int)<2 by decide);have ow:=Own.times (bs:=bs) (k:=(i:Int) % 2) (u:= .tup l');rw[decide_eq_true ⟨m0,⋯⟩] at ow;exact fin ((hG.s1.deed .times ow (.times m0 ⋯)).b1.mono ⋯ ⋯)
  .ext;refine xg fi ?_;ext;exact fin (((((GB.nil (bs:=bs)).s1.snoc hG).snoc GB.nil).deed (.hand (us:=[[],l',[]])) (by have:=Own.hand (bs:=bs) (us:=[.tup [],.tup l',.tup []]) (show 3<=100 by decide);exact this) (.hand (us:=[[],l',[]]) (by show 2<=3;decide) (by show 3<=10;decide))).b1.mono ⋯ ⋯)
 .exact⟨m,l,none,none,rfl,ai,h,Kn.refl⟩
 .rintro ρ S3 ⟨m',l',a2,a3,rfl,fi,hG,kn⟩;rw[Zw,sH] at hG;ext;exact⟨m',l',rfl,fi,hG.mono ⋯ ⋯,kn⟩
theorem zkL {r:List Xv}:L2.WJ (r++[x]) none (some (-1))=r:=by
 unfold L2.WJ;rw[HT.zeC];have:HT.sIx (r++[x]).length (r++[x]).length (some (-1))=r.length:=by
  show (if (-1:Int)<0 then ((-1:Int)+((r++[x]).length:Int)).toNat else min (-1:Int).toNat (r++[x]).length)=_;rw[if_pos ∅,rk];simp only[rl,A4];omega
 rw[this];simp
theorem Tr.split {l2:List Xv}:∀{l1:List Xv} {n:Int} {q c:Nat} {g:Bool},Tr bs (.b (l1++l2)) n q g c->∃(n1 n2:Int) (q1 q2:Nat) (g1 g2:Bool) (c1 c2:Nat),Tr bs (.b l1) n1 q1 g1 c1/\Tr bs (.b l2) n2 q2 g2 c2/\n=n1+n2/\q=max q1 q2/\g=(g1&&g2)/\c+1=c1+c2
 |[],n,q,c,g,h=>⟨0,n,0,q,true,g,1,c,.nil,h,⋯,⋯,rfl,⋯⟩
 |x::r,n,q,c,g,h=>by
  rw[sR] at h;cases h with
  |cons t1 t2=>
   obtain⟨n1,n2,q1,q2,g1,g2,c1,c2,h1,h2,rfl,rfl,rfl,hc⟩:=Tr.split t2;exact⟨_,n2,_,q2,_,g2,_,c2,.cons t1 h1,h2,⋯,⋯,by rw[Aj],⋯⟩
theorem GB.init {r:List Xv} {q c:Nat} (h:GB bs (r++[x]) q c):GB bs r q c:=by
 obtain⟨n,q1,c1,rows,tr,a1,b1,p,d⟩:=h;obtain⟨n1,n2,q1,q2,g1,g2,c1,c2,h1,h2,rfl,rfl,hg,mO⟩:=tr.split;obtain⟨rfl,rfl⟩:=zaP hg;have gb:1+1<=c2:=h2.cnt;cases p with
 | @blk _ rss _ hl p=>
  rw[rk,rC] at hl;refine⟨n1,q1,c1,(rss.take r.length).flatten,h1,⋯,⋯,.blk (by rw[sL];omega) λi y s e1 e2=> ?_,?_⟩
  .have hi:=(rg.1 e1).1;rw[y8 hi] at e2;exact p i y s (by rw[rB hi];exact e1) e2
  .have:(rss.take r.length).flatten.length<=rss.flatten.length:=by
    conv=>rhs;rw[<-uh r.length rss,t6,rk]
    omega
   omega
theorem zfM {m:Nat} {l:List Xv} {N:Rho->Sto->Prop} {R:Xv->Sto->Prop} {r0 r1:Option Xv} {rr:Rho} (ai:S[m]? =some (.lst (l++[x]))) (k:N (r0::r1::some (.ref S.length)::rr) (S++[.lst l])):WS (zF (eSl Wo (za 2) oNo (Yf (eUn zbK (eC (.int 1))))) (gN 2) (r0::r1::some (.ref m)::rr) S) N R:=by
 ext;refine zaA (zm ai) ?_;rw[show (-(1:Int))= -1 from rfl,zkL];exact k
theorem zpZ {T0:Sto} {R:Xv->Sto->Prop} (d5:Big fu) (hB:Vs 1000 bs) (h9:bs.length<=9):∀(k m:Nat) (l:List Xv) (S:Sto),l.length<k->GB bs l 4 760->S[m]? =some (.lst l)->Kn T0 S->
  WS (Vr (bOr (bE (eOp dGt (ze (xr fu) [(za 2)]) (eC (.int 80)))) (bE (eOp dGt (ze (wY fu) [(za 1),(za 2)]) (eC (.int 3000))))) (zF (eSl Wo (za 2) oNo (Yf (eUn zbK (eC (.int 1))))) (gN 2)) k [some (.ref 0),some (.tup (bs.map yK)),some (.ref m),none,none,none,none] S)
   (λρ S'=>∃(m:Nat) (l:List Xv),ρ=[some (.ref 0),some (.tup (bs.map yK)),some (.ref m),none,none,none,none]/\GB bs l 4 760/\S'[m]? =some (.lst l)/\Kn T0 S') R:=by
 intro k
 induction k with
 |zero=>intro m l S h;omega
 |succ k ih=>
  intro m l S hk hG ai kn;have lC:=hG;obtain⟨n,q,c,rows,tr,hq,hc,hp,hr⟩:=hG;have go:∀{S1:Sto},Kn S S1->l≠[]->WS (zF (eSl Wo (za 2) oNo (Yf (eUn zbK (eC (.int 1))))) (gN 2) [some (.ref 0),some (.tup (bs.map yK)),some (.ref m),none,none,none,none] S1) (λρ S2=>WS (Vr (bOr (bE (eOp dGt (ze (xr fu) [(za 2)]) (eC (.int 80)))) (bE (eOp dGt (ze (wY fu) [(za 1),(za 2)]) (eC (.int 3000))))) (zF (eSl Wo (za 2) oNo (Yf (eUn zbK (eC (.int 1))))) (gN 2)) k ρ S2) (λρ S'=>∃(m:Nat) (l:List Xv),ρ=[some (.ref 0),some (.tup (bs.map yK)),some (.ref m),none,none,none,none]/\GB bs l 4 760/\S'[m]? =some (.lst l)/\Kn T0 S') R) R:=by
   intro S1 k1 dM;obtain⟨r,z,rfl⟩:∃r p,l=r++[p]:=⟨l.dropLast,l.getLast dM,(ug dM).symm⟩;rw[rk,rC] at hk;exact zfM (k1.at ai) (ih _ r _ ⋯ lC.init zQ (kn.trans k1.app))
  refine Xx (xX ?_);ext;refine (zkp d5 tr ⋯ ⋯ (.inr ⟨m,rfl,ai⟩)).imp ?_;rintro _ S1 ⟨rfl,k1⟩;ext;refine yd (λh=>⟨λ_=>go k1 ?_,nofun⟩) (λh=> ?_)
  .rintro rfl;generalize hg:(true:Bool)=gg at tr;cases tr;omega
  ext;refine (zl7 hB.bf hp ⋯ ⋯ (.inr ⟨m,rfl,k1.at ai⟩)).imp ?_;rintro _ S2 ⟨rfl,k2⟩;ext;refine yd (λh=>go (k1.trans k2) ?_) (λh=>⟨m,l,rfl,lC,k2.at (k1.at ai),kn.trans (k1.trans k2)⟩);rintro rfl;have e0:rows=[]:=by
   cases hp with
   | @blk _ rss _ h1 _=>
    have:rss=[]:=sX.1 h1.symm;rw[this];rfl
  have:=(zgP (rows:=rows) hB.bf hp.rowok ⋯).1;rw[e0] at this h;have:(txt bs []).length<=(bs.length+0)*121:=this;omega
theorem zp0 {T0:Sto} {R:Xv->Sto->Prop} {r1:Option Xv} (d5:Big fu):∀(k m:Nat) (l:List Xv) (S:Sto),l.length<k->GB bs l 12 792->S[m]? =some (.lst l)->Kn T0 S->
  WS (Vr (bE (eOp dGt (ze (xr fu) [(za 2)]) (eC (.int 100)))) (zF (eSl Wo (za 2) oNo (Yf (eUn zbK (eC (.int 1))))) (gN 2)) k [some (.ref 0),r1,some (.ref m),none,none,none,none] S)
   (λρ S'=>∃(m:Nat) (l:List Xv) (n:Int) (q c:Nat) (rows:List (List Xv)),ρ=[some (.ref 0),r1,some (.ref m),none,none,none,none]/\Tr bs (.b l) n q true c/\q<=12/\c<=792/\Pg (.b l) rows 12/\rows.length<=792/\n<=100/\S'[m]? =some (.lst l)/\Kn T0 S') R:=by
 intro k
 induction k with
 |zero=>intro m l S h;omega
 |succ k ih=>
  intro m l S hk hG ai kn;have lC:=hG;obtain⟨n,q,c,rows,tr,hq,hc,hp,hr⟩:=hG;refine Xx ?_;ext;refine (zkp d5 tr ⋯ ⋯ (.inr ⟨m,rfl,ai⟩)).imp ?_;rintro _ S1 ⟨rfl,k1⟩;ext;refine yd (λh=> ?_) (λh=>⟨m,l,n,q,c,rows,rfl,tr,hq,hc,hp,⋯,⋯,k1.at ai,kn.trans k1⟩);have dM:l≠[]:=by
   rintro rfl;generalize hg:(true:Bool)=gg at tr;cases tr;omega
  obtain⟨r,z,rfl⟩:∃r p,l=r++[p]:=⟨l.dropLast,l.getLast dM,(ug dM).symm⟩;rw[rk,rC] at hk;exact zfM (k1.at ai) (ih _ r _ ⋯ lC.init zQ (kn.trans k1.app))
theorem zpJ (d5:Big fu) (hl:ns.length<=63):W (zgx fu [.ref 0] [.frz (ns.map Xv.int)]) λv _=>v= .bl true:=by
 have hs:Sc ns [Ce.frz (ns.map Xv.int)]:=rfl;generalize [Ce.frz (ns.map Xv.int)]=S at hs ⊢;walk_at "wr";unfold zek;ext;refine (xi hs ∅ ∅ ∅).imp ?_;rintro _ _ ⟨rfl,c0,c1,rfl⟩;ext;refine (zlQ hs ⟨⋯,⋯⟩ ∅).imp ?_;rintro _ S1 ⟨bs,rfl,hB,jA,k1⟩;have h9:bs.length<=9:=by omega
 clear jA c0 c1;have jk:=hs.keep k1;ext;refine xw jk ?_;ext;rw[rh,show (if (ns.length:Int)<63 then (ns.length:Int) else 63)=(ns.length:Int) by split<;>omega];refine (zpI d5 hl hB jk).imp ?_;rintro _ S2 ⟨l,rfl,ai,hG,ju,k2⟩;ext;refine xm _ (zaW (zpZ (T0:=S2) d5 hB h9 fu _ l S2 (by have:=d5.le;omega) hG ai Kn.refl)) ?_;rintro ρ S3 ⟨m,l,rfl,hG,ai,k3⟩;have ig:=(jk.keep k2).keep k3;refine zh (xm (λρ S4=>∃(m:Nat) (l:List Xv),ρ=[some (.ref 0),some (.tup (bs.map yK)),some (.ref m),none,none,none,none]/\GB bs l 12 792/\S4[m]? =some (.lst l)/\Kn S3 S4) (zo ?_) ?_)
 .ext;refine (xi ig ∅ ∅ ∅).imp ?_;rintro _ _ ⟨rfl,_,_,rfl⟩;ext;refine yd (λh=> ?_) (λh=>zq ⟨m,l,rfl,hG.mono ∅ ∅,ai,Kn.refl⟩);ext;refine (ziI ig ai hG).imp ?_;rintro _ S4 ⟨m',l',rfl,fi,qh,k4⟩;ext;exact⟨m',l',rfl,qh,fi,k4⟩
 clear hG ai ju;rintro ρ S4 ⟨m,l,rfl,hG,ai,k4⟩;ext;have ju:l.length<=792:=by
  obtain⟨n,q,c,rows,tr,_,hc,_⟩:=hG;have:l.length+1<=c:=tr.cnt;omega
 refine xm _ (zaW (zp0 (T0:=S4) d5 fu _ l S4 (by have:=d5.le;omega) hG ai Kn.refl)) ?_;clear hG ai ju;rintro ρ S5 ⟨m,l,n,q,c,rows,rfl,tr,hq,hc,hp,hr,hn,ai,k5⟩;ext;refine xg ai ?_;ext;refine zaF ?_;ext;refine⟨⟨_,rfl⟩,?_⟩;ext;refine (zdy hB.bf hp ∅ ⋯ (.inr ⟨m,rfl,ai⟩)).imp ?_;rintro _ S6 ⟨n6,rfl,pC,_,k6⟩;ext;refine zbh (yN pC) (ts:=bs.map Zl++rows.map wN) (Wz _) (zgO hB.bf hp.rowok ⋯) ?_;ext;refine (zhR hB h9 hp ∅ ⋯).imp ?_;rintro _ S8 ⟨rfl,k8⟩;ext;refine zo (xX (Zv (Zn ?_)));ext;refine zbR (v:=true) rfl ?_;refine⟨_,rfl,nofun,λ_=> ?_⟩;ext;refine WO.of (show yk true (.str (txt bs rows)) (.str (txt bs rows)) S8=some (.bl false,S8) by unfold yk;simp) ?_;refine⟨_,rfl,nofun,λ_=>zq ?_⟩;ext;refine (zom d5 hB h9 hp ∅ ⋯ tr hq hn ⋯).imp ?_;rintro _ S9 ⟨rfl,k9⟩;obtain⟨z,hz⟩:=zkJ hB hp ∅ ⋯;ext;refine Tp ?_;ext;refine WO.of (hz S9) ?_;ext;refine WO.of (hz S9) ?_;refine zS ⟨_,rfl,λ_=> ?_,nofun⟩;ext;refine (zhR hB h9 hp ∅ ⋯).imp ?_;rintro _ S10 ⟨rfl,qB⟩;ext;exact zS rfl
theorem zpK (d5:Big fu) (ns:List Int) (hl:ns.length<=63):∃S,zgx fu [.ref 0] [.frz (ns.map Xv.int)]=some (.ok (.bl true) S):=by
 obtain⟨v,S,e,rfl⟩:=zpJ d5 hl;exact⟨S,e⟩
end
end
noncomputable def zer:Nat:=2^9000
theorem zfN:Big zer:=by unfold Big zer;exact rj _
theorem zon {P:Program} {w:World} {K:r6} {mg:Str->Option Value} {base:Heap} (T:Tx K mg):zZ P w K mg base (CXE P w) 69 T.eN.a T.eN.fd ["_law_script"] (zbJ K):=znr (zlP (fu:=zer) T) λns hl=>zpK zfN ns hl
noncomputable def zpL {K:r6} {h:Heap} {mg:Str->Option Value} (X:K.In h) (G:h.Ns mainGlobals mg)
  {bQ:Addr}  {aE:Addr} {bg:Addr} {aD:Addr} {gj:Tok} {eR:Tok} {gk:Tok} {eS:Tok} {bM:Addr} {dR:Option Addr} {dP:Nat} {dO:Array (Option Value)} {df:Tok} {de:Tok} {dc:Tok} {cW:Addr} {fA:Option Addr} {fw:Nat} {fv:Array (Option Value)} {eQ:Tok} {eP:Tok} {eO:Tok} {cK:Addr} {fc:Option Addr} {f9:Nat} {f7:Array (Option Value)} {eF:Tok} {eE:Tok} {eD:Tok} {en:Tok} {ft:Tok} {fK:Tok} {eW:Tok} {eX:Tok} {fq:Tok} {eh:Tok} {eZ:Tok} {eV:Tok} {eY:Tok}
  (bA:rD K mainGlobals "Rows"=some (some (.ref bQ)))
  (H0:FL K "is_whole" US)
  (H1:FL K "is_made_of" YB)
  (H2:FL K "is_name" zaG)
  (H3:FL K "is_number" VI)
  (H4:FL K "blocks_of" VJ)
  (H5:FL K "length_of" Xy)
  (H6:FL K "deed_length" ZF)
  (H7:FL K "deeds_within" Xb)
  (H8:FL K "is_program" YC)
  (H9:FL K "is_from_to" WM)
  (H10:FL K "boxes_fit" Yl)
  (H11:FL K "deed_fits" Xz)
  (H12:FL K "weights_fit" ZG)
  (H13:FL K "operands_of" XS)
  (H14:FL K "operand_fits" Xc)
  (H15:FL K "depth_of" WN)
  (H16:FL K "deed_depth" YD)
  (H17:FL K "shown" zbj)
  (H18:FL K "block_rows" WP)
  (H19:FL K "deed_rows" XA)
  (H20:FL K "first_words" XT)
  (H21:ML K bQ "__init__" "Rows.__init__" ve)
  (H22:ML K bQ "first_word" "Rows.first_word" vJ)
  (H23:ML K bQ "taken" "Rows.taken" WQ)
  (H24:ML K bQ "take_alone" "Rows.take_alone" vK)
  (H25:FL K "read" zgv)
  (H26:FL K "boxes_from" WR)
  (H27:FL K "block_from" WT)
  (H28:FL K "deed_from" VL)
  (H29:FL K "plain_deed" YE)
  (H30:FL K "closed_block" Xd)
  (H31:FL K "if_from" zaH)
  (H32:FL K "hand_blocks" XU)
  (H33:FL K "reckoning_from" Zy)
  (H34:FL K "test_from" VM)
  (H35:FL K "signed_from" XV)
  (H36:FL K "turns_from" WU)
  (H37:FL K "operand_from" Xe)
  (H38:FL K "number_from" XW)
  (H39:FL K "name_from" VN)
  (H40:FL K "_law_draw" VO)
  (H41:FL K "_law_name" VP)
  (H42:FL K "_law_boxes" WV)
  (H43:FL K "_law_operand" Xf)
  (H44:FL K "_law_test" VQ)
  (H45:FL K "_law_reckoning" Zz)
  (H46:FL K "_law_weights" vL)
  (H47:FL K "_law_plain" WW)
  (H48:FL K "_law_deed" VR)
  (H49:FL K "_law_hand" VS)
  (H50:FL K "_law_block" WX)
  (H51:FL K "_law_top" UT)
  (H52:FL K "_law_inner" WY)
  (H53:FL K "_law_length" XX)
  (H54:FL K "_law_words" YF)
  (H55:FL K "_law_rows" VT)
  (H56:FL K "_law_nested_rows" vy)
  (H57:FL K "_law_all_rows" vf)
  (H58:FL K "_law_signs" WZ)
  (H59:FL K "_law_wrapped" Xg)
  (H60:FL K "law" zkf)
  (fT:ui K bQ Str.empty=true) (fS:uG K bQ=true) (fR:y0 K bQ=true) (fQ:rK K (.ref bQ) "__setattr__"=some (some (.builtin "object.__setattr__"))) (gp:z7 K bQ=true) (gm:tK K (.ref bQ)=true)
  (aK:rK K (.ref bQ) "rows"=some none)
  (aB:rK K (.ref bQ) "place"=some none)
  (ib:rD K mainGlobals "all"=some none)
  (gx:rD K mainGlobals "bool"=some none)
  (gw:rD K mainGlobals "dict"=some none)
  (dD:rD K mainGlobals "enumerate"=some none)
  (ia:rD K mainGlobals "int"=some none)
  (d3:rD K mainGlobals "isinstance"=some none)
  (i9:rD K mainGlobals "len"=some none)
  (gv:rD K mainGlobals "list"=some none)
  (i7:rD K mainGlobals "max"=some none)
  (i6:rD K mainGlobals "min"=some none)
  (fV:rD K mainGlobals "range"=some none)
  (gu:rD K mainGlobals "repr"=some none)
  (i5:rD K mainGlobals "set"=some none)
  (i3:rD K mainGlobals "str"=some none)
  (hZ:rD K mainGlobals "sum"=some none)
  (fU:rD K mainGlobals "tuple"=some none)
  (jQ:uH K (.builtin "object.__class__") "__get__"=some (some (.builtin "getset_descriptor.__get__"))) (jO:z8 K (.builtin "object.__class__")=some true)
  (aA:rD K mainGlobals "LotsError"=some (some (.ref aE))) (cb:w9 K aE [.type "ValueError",.type "Exception",.type "BaseException",.type "object"] "ValueError.__new__"=true) (dm:rK K (.ref aE) "__getattribute__"=some (some (.builtin "BaseException.__getattribute__"))) (di:rK K (.ref aE) "__getattr__"=some none) (dB:A6 K aE=true) (dz:rK K (.ref aE) "__class__"=some (some (.builtin "object.__class__"))) (du:sk K aE (.type "object")=some true) (ck:tW K (.ref aE)=some (.type "type")) (bK:sk K aE (.type "BaseException")=some true) (cg:sk K aE (.type "ValueError")=some true)
  (b7:rD K mainGlobals "NoText"=some (some (.ref bg))) (d6:w9 K bg [.type "ValueError",.type "Exception",.type "BaseException",.type "object"] "ValueError.__new__"=true) (fg:rK K (.ref bg) "__getattribute__"=some (some (.builtin "BaseException.__getattribute__"))) (fe:rK K (.ref bg) "__getattr__"=some none) (fm:A6 K bg=true) (fj:rK K (.ref bg) "__class__"=some (some (.builtin "object.__class__"))) (fh:sk K bg (.type "object")=some true) (d8:tW K (.ref bg)=some (.type "type")) (cV:sk K bg (.type "BaseException")=some true) (d7:sk K bg (.type "ValueError")=some true)
  (ay:rD K mainGlobals "NoProgram"=some (some (.ref aD))) (c9:w9 K aD [.type "ValueError",.type "Exception",.type "BaseException",.type "object"] "ValueError.__new__"=true) (dj:rK K (.ref aD) "__getattribute__"=some (some (.builtin "BaseException.__getattribute__"))) (dh:rK K (.ref aD) "__getattr__"=some none) (dA:A6 K aD=true) (dy:rK K (.ref aD) "__class__"=some (some (.builtin "object.__class__"))) (dq:sk K aD (.type "object")=some true) (cj:tW K (.ref aD)=some (.type "type")) (bJ:sk K aD (.type "BaseException")=some true) (cf:sk K aD (.type "ValueError")=some true)
  (eG:rD K mainGlobals "LETTERS"=some (some (.str "abcdefghijklmnopqrstuvwxyz" gj)))
  (cE:rD K mainGlobals "MOST_LETTERS"=some (some (.int 8 eR)))
  (eH:rD K mainGlobals "FIGURES"=some (some (.str "0123456789" gk)))
  (cF:rD K mainGlobals "MOST_FIGURES"=some (some (.int 9 eS)))
  (ak:rD K mainGlobals "RECKONING_SIGNS"=some (some (.ref bM)))
  (bO:K.lookup bM=some ⟨.type "tuple",dR,.seq #[.str "+" df,.str "-" de,.str "*" dc] dP,dO⟩)
  (aT:rD K mainGlobals "TEST_SIGNS"=some (some (.ref cW)))
  (cX:K.lookup cW=some ⟨.type "tuple",fA,.seq #[.str "=" eQ,.str "<" eP,.str "#" eO] fw,fv⟩)
  (ax:rD K mainGlobals "BLOCK_KINDS"=some (some (.ref cK)))
  (cN:K.lookup cK=some ⟨.type "tuple",fc,.seq #[.str "if" eF,.str "while" eE,.str "times" eD,.str "hand" en] f9,f7⟩)
  (cZ:rD K mainGlobals "MOST_BOXES"=some (some (.int 9 ft)))
  (dC:rD K mainGlobals "MOST_SIZE"=some (some (.int 9 fK)))
  (cP:rD K mainGlobals "MOST_STATES"=some (some (.int 1000 eW)))
  (cQ:rD K mainGlobals "MOST_NUMBER"=some (some (.int 999999999 eX)))
  (cY:rD K mainGlobals "MOST_TURNS"=some (some (.int 60 fq)))
  (cz:rD K mainGlobals "FEWEST_BLOCKS"=some (some (.int 2 eh)))
  (cS:rD K mainGlobals "MOST_BLOCKS"=some (some (.int 8 eZ)))
  (cO:rD K mainGlobals "MOST_WITHIN"=some (some (.int 12 eV)))
  (cR:rD K mainGlobals "MOST_LENGTH"=some (some (.int 100 eY))):Tx K mg:={cC:=H0.to X G (λ_ _ _ _ _ _=>at_ λ_=>at0 rfl),bz:=H1.to X G (λ_ _ _ _ _ _=>at_ λ_=>at_ λ_=>at0 rfl),cA:=H2.to X G (λ_ _ _ _ _ _=>at_ λ_=>at0 rfl),bI:=H3.to X G (λ_ _ _ _ _ _=>at_ λ_=>at0 rfl),aZ:=H4.to X G (λ_ _ _ _ _ _=>at_ λ_=>at0 rfl),aY:=H5.to X G (λ_ _ _ _ _ _=>at_ λ_=>at0 rfl),bH:=H6.to X G (λ_ _ _ _ _ _=>at_ λ_=>at0 rfl),aG:=H7.to X G (λ_ _ _ _ _ _=>at_ λ_=>at0 rfl),bT:=H8.to X G (λ_ _ _ _ _ _=>at_ λ_=>at0 rfl),aQ:=H9.to X G (λ_ _ _ _ _ _=>at_ λ_=>at_ λ_=>at_ λ_=>at0 rfl),cw:=H10.to X G (λ_ _ _ _ _ _=>at_ λ_=>at0 rfl),cu:=H11.to X G (λ_ _ _ _ _ _=>at_ λ_=>at_ λ_=>at0 rfl),bC:=H12.to X G (λ_ _ _ _ _ _=>at_ λ_=>at_ λ_=>at0 rfl),bD:=H13.to X G (λ_ _ _ _ _ _=>at_ λ_=>at0 rfl),bj:=H14.to X G (λ_ _ _ _ _ _=>at_ λ_=>at_ λ_=>at0 rfl),bo:=H15.to X G (λ_ _ _ _ _ _=>at_ λ_=>at0 rfl),bU:=H16.to X G (λ_ _ _ _ _ _=>at_ λ_=>at0 rfl),dF:=H17.to X G (λ_ _ _ _ _ _=>at_ λ_=>at0 rfl),aR:=H18.to X G (λ_ _ _ _ _ _=>at_ λ_=>at0 rfl),cn:=H19.to X G (λ_ _ _ _ _ _=>at_ λ_=>at0 rfl),bG:=H20.to X G (λ_ _ _ _ _ _=>at_ λ_=>at0 rfl),aP:=H21.to (λ_ _ _ _ _ _=>at_ λ_=>at_ λ_=>at0 rfl),gC:=⟨gp,(H21.to (ps:=["self","text"]) (λ_ _ _ _ _ _=>at_ λ_=>at_ λ_=>at0 rfl)).mt.at_,(H21.to (ps:=["self","text"]) (λ_ _ _ _ _ _=>at_ λ_=>at_ λ_=>at0 rfl)).mt.fn,gm⟩,ah:=H22.to (λ_ _ _ _ _ _=>at_ λ_=>at0 rfl),aC:=H23.to (λ_ _ _ _ _ _=>at_ λ_=>at0 rfl),ag:=H24.to (λ_ _ _ _ _ _=>at_ λ_=>at_ λ_=>at0 rfl),fk:=H25.to X G (λ_ _ _ _ _ _=>at_ λ_=>at0 rfl),bV:=H26.to X G (λ_ _ _ _ _ _=>at_ λ_=>at0 rfl),au:=H27.to X G (λ_ _ _ _ _ _=>at_ λ_=>at_ λ_=>at0 rfl),cq:=H28.to X G (λ_ _ _ _ _ _=>at_ λ_=>at_ λ_=>at0 rfl),bS:=H29.to X G (λ_ _ _ _ _ _=>at_ λ_=>at_ λ_=>at0 rfl),aM:=H30.to X G (λ_ _ _ _ _ _=>at_ λ_=>at_ λ_=>at0 rfl),cU:=H31.to X G (λ_ _ _ _ _ _=>at_ λ_=>at_ λ_=>at_ λ_=>at0 rfl),bF:=H32.to X G (λ_ _ _ _ _ _=>at_ λ_=>at_ λ_=>at0 rfl),aV:=H33.to X G (λ_ _ _ _ _ _=>at_ λ_=>at0 rfl),bh:=H34.to X G (λ_ _ _ _ _ _=>at_ λ_=>at0 rfl),b8:=H35.to X G (λ_ _ _ _ _ _=>at_ λ_=>at_ λ_=>at0 rfl),bR:=H36.to X G (λ_ _ _ _ _ _=>at_ λ_=>at0 rfl),aF:=H37.to X G (λ_ _ _ _ _ _=>at_ λ_=>at0 rfl),aU:=H38.to X G (λ_ _ _ _ _ _=>at_ λ_=>at0 rfl),aX:=H39.to X G (λ_ _ _ _ _ _=>at_ λ_=>at0 rfl),ae:=H40.to X G (λ_ _ _ _ _ _=>at_ λ_=>at_ λ_=>at_ λ_=>at_ λ_=>at0 rfl),cx:=H41.to X G (λ_ _ _ _ _ _=>at_ λ_=>at_ λ_=>at_ λ_=>at0 rfl),bZ:=H42.to X G (λ_ _ _ _ _ _=>at_ λ_=>at_ λ_=>at_ λ_=>at0 rfl),ao:=H43.to X G (λ_ _ _ _ _ _=>at_ λ_=>at_ λ_=>at_ λ_=>at0 rfl),bu:=H44.to X G (λ_ _ _ _ _ _=>at_ λ_=>at_ λ_=>at_ λ_=>at0 rfl),aW:=H45.to X G (λ_ _ _ _ _ _=>at_ λ_=>at_ λ_=>at_ λ_=>at0 rfl),bq:=H46.to X G (λ_ _ _ _ _ _=>at_ λ_=>at_ λ_=>at_ λ_=>at0 rfl),bX:=H47.to X G (λ_ _ _ _ _ _=>at_ λ_=>at_ λ_=>at_ λ_=>at0 rfl),b4:=H48.to X G (λ_ _ _ _ _ _=>at_ λ_=>at_ λ_=>at_ λ_=>at_ λ_=>at_ λ_=>at0 rfl),cy:=H49.to X G (λ_ _ _ _ _ _=>at_ λ_=>at_ λ_=>at_ λ_=>at_ λ_=>at_ λ_=>at0 rfl),b6:=H50.to X G (λ_ _ _ _ _ _=>at_ λ_=>at_ λ_=>at_ λ_=>at_ λ_=>at_ λ_=>at0 rfl),cD:=H51.to X G (λ_ _ _ _ _ _=>at_ λ_=>at_ λ_=>at_ λ_=>at_ λ_=>at0 rfl),bY:=H52.to X G (λ_ _ _ _ _ _=>at_ λ_=>at0 rfl),b9:=H53.to X G (λ_ _ _ _ _ _=>at_ λ_=>at0 rfl),aS:=H54.to X G (λ_ _ _ _ _ _=>at_ λ_=>at0 rfl),av:=H55.to X G (λ_ _ _ _ _ _=>at_ λ_=>at0 rfl),aN:=H56.to X G (λ_ _ _ _ _ _=>at_ λ_=>at0 rfl),aO:=H57.to X G (λ_ _ _ _ _ _=>at_ λ_=>at_ λ_=>at0 rfl),bW:=H58.to X G (λ_ _ _ _ _ _=>at_ λ_=>at_ λ_=>at0 rfl),bp:=H59.to X G (λ_ _ _ _ _ _=>at_ λ_=>at_ λ_=>at0 rfl),eN:=H60.to X G (λ_ _ _ _ _ _=>at_ λ_=>at0 rfl),bA:=bQ,gS:=rR X G bA,aw:=⟨fT,fS,fR,fQ⟩,aq:=bA,aK:=aK,aB:=aB,fE:=se X G ib,gR:=se X G gx,gQ:=se X G gw,eL:=se X G dD,gA:=se X G ia,bN:=se X G d3,aJ:=se X G i9,gP:=se X G gv,fY:=se X G i7,iQ:=se X G i6,dE:=se X G fV,gn:=se X G gu,iP:=se X G i5,eK:=se X G i3,fX:=se X G hZ,b5:=se X G fU,aA:=aE,g0:=rR X G aA,cb:=⟨rR X G aA,cb⟩,g6:=⟨dm,di,bK,dB,dz,jQ,jO,du⟩,ck:=ck,bK:=bK,cg:=cg,b7:=bg,gU:=rR X G b7,d6:=⟨rR X G b7,d6⟩,gW:=⟨fg,fe,cV,fm,fj,jQ,jO,fh⟩,d8:=d8,cV:=cV,d7:=d7,ay:=aD,fZ:=rR X G ay,c9:=⟨rR X G ay,c9⟩,g5:=⟨dj,dh,bJ,dA,dy,jQ,jO,dq⟩,cj:=cj,bJ:=bJ,cf:=cf,fF:=⟨_,rR X G eG⟩,dv:=⟨_,rR X G cE⟩,fG:=⟨_,rR X G eH⟩,dw:=⟨_,rR X G cF⟩,ak:=bM,cI:=rR X G ak,cJ:=λH=> .inr ⟨_,_,_,bO,rfl,rfl,by show 3<=sizeLine;decide,(.cons ⟨_,rfl⟩ (.cons ⟨_,rfl⟩ (.cons ⟨_,rfl⟩ .nil)))⟩,aT:=cW,dZ:=rR X G aT,ef:=λH=> .inr ⟨_,_,_,cX,rfl,rfl,by show 3<=sizeLine;decide,(.cons ⟨_,rfl⟩ (.cons ⟨_,rfl⟩ (.cons ⟨_,rfl⟩ .nil)))⟩,ax:=cK,c5:=rR X G ax,c7:=λH=> .inr ⟨_,_,_,cN,rfl,rfl,by show 4<=sizeLine;decide,(.cons ⟨_,rfl⟩ (.cons ⟨_,rfl⟩ (.cons ⟨_,rfl⟩ (.cons ⟨_,rfl⟩ .nil))))⟩,e8:=⟨_,rR X G cZ⟩,eM:=⟨_,rR X G dC⟩,dH:=⟨_,rR X G cP⟩,cM:=⟨_,rR X G cQ⟩,e7:=⟨_,rR X G cY⟩,d4:=⟨_,rR X G cz⟩,dJ:=⟨_,rR X G cS⟩,cL:=⟨_,rR X G cO⟩,dI:=⟨_,rR X G cR⟩}
theorem zoo {l:A0} {w:World} {K:r6} {mg:Str->Option Value} {fa:Addr} (q8:mg "law"=some (.ref fa)) (T:Tx K mg):
  ∃fd:FuncData,(∀(s:Shared) (v:Value),BindsTo s fd ⟨[v],[]⟩ [("_law_script",v)])/\∀base:Heap,K.In base->base.Ns mainGlobals mg->zZ l.prog w K mg base (CXE l.prog w) 69 fa fd ["_law_script"] (zbJ K):=by
 have e:=zn1 T.eN (λ_ _=>trivial) q8;subst e
 exact⟨_,λs v=>by
  obtain⟨_,_,_,_,_,_,_,_,_,e,_⟩:=T.eN.F.ex;rw[e]
  exact .of_eq rfl,λbase _ _=>zon T⟩
theorem zp1 {l:A0} {q:Program} {loose:List Str} {XP:(Str->Option Value)->Heap->Prop} {YP:World->Heap->Prop} {d:DefRec} {K:Params->r6} (hn:l.most=some 63) (kz:d.params.defaults=[])
  (hY:∀(w:World) (h:Heap),YP w h->(K w.params).In h)
  (F:∀(w:World) (mg:Str->Option Value) (fa:Addr) (h:Heap),(K w.params).In h->h.Ns mainGlobals mg->mg d.name=some (.ref fa)->
   ∃fd:FuncData,(∀(s:Shared) (u:Value),BindsTo s fd ⟨[u],[]⟩ [("_law_script",u)])/\∀base:Heap,(K w.params).In base->base.Ns mainGlobals mg->zZ l.prog w (K w.params) mg base (CXE l.prog w) 69 fa fd ["_law_script"] (zbJ (K w.params))):
  Bc q loose XP YP l.row.toRowW d [] (λf vs=>AU f vs):=
 L2.zk8 (n:=63) (k:=69) (x:="_law_script") (CX:=λw=>CXE l.prog w) (sp:=λw=>zbJ (K w.params)) hn ∅ kz ⟨rfl,∅,∅,rfl⟩ hY F (λ_ _ a ns hl hO hS=>⟨a,ns,rfl,hO,hS,hl,λ_=>rfl⟩) λ_ _ _ _ _ ⟨_,_,_,_,_,z⟩=>z
end Prf
open PySem PySem.W PyProof.Rows
local macro_rules | `(tactic| walk_at "fl") => `(tactic| exact Prf.zps (by k_is) (by k_is) (by k_is) (by k_is))
local macro_rules | `(tactic| walk_at "ml") => `(tactic| exact Prf.zpt (by k_is) (by k_is) (by k_is) (by k_is) (by k_is))
set_option maxRecDepth 100000 in
set_option maxHeartbeats 0 in
theorem PySem.Challenge.cw_lots_k21_whole_read_again_holds : PySem.Challenge.rw_lots_k21_whole_read_again.Holds := by
 w_on;o_law;k_head;(case hw=>w_witness2)
 k_fill
 refine Prf.zp1 (l:=PySem.Challenge.rw_lots_k21_whole_read_again) rfl rfl (λw h Y=>B3 Y) ?F
 case F=>
  intro w mg fa h KX G jt;refine' Prf.zoo jt (Prf.zpL KX G ?bA ?H0 ?H1 ?H2 ?H3 ?H4 ?H5 ?H6 ?H7 ?H8 ?H9 ?H10 ?H11 ?H12 ?H13 ?H14 ?H15 ?H16 ?H17 ?H18 ?H19 ?H20 ?H21 ?H22 ?H23 ?H24 ?H25 ?H26 ?H27 ?H28 ?H29 ?H30 ?H31 ?H32 ?H33 ?H34 ?H35 ?H36 ?H37 ?H38 ?H39 ?H40 ?H41 ?H42 ?H43 ?H44 ?H45 ?H46 ?H47 ?H48 ?H49 ?H50 ?H51 ?H52 ?H53 ?H54 ?H55 ?H56 ?H57 ?H58 ?H59 ?H60 ?fT ?fS ?fR ?fQ ?gp ?gm ?aK ?aB ?ib ?gx ?gw ?dD ?ia ?d3 ?i9 ?gv ?i7 ?i6 ?fV ?gu ?i5 ?i3 ?hZ ?fU ?jQ ?jO ?aA ?cb ?dm ?di ?dB ?dz ?du ?ck ?bK ?cg ?b7 ?d6 ?fg ?fe ?fm ?fj ?fh ?d8 ?cV ?d7 ?ay ?c9 ?dj ?dh ?dA ?dy ?dq ?cj ?bJ ?cf ?eG ?cE ?eH ?cF ?ak ?bO ?aT ?cX ?ax ?cN ?cZ ?dC ?cP ?cQ ?cY ?cz ?cS ?cO ?cR)
  (case bA=>k_is);(case H0=>walk_at "fl");(case H1=>walk_at "fl");(case H2=>walk_at "fl");(case H3=>walk_at "fl");(case H4=>walk_at "fl")
  (case H5=>walk_at "fl");(case H6=>walk_at "fl");(case H7=>walk_at "fl");(case H8=>walk_at "fl");(case H9=>walk_at "fl");(case H10=>walk_at "fl")
  (case H11=>walk_at "fl");(case H12=>walk_at "fl");(case H13=>walk_at "fl");(case H14=>walk_at "fl");(case H15=>walk_at "fl");(case H16=>walk_at "fl")
  (case H17=>walk_at "fl");(case H18=>walk_at "fl");(case H19=>walk_at "fl");(case H20=>walk_at "fl");(case H21=>walk_at "ml");(case H22=>walk_at "ml")
  (case H23=>walk_at "ml");(case H24=>walk_at "ml");(case H25=>walk_at "fl");(case H26=>walk_at "fl");(case H27=>walk_at "fl");(case H28=>walk_at "fl")
  (case H29=>walk_at "fl");(case H30=>walk_at "fl");(case H31=>walk_at "fl");(case H32=>walk_at "fl");(case H33=>walk_at "fl");(case H34=>walk_at "fl")
  (case H35=>walk_at "fl");(case H36=>walk_at "fl");(case H37=>walk_at "fl");(case H38=>walk_at "fl");(case H39=>walk_at "fl");(case H40=>walk_at "fl")
  (case H41=>walk_at "fl");(case H42=>walk_at "fl");(case H43=>walk_at "fl");(case H44=>walk_at "fl");(case H45=>walk_at "fl");(case H46=>walk_at "fl")
  (case H47=>walk_at "fl");(case H48=>walk_at "fl");(case H49=>walk_at "fl");(case H50=>walk_at "fl");(case H51=>walk_at "fl");(case H52=>walk_at "fl")
  (case H53=>walk_at "fl");(case H54=>walk_at "fl");(case H55=>walk_at "fl");(case H56=>walk_at "fl");(case H57=>walk_at "fl");(case H58=>walk_at "fl")
  (case H59=>walk_at "fl");(case H60=>walk_at "fl");(case fT=>k_is);(case fS=>k_is);(case fR=>k_is);(case fQ=>k_is)
  (case gp=>k_is);(case gm=>k_is);(case aK=>k_is);(case aB=>k_is);(case ib=>k_is);(case gx=>k_is)
  (case gw=>k_is);(case dD=>k_is);(case ia=>k_is);(case d3=>k_is);(case i9=>k_is);(case gv=>k_is)
  (case i7=>k_is);(case i6=>k_is);(case fV=>k_is);(case gu=>k_is);(case i5=>k_is);(case i3=>k_is)
  (case hZ=>k_is);(case fU=>k_is);(case jQ=>k_is);(case jO=>k_is);(case aA=>k_is);(case cb=>k_exc)
  (case dm=>k_is);(case di=>k_is);(case dB=>k_is);(case dz=>k_is);(case du=>k_is);(case ck=>k_is)
  (case bK=>k_is);(case cg=>k_is);(case b7=>k_is);(case d6=>k_exc);(case fg=>k_is);(case fe=>k_is)
  (case fm=>k_is);(case fj=>k_is);(case fh=>k_is);(case d8=>k_is);(case cV=>k_is);(case d7=>k_is)
  (case ay=>k_is);(case c9=>k_exc);(case dj=>k_is);(case dh=>k_is);(case dA=>k_is);(case dy=>k_is)
  (case dq=>k_is);(case cj=>k_is);(case bJ=>k_is);(case cf=>k_is);(case eG=>k_is);(case cE=>k_is)
  (case eH=>k_is);(case cF=>k_is);(case ak=>k_is);(case bO=>k_is);(case aT=>k_is);(case cX=>k_is)
  (case ax=>k_is);(case cN=>k_is);(case cZ=>k_is);(case dC=>k_is);(case cP=>k_is);(case cQ=>k_is)
  (case cY=>k_is);(case cz=>k_is);(case cS=>k_is);(case cO=>k_is);(case cR=>k_is)
